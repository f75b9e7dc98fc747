/- Timers in memory. -/
import Derived.Test.YtajpfmnnkglkiaaTimA
import Derived.RegionTactic
namespace Go.Proofs.Ytajpfmnnkglkiaa
open Go.RowKit

structure Tm.Ok (p : Tm) : Prop where
  i0 : -9223372036854775808 ≤ p.i
  i1 : p.i ≤ 9223372036854775807
  a0 : -9223372036854775808 ≤ p.a
  a1 : p.a ≤ 9223372036854775807
def Tms (L : List Tm) : Prop := ∀ p ∈ L, p.Ok
abbrev objT (i : Int) (a : Int) : Obj := .cells #[.int .i64 i, .int .i64 a] 41
abbrev valT (i : Int) (a : Int) : Value := .agg #[.int .i64 i, .int .i64 a]
/-- The cells of one, from offset o of block b on. -/
def T2 (W : World) (b o : Nat) (p : Tm) : Prop :=
  W.cell? ⟨b, o, none⟩ = some (.int .i64 p.i) ∧ W.cell? ⟨b, o + 1, none⟩ = some (.int .i64 p.a)
theorem T2.later {W W' : World} {b o : Nat} {p : Tm} (h : T2 W b o p) (hb : Below W.heap.size W W') : T2 W' b o p := by
  obtain ⟨h0, h1⟩ := h
  exact ⟨cell_later hb h0, cell_later hb h1⟩
theorem T2.far {W W' : World} {N o : Nat} {p : Tm} (h : T2 W N o p) (hf : ∀ o, W'.cell? ⟨N, o, none⟩ = W.cell? ⟨N, o, none⟩) : T2 W' N o p := by
  obtain ⟨h0, h1⟩ := h
  exact ⟨(hf _).trans h0, (hf _).trans h1⟩
theorem T2.new (W : World) (i : Int) (a : Int) : T2 (W.alloc (objT i a)) W.heap.size 0 ⟨i, a⟩ := by
  refine ⟨?_, ?_⟩ <;> simp [go_sem]
theorem T2.newAt (W : World) (N : Nat) (hN : N = W.heap.size) (i : Int) (a : Int) : T2 (W.alloc (objT i a)) N 0 ⟨i, a⟩ := by subst hN; exact T2.new W i a
theorem T2.z {W : World} {N : Nat} {i : Int} {a : Int} (hh : T2 W N 0 ⟨i, a⟩) :
    W.cell? ⟨N, 0, none⟩ = some (.int .i64 i) ∧ W.cell? ⟨N, 1, none⟩ = some (.int .i64 a) := by
  simpa [T2] using hh
/-- A row that came in. -/
def RowT (W : World) (a : Option Addr) (n : Nat) (ts : List Tm) : Prop :=
  ts.length = n ∧ Tms ts ∧ ∀ (i : Nat) (p : Tm), ts[i]? = some p → ∃ b off, a = some ⟨b, off, none⟩ ∧ T2 W b (off + i * 2) p
theorem RowT.later {W W' : World} {a : Option Addr} {n : Nat} {ts : List Tm} (h : RowT W a n ts) (hb : Below W.heap.size W W') : RowT W' a n ts :=
  ⟨h.1, h.2.1, fun i e he => by obtain ⟨b, off, e1, h5⟩ := h.2.2 i e he; exact ⟨b, off, e1, h5.later hb⟩⟩
theorem RowT.at {W : World} {a : Option Addr} {n : Nat} {ts : List Tm} (h : RowT W a n ts) {k : Nat} (hk : k < n) : ∃ p b off, ts[k]? = some p ∧ p.Ok ∧ a = some ⟨b, off, none⟩ ∧ T2 W b (off + k * 2) p := by
  have hl : k < ts.length := by rw [h.1]; exact hk
  obtain ⟨b, off, e1, h5⟩ := h.2.2 k ts[k] (List.getElem?_eq_getElem hl)
  exact ⟨ts[k], b, off, List.getElem?_eq_getElem hl, h.2.1 _ (List.getElem_mem hl), e1, h5⟩
theorem rowT_none (W : World) : RowT W none 0 [] := ⟨rfl, (fun _ h => by cases h), fun i e h => by simp at h⟩
/-- An entry's cells. -/
def Tm.cs (e : Tm) : List Value := [.int .i64 e.i, .int .i64 e.a]
theorem csT_flat_len (es : List Tm) : (es.flatMap Tm.cs).length = es.length * 2 := by
  induction es with
  | nil => rfl
  | cons e es ih => simp only [List.flatMap_cons, List.length_append, ih, List.length_cons]; simp only [Tm.cs, List.length_cons, List.length_nil]; omega
theorem csT_at : ∀ (es : List Tm) (i : Nat) (e : Tm), es[i]? = some e → ∀ j, j < 2 → (es.flatMap Tm.cs)[i * 2 + j]? = e.cs[j]? := by
  intro es
  induction es with
  | nil => intro i e h; simp at h
  | cons x es ih =>
    intro i e h j hj
    have hx : x.cs.length = 2 := rfl
    cases i with
    | zero =>
      simp at h; subst h
      rw [List.flatMap_cons, List.getElem?_append_left (by omega), Nat.zero_mul, Nat.zero_add]
    | succ i =>
      simp at h
      rw [List.flatMap_cons, List.getElem?_append_right (by omega), hx, ← ih i e h j hj]
      congr 1
      omega
/-- The slice value v, of n entries es, is a row of one's own, from block base on. -/
def OwnT (w : World) (base : Nat) (v : Value) (n : Nat) (es : List Tm) : Prop := w.ownsRow base 41 2 v n (es.flatMap Tm.cs)
theorem OwnT.shape {w : World} {base : Nat} {v : Value} {n : Nat} {es : List Tm} (h : OwnT w base v n es) : ∃ a cap, v = .slice a n cap := by
  rcases h.2 with ⟨rfl, rfl⟩ | ⟨g, c, cur, hv, _⟩
  · exact ⟨_, _, rfl⟩
  · exact ⟨_, _, hv⟩
theorem OwnT.len {w : World} {base : Nat} {v : Value} {n : Nat} {es : List Tm} (h : OwnT w base v n es) : es.length = n := by
  have := h.1; rw [csT_flat_len] at this; omega
theorem ownT_nil (w : World) (base : Nat) : OwnT w base (.slice none 0 0) 0 [] := World.ownsRow_nil w base 41 2
theorem OwnT.lt {w : World} {base : Nat} {v : Value} {n : Nat} {es : List Tm} (h : OwnT w base v n es) : ∀ k, v.ownBlock = some k → base ≤ k := fun k hk => (World.ownsRow.lt h k hk).1
theorem OwnT.later {w w' : World} {base : Nat} {v : Value} {n : Nat} {es : List Tm} (h : OwnT w base v n es) (hb : Below w.heap.size w w') : OwnT w' base v n es := by
  refine ⟨h.1, ?_⟩
  rcases h.2 with hn | ⟨g, cap, cur, hv, hbg, hg, r⟩
  · exact .inl hn
  · refine .inr ⟨g, cap, cur, hv, hbg, ?_, r⟩
    rw [hb.block g (Array.getElem?_eq_some_iff.1 hg).1]
    exact hg
/-- Stores into blocks below it change nothing of it. -/
theorem OwnT.keep {w w' : World} {base : Nat} {v : Value} {n : Nat} {es : List Tm} (h : OwnT w base v n es) (hb : ∀ k, base ≤ k → w'.heap[k]? = w.heap[k]?) : OwnT w' base v n es := by
  refine ⟨h.1, ?_⟩
  rcases h.2 with hn | ⟨g, cap, cur, hv, hbg, hg, r⟩
  · exact .inl hn
  · refine .inr ⟨g, cap, cur, hv, hbg, ?_, r⟩
    rw [hb g hbg]
    exact hg
theorem OwnT.row {w : World} {base : Nat} {a : Option Addr} {n m cap : Nat} {es : List Tm} (h : OwnT w base (.slice a m cap) n es) (hE : Tms es) : RowT w a n es := by
  refine ⟨h.len, hE, fun i e he => ?_⟩
  have hl := h.len
  have hi : i < es.length := (List.getElem?_eq_some_iff.1 he).1
  rcases h.2 with ⟨_, h0⟩ | ⟨g, c, cur, hv, _⟩
  · omega
  · have hc := fun j u hu => World.ownsRow.cells h (g := g) (by rw [hv]; rfl) j u hu
    have hat := csT_at es i e he
    simp only [Value.slice.injEq] at hv
    refine ⟨g, 0, hv.1, ?_⟩
    have key : ∀ j u, j < 2 → e.cs[j]? = some u → w.cell? ⟨g, 0 + i * 2 + j, none⟩ = some u := fun j u hj hu => by
      have := hc (i * 2 + j) u (by rw [hat j hj]; exact hu)
      rw [Go.WideShapes.add_plain] at this
      rw [← this]
      congr 2
      omega
    exact ⟨key 0 _ (by omega) rfl, key 1 _ (by omega) rfl⟩

section
variable {P : Program} (w : World)
theorem run_appT_nil (t ty : TypeId) (i : TypeInfo) (ht : P.underlying t = some (.slice 41)) (hi : P.info? 41 = some i) (base : Nat) (v : Value) (n : Nat) (es : List Tm) (hown : OwnT w base v n es) (c : Nat) :
    (Builtin.append_ #[t, t] ty #[v, .slice none 0 c]).run P w = .ok v w := by
  rcases hown.2 with ⟨rfl, rfl⟩ | ⟨g, cap, cur, rfl, hb, hg, hle, _⟩
  · simp [Builtin.append_, run_underlying ht, sizeOf, typeInfo, hi, Builtin.lenOf, Builtin.firstCells]
  · simp [Builtin.append_, run_underlying ht, sizeOf, typeInfo, hi, Builtin.lenOf, Builtin.firstCells, hle, storeCells]

theorem run_appT (base : Nat) (t ty : TypeId) (ht : P.underlying t = some (.slice 41)) (hinfo : (P.info? 41).map (fun i => (i.zero, i.size, i.bytes)) = some (some (.agg #[.int .i64 0, .int .i64 0]), 2, 16))
    (v : Value) (n : Nat) (es : List Tm) (hown : OwnT w base v n es) (ad : Option Addr) (m c : Nat) (fs : List Tm) (h2 : RowT w ad m fs) (hlen : n + m ≤ 100000) (hbase : base ≤ w.heap.size) :
    ∃ a' c' w', (Builtin.append_ #[t, t] ty #[v, .slice ad m c]).run P w = .ok (.slice a' (n + m) c') w' ∧ OwnT w' base (.slice a' (n + m) c') (n + m) (es ++ fs) ∧ Below base w w' := by
  obtain ⟨i, hi, hzz⟩ := Option.map_eq_some_iff.1 hinfo
  simp only [Prod.mk.injEq] at hzz
  obtain ⟨hz, hs, hb⟩ := hzz
  obtain ⟨hl2, _, hc2⟩ := h2
  cases ad with
  | none =>
    have hm : m = 0 := by
      rcases Nat.eq_zero_or_pos m with h | h
      · exact h
      · obtain ⟨_, _, h, _⟩ := hc2 0 _ (List.getElem?_eq_getElem (by omega)); cases h
    subst hm
    obtain rfl : fs = [] := List.eq_nil_of_length_eq_zero hl2
    obtain ⟨a', c', rfl⟩ := hown.shape
    refine ⟨a', c', w, run_appT_nil w t ty i ht hi base _ n es hown c, ?_, Below.refl _ _⟩
    simpa using hown
  | some x =>
    have hnews : ∀ j u, (fs.flatMap Tm.cs)[j]? = some u → w.cell? (x.add j) = some u := by
      intro j u hj
      have hjl : j < fs.length * 2 := by
        rcases Nat.lt_or_ge j (fs.length * 2) with h | h
        · exact h
        · rw [List.getElem?_eq_none (by rw [csT_flat_len]; exact h)] at hj; cases hj
      have hq : j / 2 < fs.length := by omega
      obtain ⟨b, off, e1, hc⟩ := hc2 (j / 2) _ (List.getElem?_eq_getElem hq)
      simp only [Option.some.injEq] at e1
      subst e1
      have hat := csT_at fs (j / 2) _ (List.getElem?_eq_getElem hq) (j % 2) (by omega)
      rw [show j / 2 * 2 + j % 2 = j from by omega, hj] at hat
      rw [Go.WideShapes.add_plain]
      have : off + j = off + j / 2 * 2 + j % 2 := by omega
      rw [this]
      obtain ⟨c0, c1⟩ := hc
      have hm5 : j % 2 < 2 := by omega
      generalize j % 2 = r at hat hm5
      match r, hm5, hat with
      | 0, _, hat => simp [Tm.cs] at hat; rw [hat]; exact c0
      | 1, _, hat => simp [Tm.cs] at hat; rw [hat]; exact c1
    obtain ⟨v', w', hr, h3, h4, _⟩ := run_append_own (P := P) w base t ty 41 i (.agg #[.int .i64 0, .int .i64 0]) 2 16 ht hi hz hs hb rfl (by decide) v n _ hown x m c (fs.flatMap Tm.cs) (by rw [csT_flat_len, hl2]) hnews
      (by intro u hu; obtain ⟨k, _, hk⟩ := List.mem_flatMap.1 hu; simp only [Tm.cs, List.mem_cons, List.not_mem_nil, or_false] at hk; rcases hk with rfl | rfl <;> rfl) (by unfold maxLen; omega) (by omega) hbase
    have h5 : OwnT w' base v' (n + m) (es ++ fs) := by unfold OwnT; rw [List.flatMap_append]; exact h3
    obtain ⟨a', c', rfl⟩ := h5.shape
    exact ⟨a', c', w', hr, h5, (Below.refl _ _).grown h4 hbase hown.lt⟩

theorem wp_appT {o : Oper} {a : Act} {K : Act → World → Prop} {Q : Exit → Act → World → Prop} (s x : Operand) (t : TypeId)
    (ho : o.op = .call { callee := .builtin .append, args := #[s, x], argTypes := #[t, t] }) (base : Nat)
    (ht : P.underlying t = some (.slice 41)) (hinfo : (P.info? 41).map (fun i => (i.zero, i.size, i.bytes)) = some (some (.agg #[.int .i64 0, .int .i64 0]), 2, 16))
    (v : Value) (n : Nat) (es : List Tm) (hs : a.eval s = v) (hown : OwnT w base v n es) (ad : Option Addr) (m c : Nat) (fs : List Tm) (hx : a.eval x = .slice ad m c) (h2 : RowT w ad m fs) (k : Nat) (hk : n + m = k) (gs : List Tm) (hl : es ++ fs = gs) (hlen : k ≤ 100000) (hbase : base ≤ w.heap.size)
    (h : ∀ a' c' w', OwnT w' base (.slice a' k c') k gs → Below base w w' → K (a.put o.dst (.slice a' k c')) w') : o.wp P a w K Q := by
  subst hk hl
  obtain ⟨a', c', w', hr, h3, h4⟩ := run_appT (P := P) w base t o.type ht hinfo v n es hown ad m c fs h2 hlen hbase
  unfold Oper.wp execOp
  simp only [ho, resolve, invoke, builtin, Sem.run_bind, Sem.run_pure, Result.andThen_ok, List.map_toArray, List.map_cons, List.map_nil, hs, hx, hr]
  exact h a' c' w' h3 h4
theorem wpList_appT {ops : Array Oper} {rest : List Oper} {o : Oper} {a : Act} {Q : Exit → Act → World → Prop} (hgd : o.guard = none) (s x : Operand) (t : TypeId)
    (ho : o.op = .call { callee := .builtin .append, args := #[s, x], argTypes := #[t, t] }) (base : Nat)
    (ht : P.underlying t = some (.slice 41)) (hinfo : (P.info? 41).map (fun i => (i.zero, i.size, i.bytes)) = some (some (.agg #[.int .i64 0, .int .i64 0]), 2, 16))
    (v : Value) (n : Nat) (es : List Tm) (hs : a.eval s = v) (hown : OwnT w base v n es) (ad : Option Addr) (m c : Nat) (fs : List Tm) (hx : a.eval x = .slice ad m c) (h2 : RowT w ad m fs) (k : Nat) (hk : n + m = k) (gs : List Tm) (hl : es ++ fs = gs) (hlen : k ≤ 100000) (hbase : base ≤ w.heap.size)
    (h : ∀ a' c' w', OwnT w' base (.slice a' k c') k gs → Below base w w' → wpList P ops Q rest (a.put o.dst (.slice a' k c')) w') : wpList P ops Q (o :: rest) a w := by
  refine wpList_plain hgd fun _ hK => ?_
  exact wp_appT w s x t ho base ht hinfo v n es hs hown ad m c fs hx h2 k hk gs hl hlen hbase fun a' c' w' h3 h4 => hK _ _ (h a' c' w' h3 h4)
theorem step_appT {ops : Array Oper} {o : Oper} {a : Act} {K : Act → World → Prop} {Q : Exit → Act → World → Prop} {E : Prop} (hgd : o.guard = none) (s x : Operand) (t : TypeId)
    (ho : o.op = .call { callee := .builtin .append, args := #[s, x], argTypes := #[t, t] }) (base : Nat)
    (ht : P.underlying t = some (.slice 41)) (hinfo : (P.info? 41).map (fun i => (i.zero, i.size, i.bytes)) = some (some (.agg #[.int .i64 0, .int .i64 0]), 2, 16))
    (v : Value) (n : Nat) (es : List Tm) (hs : a.eval s = v) (hown : OwnT w base v n es) (ad : Option Addr) (m c : Nat) (fs : List Tm) (hx : a.eval x = .slice ad m c) (h2 : RowT w ad m fs) (k : Nat) (hk : n + m = k) (gs : List Tm) (hl : es ++ fs = gs) (hlen : k ≤ 100000) (hbase : base ≤ w.heap.size)
    (h : ∀ a' c' w', OwnT w' base (.slice a' k c') k gs → Below base w w' → K (a.put o.dst (.slice a' k c')) w') :
    if Region.wanted o (yielded ops a.tmps) = true then Oper.wp P o a w K Q else E := by
  have hw : Region.wanted o (yielded ops a.tmps) = true := by simp [Region.wanted, hgd]
  rw [if_pos hw]
  exact wp_appT w s x t ho base ht hinfo v n es hs hown ad m c fs hx h2 k hk gs hl hlen hbase h
end
theorem infoT : (Try.prog.info? 41).map (fun i => (i.zero, i.size, i.bytes)) = some (some (.agg #[.int .i64 0, .int .i64 0]), 2, 16) := by kernel_rfl
/-- One part in a block. -/
theorem rowT_one {W : World} {N M : Nat} {e : Tm} (h : T2 W M 0 e) (hm : M = N) (hk : e.Ok) : RowT W (some ⟨N, 0, none⟩) 1 [e] := by
  subst hm
  refine ⟨rfl, fun x hx => by simp at hx; subst hx; exact hk, fun i x hx => ?_⟩
  cases i with
  | zero => simp at hx; subst hx; exact ⟨M, 0, rfl, by simpa using h⟩
  | succ i => simp at hx
theorem OwnT.mid {w w' : World} {N : Nat} {v : Value} {n : Nat} {es : List Tm} (h : OwnT w (N + 1) v n es) (hb : ∀ j, N < j → j < w.heap.size → w'.heap[j]? = w.heap[j]?) : OwnT w' (N + 1) v n es := by
  refine ⟨h.1, ?_⟩
  rcases h.2 with hn | ⟨g, cap, cur, hv, hbg, hg, r⟩
  · exact .inl hn
  · refine .inr ⟨g, cap, cur, hv, hbg, ?_, r⟩
    rw [hb g hbg (Array.getElem?_eq_some_iff.1 hg).1]
    exact hg
end Go.Proofs.Ytajpfmnnkglkiaa
