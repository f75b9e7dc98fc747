/- Bands in memory. -/
import Derived.Test.YtlpfbmeelacgaaaBasB
import Derived.RegionTactic
namespace Go.Proofs.Ytlpfbmeelacgaaa
open Go.RowKit

structure Ba.Ok (p : Ba) : Prop where
  u0 : -9223372036854775808 ≤ p.u
  u1 : p.u ≤ 9223372036854775807
  m0 : -9223372036854775808 ≤ p.m
  m1 : p.m ≤ 9223372036854775807
def Bas (L : List Ba) : Prop := ∀ p ∈ L, p.Ok
abbrev objB (u : Int) (m : Int) : Obj := .cells #[.int .i64 u, .int .i64 m] 30
abbrev valB (u : Int) (m : Int) : Value := .agg #[.int .i64 u, .int .i64 m]
/-- The cells of one, from offset o of block b on. -/
def B2 (W : World) (b o : Nat) (p : Ba) : Prop :=
  W.cell? ⟨b, o, none⟩ = some (.int .i64 p.u) ∧ W.cell? ⟨b, o + 1, none⟩ = some (.int .i64 p.m)
theorem B2.later {W W' : World} {b o : Nat} {p : Ba} (h : B2 W b o p) (hb : Below W.heap.size W W') : B2 W' b o p := by
  obtain ⟨h0, h1⟩ := h
  exact ⟨cell_later hb h0, cell_later hb h1⟩
theorem B2.far {W W' : World} {N o : Nat} {p : Ba} (h : B2 W N o p) (hf : ∀ o, W'.cell? ⟨N, o, none⟩ = W.cell? ⟨N, o, none⟩) : B2 W' N o p := by
  obtain ⟨h0, h1⟩ := h
  exact ⟨(hf _).trans h0, (hf _).trans h1⟩
theorem B2.new (W : World) (u : Int) (m : Int) : B2 (W.alloc (objB u m)) W.heap.size 0 ⟨u, m⟩ := by
  refine ⟨?_, ?_⟩ <;> simp [go_sem]
theorem B2.newAt (W : World) (N : Nat) (hN : N = W.heap.size) (u : Int) (m : Int) : B2 (W.alloc (objB u m)) N 0 ⟨u, m⟩ := by subst hN; exact B2.new W u m
theorem B2.z {W : World} {N : Nat} {u : Int} {m : Int} (hh : B2 W N 0 ⟨u, m⟩) :
    W.cell? ⟨N, 0, none⟩ = some (.int .i64 u) ∧ W.cell? ⟨N, 1, none⟩ = some (.int .i64 m) := by
  simpa [B2] using hh
/-- A row that came in. -/
def RowB (W : World) (a : Option Addr) (n : Nat) (ts : List Ba) : Prop :=
  ts.length = n ∧ Bas ts ∧ ∀ (i : Nat) (p : Ba), ts[i]? = some p → ∃ b off, a = some ⟨b, off, none⟩ ∧ B2 W b (off + i * 2) p
theorem RowB.later {W W' : World} {a : Option Addr} {n : Nat} {ts : List Ba} (h : RowB W a n ts) (hb : Below W.heap.size W W') : RowB W' a n ts :=
  ⟨h.1, h.2.1, fun i e he => by obtain ⟨b, off, e1, h5⟩ := h.2.2 i e he; exact ⟨b, off, e1, h5.later hb⟩⟩
theorem RowB.at {W : World} {a : Option Addr} {n : Nat} {ts : List Ba} (h : RowB W a n ts) {k : Nat} (hk : k < n) : ∃ p b off, ts[k]? = some p ∧ p.Ok ∧ a = some ⟨b, off, none⟩ ∧ B2 W b (off + k * 2) p := by
  have hl : k < ts.length := by rw [h.1]; exact hk
  obtain ⟨b, off, e1, h5⟩ := h.2.2 k ts[k] (List.getElem?_eq_getElem hl)
  exact ⟨ts[k], b, off, List.getElem?_eq_getElem hl, h.2.1 _ (List.getElem_mem hl), e1, h5⟩
theorem rowB_none (W : World) : RowB W none 0 [] := ⟨rfl, (fun _ h => by cases h), fun i e h => by simp at h⟩
/-- An entry's cells. -/
def Ba.cs (e : Ba) : List Value := [.int .i64 e.u, .int .i64 e.m]
theorem csB_flat_len (es : List Ba) : (es.flatMap Ba.cs).length = es.length * 2 := by
  induction es with
  | nil => rfl
  | cons e es ih => simp only [List.flatMap_cons, List.length_append, ih, List.length_cons]; simp only [Ba.cs, List.length_cons, List.length_nil]; omega
theorem csB_at : ∀ (es : List Ba) (i : Nat) (e : Ba), es[i]? = some e → ∀ j, j < 2 → (es.flatMap Ba.cs)[i * 2 + j]? = e.cs[j]? := by
  intro es
  induction es with
  | nil => intro i e h; simp at h
  | cons x es ih =>
    intro i e h j hj
    have hx : x.cs.length = 2 := rfl
    cases i with
    | zero =>
      simp at h; subst h
      rw [List.flatMap_cons, List.getElem?_append_left (by omega), Nat.zero_mul, Nat.zero_add]
    | succ i =>
      simp at h
      rw [List.flatMap_cons, List.getElem?_append_right (by omega), hx, ← ih i e h j hj]
      congr 1
      omega
/-- The slice value v, of n entries es, is a row of one's own, from block base on. -/
def OwnB (w : World) (base : Nat) (v : Value) (n : Nat) (es : List Ba) : Prop := w.ownsRow base 30 2 v n (es.flatMap Ba.cs)
theorem OwnB.shape {w : World} {base : Nat} {v : Value} {n : Nat} {es : List Ba} (h : OwnB w base v n es) : ∃ a cap, v = .slice a n cap := by
  rcases h.2 with ⟨rfl, rfl⟩ | ⟨g, c, cur, hv, _⟩
  · exact ⟨_, _, rfl⟩
  · exact ⟨_, _, hv⟩
theorem OwnB.len {w : World} {base : Nat} {v : Value} {n : Nat} {es : List Ba} (h : OwnB w base v n es) : es.length = n := by
  have := h.1; rw [csB_flat_len] at this; omega
theorem ownB_nil (w : World) (base : Nat) : OwnB w base (.slice none 0 0) 0 [] := World.ownsRow_nil w base 30 2
theorem OwnB.lt {w : World} {base : Nat} {v : Value} {n : Nat} {es : List Ba} (h : OwnB w base v n es) : ∀ k, v.ownBlock = some k → base ≤ k := fun k hk => (World.ownsRow.lt h k hk).1
theorem OwnB.later {w w' : World} {base : Nat} {v : Value} {n : Nat} {es : List Ba} (h : OwnB w base v n es) (hb : Below w.heap.size w w') : OwnB w' base v n es := by
  refine ⟨h.1, ?_⟩
  rcases h.2 with hn | ⟨g, cap, cur, hv, hbg, hg, r⟩
  · exact .inl hn
  · refine .inr ⟨g, cap, cur, hv, hbg, ?_, r⟩
    rw [hb.block g (Array.getElem?_eq_some_iff.1 hg).1]
    exact hg
/-- Stores into blocks below it change nothing of it. -/
theorem OwnB.keep {w w' : World} {base : Nat} {v : Value} {n : Nat} {es : List Ba} (h : OwnB w base v n es) (hb : ∀ k, base ≤ k → w'.heap[k]? = w.heap[k]?) : OwnB w' base v n es := by
  refine ⟨h.1, ?_⟩
  rcases h.2 with hn | ⟨g, cap, cur, hv, hbg, hg, r⟩
  · exact .inl hn
  · refine .inr ⟨g, cap, cur, hv, hbg, ?_, r⟩
    rw [hb g hbg]
    exact hg
theorem OwnB.row {w : World} {base : Nat} {a : Option Addr} {n m cap : Nat} {es : List Ba} (h : OwnB w base (.slice a m cap) n es) (hE : Bas es) : RowB w a n es := by
  refine ⟨h.len, hE, fun i e he => ?_⟩
  have hl := h.len
  have hi : i < es.length := (List.getElem?_eq_some_iff.1 he).1
  rcases h.2 with ⟨_, h0⟩ | ⟨g, c, cur, hv, _⟩
  · omega
  · have hc := fun j u hu => World.ownsRow.cells h (g := g) (by rw [hv]; rfl) j u hu
    have hat := csB_at es i e he
    simp only [Value.slice.injEq] at hv
    refine ⟨g, 0, hv.1, ?_⟩
    have key : ∀ j u, j < 2 → e.cs[j]? = some u → w.cell? ⟨g, 0 + i * 2 + j, none⟩ = some u := fun j u hj hu => by
      have := hc (i * 2 + j) u (by rw [hat j hj]; exact hu)
      rw [Go.WideShapes.add_plain] at this
      rw [← this]
      congr 2
      omega
    exact ⟨key 0 _ (by omega) rfl, key 1 _ (by omega) rfl⟩

section
variable {P : Program} (w : World)
theorem run_appB_nil (t ty : TypeId) (i : TypeInfo) (ht : P.underlying t = some (.slice 30)) (hi : P.info? 30 = some i) (base : Nat) (v : Value) (n : Nat) (es : List Ba) (hown : OwnB w base v n es) (c : Nat) :
    (Builtin.append_ #[t, t] ty #[v, .slice none 0 c]).run P w = .ok v w := by
  rcases hown.2 with ⟨rfl, rfl⟩ | ⟨g, cap, cur, rfl, hb, hg, hle, _⟩
  · simp [Builtin.append_, run_underlying ht, sizeOf, typeInfo, hi, Builtin.lenOf, Builtin.firstCells]
  · simp [Builtin.append_, run_underlying ht, sizeOf, typeInfo, hi, Builtin.lenOf, Builtin.firstCells, hle, storeCells]

theorem run_appB (base : Nat) (t ty : TypeId) (ht : P.underlying t = some (.slice 30)) (hinfo : (P.info? 30).map (fun i => (i.zero, i.size, i.bytes)) = some (some (.agg #[.int .i64 0, .int .i64 0]), 2, 16))
    (v : Value) (n : Nat) (es : List Ba) (hown : OwnB w base v n es) (ad : Option Addr) (m c : Nat) (fs : List Ba) (h2 : RowB w ad m fs) (hlen : n + m ≤ 100000) (hbase : base ≤ w.heap.size) :
    ∃ a' c' w', (Builtin.append_ #[t, t] ty #[v, .slice ad m c]).run P w = .ok (.slice a' (n + m) c') w' ∧ OwnB w' base (.slice a' (n + m) c') (n + m) (es ++ fs) ∧ Below base w w' := by
  obtain ⟨i, hi, hzz⟩ := Option.map_eq_some_iff.1 hinfo
  simp only [Prod.mk.injEq] at hzz
  obtain ⟨hz, hs, hb⟩ := hzz
  obtain ⟨hl2, _, hc2⟩ := h2
  cases ad with
  | none =>
    have hm : m = 0 := by
      rcases Nat.eq_zero_or_pos m with h | h
      · exact h
      · obtain ⟨_, _, h, _⟩ := hc2 0 _ (List.getElem?_eq_getElem (by omega)); cases h
    subst hm
    obtain rfl : fs = [] := List.eq_nil_of_length_eq_zero hl2
    obtain ⟨a', c', rfl⟩ := hown.shape
    refine ⟨a', c', w, run_appB_nil w t ty i ht hi base _ n es hown c, ?_, Below.refl _ _⟩
    simpa using hown
  | some x =>
    have hnews : ∀ j u, (fs.flatMap Ba.cs)[j]? = some u → w.cell? (x.add j) = some u := by
      intro j u hj
      have hjl : j < fs.length * 2 := by
        rcases Nat.lt_or_ge j (fs.length * 2) with h | h
        · exact h
        · rw [List.getElem?_eq_none (by rw [csB_flat_len]; exact h)] at hj; cases hj
      have hq : j / 2 < fs.length := by omega
      obtain ⟨b, off, e1, hc⟩ := hc2 (j / 2) _ (List.getElem?_eq_getElem hq)
      simp only [Option.some.injEq] at e1
      subst e1
      have hat := csB_at fs (j / 2) _ (List.getElem?_eq_getElem hq) (j % 2) (by omega)
      rw [show j / 2 * 2 + j % 2 = j from by omega, hj] at hat
      rw [Go.WideShapes.add_plain]
      have : off + j = off + j / 2 * 2 + j % 2 := by omega
      rw [this]
      obtain ⟨c0, c1⟩ := hc
      have hm5 : j % 2 < 2 := by omega
      generalize j % 2 = r at hat hm5
      match r, hm5, hat with
      | 0, _, hat => simp [Ba.cs] at hat; rw [hat]; exact c0
      | 1, _, hat => simp [Ba.cs] at hat; rw [hat]; exact c1
    obtain ⟨v', w', hr, h3, h4, _⟩ := run_append_own (P := P) w base t ty 30 i (.agg #[.int .i64 0, .int .i64 0]) 2 16 ht hi hz hs hb rfl (by decide) v n _ hown x m c (fs.flatMap Ba.cs) (by rw [csB_flat_len, hl2]) hnews
      (by intro u hu; obtain ⟨k, _, hk⟩ := List.mem_flatMap.1 hu; simp only [Ba.cs, List.mem_cons, List.not_mem_nil, or_false] at hk; rcases hk with rfl | rfl <;> rfl) (by unfold maxLen; omega) (by omega) hbase
    have h5 : OwnB w' base v' (n + m) (es ++ fs) := by unfold OwnB; rw [List.flatMap_append]; exact h3
    obtain ⟨a', c', rfl⟩ := h5.shape
    exact ⟨a', c', w', hr, h5, (Below.refl _ _).grown h4 hbase hown.lt⟩

theorem wp_appB {o : Oper} {a : Act} {K : Act → World → Prop} {Q : Exit → Act → World → Prop} (s x : Operand) (t : TypeId)
    (ho : o.op = .call { callee := .builtin .append, args := #[s, x], argTypes := #[t, t] }) (base : Nat)
    (ht : P.underlying t = some (.slice 30)) (hinfo : (P.info? 30).map (fun i => (i.zero, i.size, i.bytes)) = some (some (.agg #[.int .i64 0, .int .i64 0]), 2, 16))
    (v : Value) (n : Nat) (es : List Ba) (hs : a.eval s = v) (hown : OwnB w base v n es) (ad : Option Addr) (m c : Nat) (fs : List Ba) (hx : a.eval x = .slice ad m c) (h2 : RowB w ad m fs) (k : Nat) (hk : n + m = k) (gs : List Ba) (hl : es ++ fs = gs) (hlen : k ≤ 100000) (hbase : base ≤ w.heap.size)
    (h : ∀ a' c' w', OwnB w' base (.slice a' k c') k gs → Below base w w' → K (a.put o.dst (.slice a' k c')) w') : o.wp P a w K Q := by
  subst hk hl
  obtain ⟨a', c', w', hr, h3, h4⟩ := run_appB (P := P) w base t o.type ht hinfo v n es hown ad m c fs h2 hlen hbase
  unfold Oper.wp execOp
  simp only [ho, resolve, invoke, builtin, Sem.run_bind, Sem.run_pure, Result.andThen_ok, List.map_toArray, List.map_cons, List.map_nil, hs, hx, hr]
  exact h a' c' w' h3 h4
theorem wpList_appB {ops : Array Oper} {rest : List Oper} {o : Oper} {a : Act} {Q : Exit → Act → World → Prop} (hgd : o.guard = none) (s x : Operand) (t : TypeId)
    (ho : o.op = .call { callee := .builtin .append, args := #[s, x], argTypes := #[t, t] }) (base : Nat)
    (ht : P.underlying t = some (.slice 30)) (hinfo : (P.info? 30).map (fun i => (i.zero, i.size, i.bytes)) = some (some (.agg #[.int .i64 0, .int .i64 0]), 2, 16))
    (v : Value) (n : Nat) (es : List Ba) (hs : a.eval s = v) (hown : OwnB w base v n es) (ad : Option Addr) (m c : Nat) (fs : List Ba) (hx : a.eval x = .slice ad m c) (h2 : RowB w ad m fs) (k : Nat) (hk : n + m = k) (gs : List Ba) (hl : es ++ fs = gs) (hlen : k ≤ 100000) (hbase : base ≤ w.heap.size)
    (h : ∀ a' c' w', OwnB w' base (.slice a' k c') k gs → Below base w w' → wpList P ops Q rest (a.put o.dst (.slice a' k c')) w') : wpList P ops Q (o :: rest) a w := by
  refine wpList_plain hgd fun _ hK => ?_
  exact wp_appB w s x t ho base ht hinfo v n es hs hown ad m c fs hx h2 k hk gs hl hlen hbase fun a' c' w' h3 h4 => hK _ _ (h a' c' w' h3 h4)
theorem step_appB {ops : Array Oper} {o : Oper} {a : Act} {K : Act → World → Prop} {Q : Exit → Act → World → Prop} {E : Prop} (hgd : o.guard = none) (s x : Operand) (t : TypeId)
    (ho : o.op = .call { callee := .builtin .append, args := #[s, x], argTypes := #[t, t] }) (base : Nat)
    (ht : P.underlying t = some (.slice 30)) (hinfo : (P.info? 30).map (fun i => (i.zero, i.size, i.bytes)) = some (some (.agg #[.int .i64 0, .int .i64 0]), 2, 16))
    (v : Value) (n : Nat) (es : List Ba) (hs : a.eval s = v) (hown : OwnB w base v n es) (ad : Option Addr) (m c : Nat) (fs : List Ba) (hx : a.eval x = .slice ad m c) (h2 : RowB w ad m fs) (k : Nat) (hk : n + m = k) (gs : List Ba) (hl : es ++ fs = gs) (hlen : k ≤ 100000) (hbase : base ≤ w.heap.size)
    (h : ∀ a' c' w', OwnB w' base (.slice a' k c') k gs → Below base w w' → K (a.put o.dst (.slice a' k c')) w') :
    if Region.wanted o (yielded ops a.tmps) = true then Oper.wp P o a w K Q else E := by
  have hw : Region.wanted o (yielded ops a.tmps) = true := by simp [Region.wanted, hgd]
  rw [if_pos hw]
  exact wp_appB w s x t ho base ht hinfo v n es hs hown ad m c fs hx h2 k hk gs hl hlen hbase h
end
theorem infoB : (Try.prog.info? 30).map (fun i => (i.zero, i.size, i.bytes)) = some (some (.agg #[.int .i64 0, .int .i64 0]), 2, 16) := by kernel_rfl
/-- One part in a block. -/
theorem rowB_one {W : World} {N M : Nat} {e : Ba} (h : B2 W M 0 e) (hm : M = N) (hk : e.Ok) : RowB W (some ⟨N, 0, none⟩) 1 [e] := by
  subst hm
  refine ⟨rfl, fun x hx => by simp at hx; subst hx; exact hk, fun i x hx => ?_⟩
  cases i with
  | zero => simp at hx; subst hx; exact ⟨M, 0, rfl, by simpa using h⟩
  | succ i => simp at hx
theorem OwnB.mid {w w' : World} {N : Nat} {v : Value} {n : Nat} {es : List Ba} (h : OwnB w (N + 1) v n es) (hb : ∀ j, N < j → j < w.heap.size → w'.heap[j]? = w.heap[j]?) : OwnB w' (N + 1) v n es := by
  refine ⟨h.1, ?_⟩
  rcases h.2 with hn | ⟨g, cap, cur, hv, hbg, hg, r⟩
  · exact .inl hn
  · refine .inr ⟨g, cap, cur, hv, hbg, ?_, r⟩
    rw [hb g hbg (Array.getElem?_eq_some_iff.1 hg).1]
    exact hg
end Go.Proofs.Ytlpfbmeelacgaaa
