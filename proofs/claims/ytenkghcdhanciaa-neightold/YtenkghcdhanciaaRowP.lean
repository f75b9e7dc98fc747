/- Calls in memory. -/
import Derived.Test.YtenkghcdhanciaaTimA
import Derived.RegionTactic
namespace Go.Proofs.Ytenkghcdhanciaa
open Go.RowKit

/-- A call: its kind, a number. -/
structure Op where
  k : Int
  a : Int
deriving DecidableEq
structure Op.Ok (p : Op) : Prop where
  k0 : -9223372036854775808 ≤ p.k
  k1 : p.k ≤ 9223372036854775807
  a0 : -9223372036854775808 ≤ p.a
  a1 : p.a ≤ 9223372036854775807
def Ops (L : List Op) : Prop := ∀ p ∈ L, p.Ok
abbrev objP (k : Int) (a : Int) : Obj := .cells #[.int .i64 k, .int .i64 a] 29
abbrev valP (k : Int) (a : Int) : Value := .agg #[.int .i64 k, .int .i64 a]
/-- The cells of one, from offset o of block b on. -/
def P2 (W : World) (b o : Nat) (p : Op) : Prop :=
  W.cell? ⟨b, o, none⟩ = some (.int .i64 p.k) ∧ W.cell? ⟨b, o + 1, none⟩ = some (.int .i64 p.a)
theorem P2.later {W W' : World} {b o : Nat} {p : Op} (h : P2 W b o p) (hb : Below W.heap.size W W') : P2 W' b o p := by
  obtain ⟨h0, h1⟩ := h
  exact ⟨cell_later hb h0, cell_later hb h1⟩
theorem P2.far {W W' : World} {N o : Nat} {p : Op} (h : P2 W N o p) (hf : ∀ o, W'.cell? ⟨N, o, none⟩ = W.cell? ⟨N, o, none⟩) : P2 W' N o p := by
  obtain ⟨h0, h1⟩ := h
  exact ⟨(hf _).trans h0, (hf _).trans h1⟩
theorem P2.new (W : World) (k : Int) (a : Int) : P2 (W.alloc (objP k a)) W.heap.size 0 ⟨k, a⟩ := by
  refine ⟨?_, ?_⟩ <;> simp [go_sem]
theorem P2.newAt (W : World) (N : Nat) (hN : N = W.heap.size) (k : Int) (a : Int) : P2 (W.alloc (objP k a)) N 0 ⟨k, a⟩ := by subst hN; exact P2.new W k a
theorem P2.z {W : World} {N : Nat} {k : Int} {a : Int} (hh : P2 W N 0 ⟨k, a⟩) :
    W.cell? ⟨N, 0, none⟩ = some (.int .i64 k) ∧ W.cell? ⟨N, 1, none⟩ = some (.int .i64 a) := by
  simpa [P2] using hh
/-- A row that came in. -/
def RowP (W : World) (a : Option Addr) (n : Nat) (ts : List Op) : Prop :=
  ts.length = n ∧ Ops ts ∧ ∀ (i : Nat) (p : Op), ts[i]? = some p → ∃ b off, a = some ⟨b, off, none⟩ ∧ P2 W b (off + i * 2) p
theorem RowP.later {W W' : World} {a : Option Addr} {n : Nat} {ts : List Op} (h : RowP W a n ts) (hb : Below W.heap.size W W') : RowP W' a n ts :=
  ⟨h.1, h.2.1, fun i e he => by obtain ⟨b, off, e1, h5⟩ := h.2.2 i e he; exact ⟨b, off, e1, h5.later hb⟩⟩
theorem RowP.at {W : World} {a : Option Addr} {n : Nat} {ts : List Op} (h : RowP W a n ts) {k : Nat} (hk : k < n) : ∃ p b off, ts[k]? = some p ∧ p.Ok ∧ a = some ⟨b, off, none⟩ ∧ P2 W b (off + k * 2) p := by
  have hl : k < ts.length := by rw [h.1]; exact hk
  obtain ⟨b, off, e1, h5⟩ := h.2.2 k ts[k] (List.getElem?_eq_getElem hl)
  exact ⟨ts[k], b, off, List.getElem?_eq_getElem hl, h.2.1 _ (List.getElem_mem hl), e1, h5⟩
theorem rowP_none (W : World) : RowP W none 0 [] := ⟨rfl, (fun _ h => by cases h), fun i e h => by simp at h⟩
/-- An entry's cells. -/
def Op.cs (e : Op) : List Value := [.int .i64 e.k, .int .i64 e.a]
theorem csP_flat_len (es : List Op) : (es.flatMap Op.cs).length = es.length * 2 := by
  induction es with
  | nil => rfl
  | cons e es ih => simp only [List.flatMap_cons, List.length_append, ih, List.length_cons]; simp only [Op.cs, List.length_cons, List.length_nil]; omega
theorem csP_at : ∀ (es : List Op) (i : Nat) (e : Op), es[i]? = some e → ∀ j, j < 2 → (es.flatMap Op.cs)[i * 2 + j]? = e.cs[j]? := by
  intro es
  induction es with
  | nil => intro i e h; simp at h
  | cons x es ih =>
    intro i e h j hj
    have hx : x.cs.length = 2 := rfl
    cases i with
    | zero =>
      simp at h; subst h
      rw [List.flatMap_cons, List.getElem?_append_left (by omega), Nat.zero_mul, Nat.zero_add]
    | succ i =>
      simp at h
      rw [List.flatMap_cons, List.getElem?_append_right (by omega), hx, ← ih i e h j hj]
      congr 1
      omega
/-- The slice value v, of n entries es, is a row of one's own, from block base on. -/
def OwnP (w : World) (base : Nat) (v : Value) (n : Nat) (es : List Op) : Prop := w.ownsRow base 29 2 v n (es.flatMap Op.cs)
theorem OwnP.shape {w : World} {base : Nat} {v : Value} {n : Nat} {es : List Op} (h : OwnP w base v n es) : ∃ a cap, v = .slice a n cap := by
  rcases h.2 with ⟨rfl, rfl⟩ | ⟨g, c, cur, hv, _⟩
  · exact ⟨_, _, rfl⟩
  · exact ⟨_, _, hv⟩
theorem OwnP.len {w : World} {base : Nat} {v : Value} {n : Nat} {es : List Op} (h : OwnP w base v n es) : es.length = n := by
  have := h.1; rw [csP_flat_len] at this; omega
theorem ownP_nil (w : World) (base : Nat) : OwnP w base (.slice none 0 0) 0 [] := World.ownsRow_nil w base 29 2
theorem OwnP.lt {w : World} {base : Nat} {v : Value} {n : Nat} {es : List Op} (h : OwnP w base v n es) : ∀ k, v.ownBlock = some k → base ≤ k := fun k hk => (World.ownsRow.lt h k hk).1
theorem OwnP.later {w w' : World} {base : Nat} {v : Value} {n : Nat} {es : List Op} (h : OwnP w base v n es) (hb : Below w.heap.size w w') : OwnP w' base v n es := by
  refine ⟨h.1, ?_⟩
  rcases h.2 with hn | ⟨g, cap, cur, hv, hbg, hg, r⟩
  · exact .inl hn
  · refine .inr ⟨g, cap, cur, hv, hbg, ?_, r⟩
    rw [hb.block g (Array.getElem?_eq_some_iff.1 hg).1]
    exact hg
/-- Stores into blocks below it change nothing of it. -/
theorem OwnP.keep {w w' : World} {base : Nat} {v : Value} {n : Nat} {es : List Op} (h : OwnP w base v n es) (hb : ∀ k, base ≤ k → w'.heap[k]? = w.heap[k]?) : OwnP w' base v n es := by
  refine ⟨h.1, ?_⟩
  rcases h.2 with hn | ⟨g, cap, cur, hv, hbg, hg, r⟩
  · exact .inl hn
  · refine .inr ⟨g, cap, cur, hv, hbg, ?_, r⟩
    rw [hb g hbg]
    exact hg
theorem OwnP.row {w : World} {base : Nat} {a : Option Addr} {n m cap : Nat} {es : List Op} (h : OwnP w base (.slice a m cap) n es) (hE : Ops es) : RowP w a n es := by
  refine ⟨h.len, hE, fun i e he => ?_⟩
  have hl := h.len
  have hi : i < es.length := (List.getElem?_eq_some_iff.1 he).1
  rcases h.2 with ⟨_, h0⟩ | ⟨g, c, cur, hv, _⟩
  · omega
  · have hc := fun j u hu => World.ownsRow.cells h (g := g) (by rw [hv]; rfl) j u hu
    have hat := csP_at es i e he
    simp only [Value.slice.injEq] at hv
    refine ⟨g, 0, hv.1, ?_⟩
    have key : ∀ j u, j < 2 → e.cs[j]? = some u → w.cell? ⟨g, 0 + i * 2 + j, none⟩ = some u := fun j u hj hu => by
      have := hc (i * 2 + j) u (by rw [hat j hj]; exact hu)
      rw [Go.WideShapes.add_plain] at this
      rw [← this]
      congr 2
      omega
    exact ⟨key 0 _ (by omega) rfl, key 1 _ (by omega) rfl⟩

section
variable {P : Program} (w : World)
theorem run_appP_nil (t ty : TypeId) (i : TypeInfo) (ht : P.underlying t = some (.slice 29)) (hi : P.info? 29 = some i) (base : Nat) (v : Value) (n : Nat) (es : List Op) (hown : OwnP w base v n es) (c : Nat) :
    (Builtin.append_ #[t, t] ty #[v, .slice none 0 c]).run P w = .ok v w := by
  rcases hown.2 with ⟨rfl, rfl⟩ | ⟨g, cap, cur, rfl, hb, hg, hle, _⟩
  · simp [Builtin.append_, run_underlying ht, sizeOf, typeInfo, hi, Builtin.lenOf, Builtin.firstCells]
  · simp [Builtin.append_, run_underlying ht, sizeOf, typeInfo, hi, Builtin.lenOf, Builtin.firstCells, hle, storeCells]

theorem run_appP (base : Nat) (t ty : TypeId) (ht : P.underlying t = some (.slice 29)) (hinfo : (P.info? 29).map (fun i => (i.zero, i.size, i.bytes)) = some (some (.agg #[.int .i64 0, .int .i64 0]), 2, 16))
    (v : Value) (n : Nat) (es : List Op) (hown : OwnP w base v n es) (ad : Option Addr) (m c : Nat) (fs : List Op) (h2 : RowP w ad m fs) (hlen : n + m ≤ 100000) (hbase : base ≤ w.heap.size) :
    ∃ a' c' w', (Builtin.append_ #[t, t] ty #[v, .slice ad m c]).run P w = .ok (.slice a' (n + m) c') w' ∧ OwnP w' base (.slice a' (n + m) c') (n + m) (es ++ fs) ∧ Below base w w' := by
  obtain ⟨i, hi, hzz⟩ := Option.map_eq_some_iff.1 hinfo
  simp only [Prod.mk.injEq] at hzz
  obtain ⟨hz, hs, hb⟩ := hzz
  obtain ⟨hl2, _, hc2⟩ := h2
  cases ad with
  | none =>
    have hm : m = 0 := by
      rcases Nat.eq_zero_or_pos m with h | h
      · exact h
      · obtain ⟨_, _, h, _⟩ := hc2 0 _ (List.getElem?_eq_getElem (by omega)); cases h
    subst hm
    obtain rfl : fs = [] := List.eq_nil_of_length_eq_zero hl2
    obtain ⟨a', c', rfl⟩ := hown.shape
    refine ⟨a', c', w, run_appP_nil w t ty i ht hi base _ n es hown c, ?_, Below.refl _ _⟩
    simpa using hown
  | some x =>
    have hnews : ∀ j u, (fs.flatMap Op.cs)[j]? = some u → w.cell? (x.add j) = some u := by
      intro j u hj
      have hjl : j < fs.length * 2 := by
        rcases Nat.lt_or_ge j (fs.length * 2) with h | h
        · exact h
        · rw [List.getElem?_eq_none (by rw [csP_flat_len]; exact h)] at hj; cases hj
      have hq : j / 2 < fs.length := by omega
      obtain ⟨b, off, e1, hc⟩ := hc2 (j / 2) _ (List.getElem?_eq_getElem hq)
      simp only [Option.some.injEq] at e1
      subst e1
      have hat := csP_at fs (j / 2) _ (List.getElem?_eq_getElem hq) (j % 2) (by omega)
      rw [show j / 2 * 2 + j % 2 = j from by omega, hj] at hat
      rw [Go.WideShapes.add_plain]
      have : off + j = off + j / 2 * 2 + j % 2 := by omega
      rw [this]
      obtain ⟨c0, c1⟩ := hc
      have hm5 : j % 2 < 2 := by omega
      generalize j % 2 = r at hat hm5
      match r, hm5, hat with
      | 0, _, hat => simp [Op.cs] at hat; rw [hat]; exact c0
      | 1, _, hat => simp [Op.cs] at hat; rw [hat]; exact c1
    obtain ⟨v', w', hr, h3, h4, _⟩ := run_append_own (P := P) w base t ty 29 i (.agg #[.int .i64 0, .int .i64 0]) 2 16 ht hi hz hs hb rfl (by decide) v n _ hown x m c (fs.flatMap Op.cs) (by rw [csP_flat_len, hl2]) hnews
      (by intro u hu; obtain ⟨k, _, hk⟩ := List.mem_flatMap.1 hu; simp only [Op.cs, List.mem_cons, List.not_mem_nil, or_false] at hk; rcases hk with rfl | rfl <;> rfl) (by unfold maxLen; omega) (by omega) hbase
    have h5 : OwnP w' base v' (n + m) (es ++ fs) := by unfold OwnP; rw [List.flatMap_append]; exact h3
    obtain ⟨a', c', rfl⟩ := h5.shape
    exact ⟨a', c', w', hr, h5, (Below.refl _ _).grown h4 hbase hown.lt⟩

theorem wp_appP {o : Oper} {a : Act} {K : Act → World → Prop} {Q : Exit → Act → World → Prop} (s x : Operand) (t : TypeId)
    (ho : o.op = .call { callee := .builtin .append, args := #[s, x], argTypes := #[t, t] }) (base : Nat)
    (ht : P.underlying t = some (.slice 29)) (hinfo : (P.info? 29).map (fun i => (i.zero, i.size, i.bytes)) = some (some (.agg #[.int .i64 0, .int .i64 0]), 2, 16))
    (v : Value) (n : Nat) (es : List Op) (hs : a.eval s = v) (hown : OwnP w base v n es) (ad : Option Addr) (m c : Nat) (fs : List Op) (hx : a.eval x = .slice ad m c) (h2 : RowP w ad m fs) (k : Nat) (hk : n + m = k) (gs : List Op) (hl : es ++ fs = gs) (hlen : k ≤ 100000) (hbase : base ≤ w.heap.size)
    (h : ∀ a' c' w', OwnP w' base (.slice a' k c') k gs → Below base w w' → K (a.put o.dst (.slice a' k c')) w') : o.wp P a w K Q := by
  subst hk hl
  obtain ⟨a', c', w', hr, h3, h4⟩ := run_appP (P := P) w base t o.type ht hinfo v n es hown ad m c fs h2 hlen hbase
  unfold Oper.wp execOp
  simp only [ho, resolve, invoke, builtin, Sem.run_bind, Sem.run_pure, Result.andThen_ok, List.map_toArray, List.map_cons, List.map_nil, hs, hx, hr]
  exact h a' c' w' h3 h4
theorem wpList_appP {ops : Array Oper} {rest : List Oper} {o : Oper} {a : Act} {Q : Exit → Act → World → Prop} (hgd : o.guard = none) (s x : Operand) (t : TypeId)
    (ho : o.op = .call { callee := .builtin .append, args := #[s, x], argTypes := #[t, t] }) (base : Nat)
    (ht : P.underlying t = some (.slice 29)) (hinfo : (P.info? 29).map (fun i => (i.zero, i.size, i.bytes)) = some (some (.agg #[.int .i64 0, .int .i64 0]), 2, 16))
    (v : Value) (n : Nat) (es : List Op) (hs : a.eval s = v) (hown : OwnP w base v n es) (ad : Option Addr) (m c : Nat) (fs : List Op) (hx : a.eval x = .slice ad m c) (h2 : RowP w ad m fs) (k : Nat) (hk : n + m = k) (gs : List Op) (hl : es ++ fs = gs) (hlen : k ≤ 100000) (hbase : base ≤ w.heap.size)
    (h : ∀ a' c' w', OwnP w' base (.slice a' k c') k gs → Below base w w' → wpList P ops Q rest (a.put o.dst (.slice a' k c')) w') : wpList P ops Q (o :: rest) a w := by
  refine wpList_plain hgd fun _ hK => ?_
  exact wp_appP w s x t ho base ht hinfo v n es hs hown ad m c fs hx h2 k hk gs hl hlen hbase fun a' c' w' h3 h4 => hK _ _ (h a' c' w' h3 h4)
theorem step_appP {ops : Array Oper} {o : Oper} {a : Act} {K : Act → World → Prop} {Q : Exit → Act → World → Prop} {E : Prop} (hgd : o.guard = none) (s x : Operand) (t : TypeId)
    (ho : o.op = .call { callee := .builtin .append, args := #[s, x], argTypes := #[t, t] }) (base : Nat)
    (ht : P.underlying t = some (.slice 29)) (hinfo : (P.info? 29).map (fun i => (i.zero, i.size, i.bytes)) = some (some (.agg #[.int .i64 0, .int .i64 0]), 2, 16))
    (v : Value) (n : Nat) (es : List Op) (hs : a.eval s = v) (hown : OwnP w base v n es) (ad : Option Addr) (m c : Nat) (fs : List Op) (hx : a.eval x = .slice ad m c) (h2 : RowP w ad m fs) (k : Nat) (hk : n + m = k) (gs : List Op) (hl : es ++ fs = gs) (hlen : k ≤ 100000) (hbase : base ≤ w.heap.size)
    (h : ∀ a' c' w', OwnP w' base (.slice a' k c') k gs → Below base w w' → K (a.put o.dst (.slice a' k c')) w') :
    if Region.wanted o (yielded ops a.tmps) = true then Oper.wp P o a w K Q else E := by
  have hw : Region.wanted o (yielded ops a.tmps) = true := by simp [Region.wanted, hgd]
  rw [if_pos hw]
  exact wp_appP w s x t ho base ht hinfo v n es hs hown ad m c fs hx h2 k hk gs hl hlen hbase h
end
theorem infoP : (Try.prog.info? 29).map (fun i => (i.zero, i.size, i.bytes)) = some (some (.agg #[.int .i64 0, .int .i64 0]), 2, 16) := by kernel_rfl
/-- One part in a block. -/
theorem rowP_one {W : World} {N M : Nat} {e : Op} (h : P2 W M 0 e) (hm : M = N) (hk : e.Ok) : RowP W (some ⟨N, 0, none⟩) 1 [e] := by
  subst hm
  refine ⟨rfl, fun x hx => by simp at hx; subst hx; exact hk, fun i x hx => ?_⟩
  cases i with
  | zero => simp at hx; subst hx; exact ⟨M, 0, rfl, by simpa using h⟩
  | succ i => simp at hx
theorem OwnP.mid {w w' : World} {N : Nat} {v : Value} {n : Nat} {es : List Op} (h : OwnP w (N + 1) v n es) (hb : ∀ j, N < j → j < w.heap.size → w'.heap[j]? = w.heap[j]?) : OwnP w' (N + 1) v n es := by
  refine ⟨h.1, ?_⟩
  rcases h.2 with hn | ⟨g, cap, cur, hv, hbg, hg, r⟩
  · exact .inl hn
  · refine .inr ⟨g, cap, cur, hv, hbg, ?_, r⟩
    rw [hb g hbg (Array.getElem?_eq_some_iff.1 hg).1]
    exact hg
end Go.Proofs.Ytenkghcdhanciaa
