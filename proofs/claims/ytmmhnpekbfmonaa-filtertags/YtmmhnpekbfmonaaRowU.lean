/- Rules in memory. -/
import Derived.Test.YtmmhnpekbfmonaaFilA
import Derived.RegionTactic
namespace Go.Proofs.Ytmmhnpekbfmonaa
open Go.RowKit

structure Ru.Ok (p : Ru) : Prop where
  a0 : 0 ≤ p.a
  a1 : p.a < 4294967296
  l0 : -9223372036854775808 ≤ p.l
  l1 : p.l ≤ 9223372036854775807
  g0 : -9223372036854775808 ≤ p.g
  g1 : p.g ≤ 9223372036854775807
  e0 : -9223372036854775808 ≤ p.e
  e1 : p.e ≤ 9223372036854775807
  h0 : 0 ≤ p.h
  h1 : p.h < 65536
  n0 : 0 ≤ p.n
  n1 : p.n < 65536
def Rus (L : List Ru) : Prop := ∀ p ∈ L, p.Ok
abbrev objU (m : Bool) (a : Int) (l : Int) (g : Int) (e : Int) (h : Int) (n : Int) : Obj := .cells #[.bool m, .int .u32 a, .int .i64 l, .int .i64 g, .int .i64 e, .int .u16 h, .int .u16 n] 33
abbrev valU (m : Bool) (a : Int) (l : Int) (g : Int) (e : Int) (h : Int) (n : Int) : Value := .agg #[.bool m, .int .u32 a, .int .i64 l, .int .i64 g, .int .i64 e, .int .u16 h, .int .u16 n]
/-- The cells of one, from offset o of block b on. -/
def U7 (W : World) (b o : Nat) (p : Ru) : Prop :=
  W.cell? ⟨b, o, none⟩ = some (.bool p.m) ∧ W.cell? ⟨b, o + 1, none⟩ = some (.int .u32 p.a) ∧ W.cell? ⟨b, o + 2, none⟩ = some (.int .i64 p.l) ∧ W.cell? ⟨b, o + 3, none⟩ = some (.int .i64 p.g) ∧ W.cell? ⟨b, o + 4, none⟩ = some (.int .i64 p.e) ∧ W.cell? ⟨b, o + 5, none⟩ = some (.int .u16 p.h) ∧ W.cell? ⟨b, o + 6, none⟩ = some (.int .u16 p.n)
theorem U7.later {W W' : World} {b o : Nat} {p : Ru} (h : U7 W b o p) (hb : Below W.heap.size W W') : U7 W' b o p := by
  obtain ⟨h0, h1, h2, h3, h4, h5, h6⟩ := h
  exact ⟨cell_later hb h0, cell_later hb h1, cell_later hb h2, cell_later hb h3, cell_later hb h4, cell_later hb h5, cell_later hb h6⟩
theorem U7.far {W W' : World} {N o : Nat} {p : Ru} (h : U7 W N o p) (hf : ∀ o, W'.cell? ⟨N, o, none⟩ = W.cell? ⟨N, o, none⟩) : U7 W' N o p := by
  obtain ⟨h0, h1, h2, h3, h4, h5, h6⟩ := h
  exact ⟨(hf _).trans h0, (hf _).trans h1, (hf _).trans h2, (hf _).trans h3, (hf _).trans h4, (hf _).trans h5, (hf _).trans h6⟩
theorem U7.new (W : World) (m : Bool) (a : Int) (l : Int) (g : Int) (e : Int) (h : Int) (n : Int) : U7 (W.alloc (objU m a l g e h n)) W.heap.size 0 ⟨m, a, l, g, e, h, n⟩ := by
  refine ⟨?_, ?_, ?_, ?_, ?_, ?_, ?_⟩ <;> simp [go_sem]
theorem U7.newAt (W : World) (N : Nat) (hN : N = W.heap.size) (m : Bool) (a : Int) (l : Int) (g : Int) (e : Int) (h : Int) (n : Int) : U7 (W.alloc (objU m a l g e h n)) N 0 ⟨m, a, l, g, e, h, n⟩ := by subst hN; exact U7.new W m a l g e h n
theorem U7.z {W : World} {N : Nat} {m : Bool} {a : Int} {l : Int} {g : Int} {e : Int} {h : Int} {n : Int} (hh : U7 W N 0 ⟨m, a, l, g, e, h, n⟩) :
    W.cell? ⟨N, 0, none⟩ = some (.bool m) ∧ W.cell? ⟨N, 1, none⟩ = some (.int .u32 a) ∧ W.cell? ⟨N, 2, none⟩ = some (.int .i64 l) ∧ W.cell? ⟨N, 3, none⟩ = some (.int .i64 g) ∧ W.cell? ⟨N, 4, none⟩ = some (.int .i64 e) ∧ W.cell? ⟨N, 5, none⟩ = some (.int .u16 h) ∧ W.cell? ⟨N, 6, none⟩ = some (.int .u16 n) := by
  simpa [U7] using hh
/-- A row that came in. -/
def RowU (W : World) (a : Option Addr) (n : Nat) (ts : List Ru) : Prop :=
  ts.length = n ∧ Rus ts ∧ ∀ (i : Nat) (p : Ru), ts[i]? = some p → ∃ b off, a = some ⟨b, off, none⟩ ∧ U7 W b (off + i * 7) p
theorem RowU.later {W W' : World} {a : Option Addr} {n : Nat} {ts : List Ru} (h : RowU W a n ts) (hb : Below W.heap.size W W') : RowU W' a n ts :=
  ⟨h.1, h.2.1, fun i e he => by obtain ⟨b, off, e1, h5⟩ := h.2.2 i e he; exact ⟨b, off, e1, h5.later hb⟩⟩
theorem RowU.at {W : World} {a : Option Addr} {n : Nat} {ts : List Ru} (h : RowU W a n ts) {k : Nat} (hk : k < n) : ∃ p b off, ts[k]? = some p ∧ p.Ok ∧ a = some ⟨b, off, none⟩ ∧ U7 W b (off + k * 7) p := by
  have hl : k < ts.length := by rw [h.1]; exact hk
  obtain ⟨b, off, e1, h5⟩ := h.2.2 k ts[k] (List.getElem?_eq_getElem hl)
  exact ⟨ts[k], b, off, List.getElem?_eq_getElem hl, h.2.1 _ (List.getElem_mem hl), e1, h5⟩
theorem rowU_none (W : World) : RowU W none 0 [] := ⟨rfl, (fun _ h => by cases h), fun i e h => by simp at h⟩
/-- An entry's cells. -/
def Ru.cs (e : Ru) : List Value := [.bool e.m, .int .u32 e.a, .int .i64 e.l, .int .i64 e.g, .int .i64 e.e, .int .u16 e.h, .int .u16 e.n]
theorem csU_flat_len (es : List Ru) : (es.flatMap Ru.cs).length = es.length * 7 := by
  induction es with
  | nil => rfl
  | cons e es ih => simp only [List.flatMap_cons, List.length_append, ih, List.length_cons]; simp only [Ru.cs, List.length_cons, List.length_nil]; omega
theorem csU_at : ∀ (es : List Ru) (i : Nat) (e : Ru), es[i]? = some e → ∀ j, j < 7 → (es.flatMap Ru.cs)[i * 7 + j]? = e.cs[j]? := by
  intro es
  induction es with
  | nil => intro i e h; simp at h
  | cons x es ih =>
    intro i e h j hj
    have hx : x.cs.length = 7 := rfl
    cases i with
    | zero =>
      simp at h; subst h
      rw [List.flatMap_cons, List.getElem?_append_left (by omega), Nat.zero_mul, Nat.zero_add]
    | succ i =>
      simp at h
      rw [List.flatMap_cons, List.getElem?_append_right (by omega), hx, ← ih i e h j hj]
      congr 1
      omega
/-- The slice value v, of n entries es, is a row of one's own, from block base on. -/
def OwnU (w : World) (base : Nat) (v : Value) (n : Nat) (es : List Ru) : Prop := w.ownsRow base 33 7 v n (es.flatMap Ru.cs)
theorem OwnU.shape {w : World} {base : Nat} {v : Value} {n : Nat} {es : List Ru} (h : OwnU w base v n es) : ∃ a cap, v = .slice a n cap := by
  rcases h.2 with ⟨rfl, rfl⟩ | ⟨g, c, cur, hv, _⟩
  · exact ⟨_, _, rfl⟩
  · exact ⟨_, _, hv⟩
theorem OwnU.len {w : World} {base : Nat} {v : Value} {n : Nat} {es : List Ru} (h : OwnU w base v n es) : es.length = n := by
  have := h.1; rw [csU_flat_len] at this; omega
theorem ownU_nil (w : World) (base : Nat) : OwnU w base (.slice none 0 0) 0 [] := World.ownsRow_nil w base 33 7
theorem OwnU.lt {w : World} {base : Nat} {v : Value} {n : Nat} {es : List Ru} (h : OwnU w base v n es) : ∀ k, v.ownBlock = some k → base ≤ k := fun k hk => (World.ownsRow.lt h k hk).1
theorem OwnU.later {w w' : World} {base : Nat} {v : Value} {n : Nat} {es : List Ru} (h : OwnU w base v n es) (hb : Below w.heap.size w w') : OwnU w' base v n es := by
  refine ⟨h.1, ?_⟩
  rcases h.2 with hn | ⟨g, cap, cur, hv, hbg, hg, r⟩
  · exact .inl hn
  · refine .inr ⟨g, cap, cur, hv, hbg, ?_, r⟩
    rw [hb.block g (Array.getElem?_eq_some_iff.1 hg).1]
    exact hg
/-- Stores into blocks below it change nothing of it. -/
theorem OwnU.keep {w w' : World} {base : Nat} {v : Value} {n : Nat} {es : List Ru} (h : OwnU w base v n es) (hb : ∀ k, base ≤ k → w'.heap[k]? = w.heap[k]?) : OwnU w' base v n es := by
  refine ⟨h.1, ?_⟩
  rcases h.2 with hn | ⟨g, cap, cur, hv, hbg, hg, r⟩
  · exact .inl hn
  · refine .inr ⟨g, cap, cur, hv, hbg, ?_, r⟩
    rw [hb g hbg]
    exact hg
theorem OwnU.row {w : World} {base : Nat} {a : Option Addr} {n m cap : Nat} {es : List Ru} (h : OwnU w base (.slice a m cap) n es) (hE : Rus es) : RowU w a n es := by
  refine ⟨h.len, hE, fun i e he => ?_⟩
  have hl := h.len
  have hi : i < es.length := (List.getElem?_eq_some_iff.1 he).1
  rcases h.2 with ⟨_, h0⟩ | ⟨g, c, cur, hv, _⟩
  · omega
  · have hc := fun j u hu => World.ownsRow.cells h (g := g) (by rw [hv]; rfl) j u hu
    have hat := csU_at es i e he
    simp only [Value.slice.injEq] at hv
    refine ⟨g, 0, hv.1, ?_⟩
    have key : ∀ j u, j < 7 → e.cs[j]? = some u → w.cell? ⟨g, 0 + i * 7 + j, none⟩ = some u := fun j u hj hu => by
      have := hc (i * 7 + j) u (by rw [hat j hj]; exact hu)
      rw [Go.WideShapes.add_plain] at this
      rw [← this]
      congr 2
      omega
    exact ⟨key 0 _ (by omega) rfl, key 1 _ (by omega) rfl, key 2 _ (by omega) rfl, key 3 _ (by omega) rfl, key 4 _ (by omega) rfl, key 5 _ (by omega) rfl, key 6 _ (by omega) rfl⟩

section
variable {P : Program} (w : World)
theorem run_appU_nil (t ty : TypeId) (i : TypeInfo) (ht : P.underlying t = some (.slice 33)) (hi : P.info? 33 = some i) (base : Nat) (v : Value) (n : Nat) (es : List Ru) (hown : OwnU w base v n es) (c : Nat) :
    (Builtin.append_ #[t, t] ty #[v, .slice none 0 c]).run P w = .ok v w := by
  rcases hown.2 with ⟨rfl, rfl⟩ | ⟨g, cap, cur, rfl, hb, hg, hle, _⟩
  · simp [Builtin.append_, run_underlying ht, sizeOf, typeInfo, hi, Builtin.lenOf, Builtin.firstCells]
  · simp [Builtin.append_, run_underlying ht, sizeOf, typeInfo, hi, Builtin.lenOf, Builtin.firstCells, hle, storeCells]

theorem run_appU (base : Nat) (t ty : TypeId) (ht : P.underlying t = some (.slice 33)) (hinfo : (P.info? 33).map (fun i => (i.zero, i.size, i.bytes)) = some (some (.agg #[.bool false, .int .u32 0, .int .i64 0, .int .i64 0, .int .i64 0, .int .u16 0, .int .u16 0]), 7, 48))
    (v : Value) (n : Nat) (es : List Ru) (hown : OwnU w base v n es) (ad : Option Addr) (m c : Nat) (fs : List Ru) (h2 : RowU w ad m fs) (hlen : n + m ≤ 100000) (hbase : base ≤ w.heap.size) :
    ∃ a' c' w', (Builtin.append_ #[t, t] ty #[v, .slice ad m c]).run P w = .ok (.slice a' (n + m) c') w' ∧ OwnU w' base (.slice a' (n + m) c') (n + m) (es ++ fs) ∧ Below base w w' := by
  obtain ⟨i, hi, hzz⟩ := Option.map_eq_some_iff.1 hinfo
  simp only [Prod.mk.injEq] at hzz
  obtain ⟨hz, hs, hb⟩ := hzz
  obtain ⟨hl2, _, hc2⟩ := h2
  cases ad with
  | none =>
    have hm : m = 0 := by
      rcases Nat.eq_zero_or_pos m with h | h
      · exact h
      · obtain ⟨_, _, h, _⟩ := hc2 0 _ (List.getElem?_eq_getElem (by omega)); cases h
    subst hm
    obtain rfl : fs = [] := List.eq_nil_of_length_eq_zero hl2
    obtain ⟨a', c', rfl⟩ := hown.shape
    refine ⟨a', c', w, run_appU_nil w t ty i ht hi base _ n es hown c, ?_, Below.refl _ _⟩
    simpa using hown
  | some x =>
    have hnews : ∀ j u, (fs.flatMap Ru.cs)[j]? = some u → w.cell? (x.add j) = some u := by
      intro j u hj
      have hjl : j < fs.length * 7 := by
        rcases Nat.lt_or_ge j (fs.length * 7) with h | h
        · exact h
        · rw [List.getElem?_eq_none (by rw [csU_flat_len]; exact h)] at hj; cases hj
      have hq : j / 7 < fs.length := by omega
      obtain ⟨b, off, e1, hc⟩ := hc2 (j / 7) _ (List.getElem?_eq_getElem hq)
      simp only [Option.some.injEq] at e1
      subst e1
      have hat := csU_at fs (j / 7) _ (List.getElem?_eq_getElem hq) (j % 7) (by omega)
      rw [show j / 7 * 7 + j % 7 = j from by omega, hj] at hat
      rw [Go.WideShapes.add_plain]
      have : off + j = off + j / 7 * 7 + j % 7 := by omega
      rw [this]
      obtain ⟨c0, c1, c2, c3, c4, c5, c6⟩ := hc
      have hm5 : j % 7 < 7 := by omega
      generalize j % 7 = r at hat hm5
      match r, hm5, hat with
      | 0, _, hat => simp [Ru.cs] at hat; rw [hat]; exact c0
      | 1, _, hat => simp [Ru.cs] at hat; rw [hat]; exact c1
      | 2, _, hat => simp [Ru.cs] at hat; rw [hat]; exact c2
      | 3, _, hat => simp [Ru.cs] at hat; rw [hat]; exact c3
      | 4, _, hat => simp [Ru.cs] at hat; rw [hat]; exact c4
      | 5, _, hat => simp [Ru.cs] at hat; rw [hat]; exact c5
      | 6, _, hat => simp [Ru.cs] at hat; rw [hat]; exact c6
    obtain ⟨v', w', hr, h3, h4, _⟩ := run_append_own (P := P) w base t ty 33 i (.agg #[.bool false, .int .u32 0, .int .i64 0, .int .i64 0, .int .i64 0, .int .u16 0, .int .u16 0]) 7 48 ht hi hz hs hb rfl (by decide) v n _ hown x m c (fs.flatMap Ru.cs) (by rw [csU_flat_len, hl2]) hnews
      (by intro u hu; obtain ⟨k, _, hk⟩ := List.mem_flatMap.1 hu; simp only [Ru.cs, List.mem_cons, List.not_mem_nil, or_false] at hk; rcases hk with rfl | rfl | rfl | rfl | rfl | rfl | rfl <;> rfl) (by unfold maxLen; omega) (by omega) hbase
    have h5 : OwnU w' base v' (n + m) (es ++ fs) := by unfold OwnU; rw [List.flatMap_append]; exact h3
    obtain ⟨a', c', rfl⟩ := h5.shape
    exact ⟨a', c', w', hr, h5, (Below.refl _ _).grown h4 hbase hown.lt⟩

theorem wp_appU {o : Oper} {a : Act} {K : Act → World → Prop} {Q : Exit → Act → World → Prop} (s x : Operand) (t : TypeId)
    (ho : o.op = .call { callee := .builtin .append, args := #[s, x], argTypes := #[t, t] }) (base : Nat)
    (ht : P.underlying t = some (.slice 33)) (hinfo : (P.info? 33).map (fun i => (i.zero, i.size, i.bytes)) = some (some (.agg #[.bool false, .int .u32 0, .int .i64 0, .int .i64 0, .int .i64 0, .int .u16 0, .int .u16 0]), 7, 48))
    (v : Value) (n : Nat) (es : List Ru) (hs : a.eval s = v) (hown : OwnU w base v n es) (ad : Option Addr) (m c : Nat) (fs : List Ru) (hx : a.eval x = .slice ad m c) (h2 : RowU w ad m fs) (k : Nat) (hk : n + m = k) (gs : List Ru) (hl : es ++ fs = gs) (hlen : k ≤ 100000) (hbase : base ≤ w.heap.size)
    (h : ∀ a' c' w', OwnU w' base (.slice a' k c') k gs → Below base w w' → K (a.put o.dst (.slice a' k c')) w') : o.wp P a w K Q := by
  subst hk hl
  obtain ⟨a', c', w', hr, h3, h4⟩ := run_appU (P := P) w base t o.type ht hinfo v n es hown ad m c fs h2 hlen hbase
  unfold Oper.wp execOp
  simp only [ho, resolve, invoke, builtin, Sem.run_bind, Sem.run_pure, Result.andThen_ok, List.map_toArray, List.map_cons, List.map_nil, hs, hx, hr]
  exact h a' c' w' h3 h4
theorem wpList_appU {ops : Array Oper} {rest : List Oper} {o : Oper} {a : Act} {Q : Exit → Act → World → Prop} (hgd : o.guard = none) (s x : Operand) (t : TypeId)
    (ho : o.op = .call { callee := .builtin .append, args := #[s, x], argTypes := #[t, t] }) (base : Nat)
    (ht : P.underlying t = some (.slice 33)) (hinfo : (P.info? 33).map (fun i => (i.zero, i.size, i.bytes)) = some (some (.agg #[.bool false, .int .u32 0, .int .i64 0, .int .i64 0, .int .i64 0, .int .u16 0, .int .u16 0]), 7, 48))
    (v : Value) (n : Nat) (es : List Ru) (hs : a.eval s = v) (hown : OwnU w base v n es) (ad : Option Addr) (m c : Nat) (fs : List Ru) (hx : a.eval x = .slice ad m c) (h2 : RowU w ad m fs) (k : Nat) (hk : n + m = k) (gs : List Ru) (hl : es ++ fs = gs) (hlen : k ≤ 100000) (hbase : base ≤ w.heap.size)
    (h : ∀ a' c' w', OwnU w' base (.slice a' k c') k gs → Below base w w' → wpList P ops Q rest (a.put o.dst (.slice a' k c')) w') : wpList P ops Q (o :: rest) a w := by
  refine wpList_plain hgd fun _ hK => ?_
  exact wp_appU w s x t ho base ht hinfo v n es hs hown ad m c fs hx h2 k hk gs hl hlen hbase fun a' c' w' h3 h4 => hK _ _ (h a' c' w' h3 h4)
theorem step_appU {ops : Array Oper} {o : Oper} {a : Act} {K : Act → World → Prop} {Q : Exit → Act → World → Prop} {E : Prop} (hgd : o.guard = none) (s x : Operand) (t : TypeId)
    (ho : o.op = .call { callee := .builtin .append, args := #[s, x], argTypes := #[t, t] }) (base : Nat)
    (ht : P.underlying t = some (.slice 33)) (hinfo : (P.info? 33).map (fun i => (i.zero, i.size, i.bytes)) = some (some (.agg #[.bool false, .int .u32 0, .int .i64 0, .int .i64 0, .int .i64 0, .int .u16 0, .int .u16 0]), 7, 48))
    (v : Value) (n : Nat) (es : List Ru) (hs : a.eval s = v) (hown : OwnU w base v n es) (ad : Option Addr) (m c : Nat) (fs : List Ru) (hx : a.eval x = .slice ad m c) (h2 : RowU w ad m fs) (k : Nat) (hk : n + m = k) (gs : List Ru) (hl : es ++ fs = gs) (hlen : k ≤ 100000) (hbase : base ≤ w.heap.size)
    (h : ∀ a' c' w', OwnU w' base (.slice a' k c') k gs → Below base w w' → K (a.put o.dst (.slice a' k c')) w') :
    if Region.wanted o (yielded ops a.tmps) = true then Oper.wp P o a w K Q else E := by
  have hw : Region.wanted o (yielded ops a.tmps) = true := by simp [Region.wanted, hgd]
  rw [if_pos hw]
  exact wp_appU w s x t ho base ht hinfo v n es hs hown ad m c fs hx h2 k hk gs hl hlen hbase h
end
theorem infoU : (Try.prog.info? 33).map (fun i => (i.zero, i.size, i.bytes)) = some (some (.agg #[.bool false, .int .u32 0, .int .i64 0, .int .i64 0, .int .i64 0, .int .u16 0, .int .u16 0]), 7, 48) := by kernel_rfl
/-- One part in a block. -/
theorem rowU_one {W : World} {N M : Nat} {e : Ru} (h : U7 W M 0 e) (hm : M = N) (hk : e.Ok) : RowU W (some ⟨N, 0, none⟩) 1 [e] := by
  subst hm
  refine ⟨rfl, fun x hx => by simp at hx; subst hx; exact hk, fun i x hx => ?_⟩
  cases i with
  | zero => simp at hx; subst hx; exact ⟨M, 0, rfl, by simpa using h⟩
  | succ i => simp at hx
theorem OwnU.mid {w w' : World} {N : Nat} {v : Value} {n : Nat} {es : List Ru} (h : OwnU w (N + 1) v n es) (hb : ∀ j, N < j → j < w.heap.size → w'.heap[j]? = w.heap[j]?) : OwnU w' (N + 1) v n es := by
  refine ⟨h.1, ?_⟩
  rcases h.2 with hn | ⟨g, cap, cur, hv, hbg, hg, r⟩
  · exact .inl hn
  · refine .inr ⟨g, cap, cur, hv, hbg, ?_, r⟩
    rw [hb g hbg (Array.getElem?_eq_some_iff.1 hg).1]
    exact hg
end Go.Proofs.Ytmmhnpekbfmonaa
