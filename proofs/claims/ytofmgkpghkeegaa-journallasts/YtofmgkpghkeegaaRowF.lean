/- Facts in memory. -/
import Derived.Test.YtofmgkpghkeegaaJouA
import Derived.RegionTactic
namespace Go.Proofs.Ytofmgkpghkeegaa
open Go.RowKit

structure Fc.Ok (p : Fc) : Prop where
  k0 : -9223372036854775808 ≤ p.k
  k1 : p.k ≤ 9223372036854775807
  y0 : 0 ≤ p.y
  y1 : p.y ≤ 4294967295
  n0 : 0 ≤ p.n
  n1 : p.n ≤ 4294967295
def Fcs (L : List Fc) : Prop := ∀ p ∈ L, p.Ok
abbrev objF (k : Int) (y : Int) (n : Int) : Obj := .cells #[.int .i64 k, .int .u32 y, .int .u32 n] 32
abbrev valF (k : Int) (y : Int) (n : Int) : Value := .agg #[.int .i64 k, .int .u32 y, .int .u32 n]
/-- The cells of one, from offset o of block b on. -/
def F3 (W : World) (b o : Nat) (p : Fc) : Prop :=
  W.cell? ⟨b, o, none⟩ = some (.int .i64 p.k) ∧ W.cell? ⟨b, o + 1, none⟩ = some (.int .u32 p.y) ∧ W.cell? ⟨b, o + 2, none⟩ = some (.int .u32 p.n)
theorem F3.later {W W' : World} {b o : Nat} {p : Fc} (h : F3 W b o p) (hb : Below W.heap.size W W') : F3 W' b o p := by
  obtain ⟨h0, h1, h2⟩ := h
  exact ⟨cell_later hb h0, cell_later hb h1, cell_later hb h2⟩
theorem F3.far {W W' : World} {N o : Nat} {p : Fc} (h : F3 W N o p) (hf : ∀ o, W'.cell? ⟨N, o, none⟩ = W.cell? ⟨N, o, none⟩) : F3 W' N o p := by
  obtain ⟨h0, h1, h2⟩ := h
  exact ⟨(hf _).trans h0, (hf _).trans h1, (hf _).trans h2⟩
theorem F3.new (W : World) (k : Int) (y : Int) (n : Int) : F3 (W.alloc (objF k y n)) W.heap.size 0 ⟨k, y, n⟩ := by
  refine ⟨?_, ?_, ?_⟩ <;> simp [go_sem]
theorem F3.newAt (W : World) (N : Nat) (hN : N = W.heap.size) (k : Int) (y : Int) (n : Int) : F3 (W.alloc (objF k y n)) N 0 ⟨k, y, n⟩ := by subst hN; exact F3.new W k y n
theorem F3.z {W : World} {N : Nat} {k : Int} {y : Int} {n : Int} (hh : F3 W N 0 ⟨k, y, n⟩) :
    W.cell? ⟨N, 0, none⟩ = some (.int .i64 k) ∧ W.cell? ⟨N, 1, none⟩ = some (.int .u32 y) ∧ W.cell? ⟨N, 2, none⟩ = some (.int .u32 n) := by
  simpa [F3] using hh
/-- A row that came in. -/
def RowF (W : World) (a : Option Addr) (n : Nat) (ts : List Fc) : Prop :=
  ts.length = n ∧ Fcs ts ∧ ∀ (i : Nat) (p : Fc), ts[i]? = some p → ∃ b off, a = some ⟨b, off, none⟩ ∧ F3 W b (off + i * 3) p
theorem RowF.later {W W' : World} {a : Option Addr} {n : Nat} {ts : List Fc} (h : RowF W a n ts) (hb : Below W.heap.size W W') : RowF W' a n ts :=
  ⟨h.1, h.2.1, fun i e he => by obtain ⟨b, off, e1, h5⟩ := h.2.2 i e he; exact ⟨b, off, e1, h5.later hb⟩⟩
theorem RowF.at {W : World} {a : Option Addr} {n : Nat} {ts : List Fc} (h : RowF W a n ts) {k : Nat} (hk : k < n) : ∃ p b off, ts[k]? = some p ∧ p.Ok ∧ a = some ⟨b, off, none⟩ ∧ F3 W b (off + k * 3) p := by
  have hl : k < ts.length := by rw [h.1]; exact hk
  obtain ⟨b, off, e1, h5⟩ := h.2.2 k ts[k] (List.getElem?_eq_getElem hl)
  exact ⟨ts[k], b, off, List.getElem?_eq_getElem hl, h.2.1 _ (List.getElem_mem hl), e1, h5⟩
theorem rowF_none (W : World) : RowF W none 0 [] := ⟨rfl, (fun _ h => by cases h), fun i e h => by simp at h⟩
/-- An entry's cells. -/
def Fc.cs (e : Fc) : List Value := [.int .i64 e.k, .int .u32 e.y, .int .u32 e.n]
theorem csF_flat_len (es : List Fc) : (es.flatMap Fc.cs).length = es.length * 3 := by
  induction es with
  | nil => rfl
  | cons e es ih => simp only [List.flatMap_cons, List.length_append, ih, List.length_cons]; simp only [Fc.cs, List.length_cons, List.length_nil]; omega
theorem csF_at : ∀ (es : List Fc) (i : Nat) (e : Fc), es[i]? = some e → ∀ j, j < 3 → (es.flatMap Fc.cs)[i * 3 + j]? = e.cs[j]? := by
  intro es
  induction es with
  | nil => intro i e h; simp at h
  | cons x es ih =>
    intro i e h j hj
    have hx : x.cs.length = 3 := rfl
    cases i with
    | zero =>
      simp at h; subst h
      rw [List.flatMap_cons, List.getElem?_append_left (by omega), Nat.zero_mul, Nat.zero_add]
    | succ i =>
      simp at h
      rw [List.flatMap_cons, List.getElem?_append_right (by omega), hx, ← ih i e h j hj]
      congr 1
      omega
/-- The slice value v, of n entries es, is a row of one's own, from block base on. -/
def OwnF (w : World) (base : Nat) (v : Value) (n : Nat) (es : List Fc) : Prop := w.ownsRow base 32 3 v n (es.flatMap Fc.cs)
theorem OwnF.shape {w : World} {base : Nat} {v : Value} {n : Nat} {es : List Fc} (h : OwnF w base v n es) : ∃ a cap, v = .slice a n cap := by
  rcases h.2 with ⟨rfl, rfl⟩ | ⟨g, c, cur, hv, _⟩
  · exact ⟨_, _, rfl⟩
  · exact ⟨_, _, hv⟩
theorem OwnF.len {w : World} {base : Nat} {v : Value} {n : Nat} {es : List Fc} (h : OwnF w base v n es) : es.length = n := by
  have := h.1; rw [csF_flat_len] at this; omega
theorem ownF_nil (w : World) (base : Nat) : OwnF w base (.slice none 0 0) 0 [] := World.ownsRow_nil w base 32 3
theorem OwnF.lt {w : World} {base : Nat} {v : Value} {n : Nat} {es : List Fc} (h : OwnF w base v n es) : ∀ k, v.ownBlock = some k → base ≤ k := fun k hk => (World.ownsRow.lt h k hk).1
theorem OwnF.later {w w' : World} {base : Nat} {v : Value} {n : Nat} {es : List Fc} (h : OwnF w base v n es) (hb : Below w.heap.size w w') : OwnF w' base v n es := by
  refine ⟨h.1, ?_⟩
  rcases h.2 with hn | ⟨g, cap, cur, hv, hbg, hg, r⟩
  · exact .inl hn
  · refine .inr ⟨g, cap, cur, hv, hbg, ?_, r⟩
    rw [hb.block g (Array.getElem?_eq_some_iff.1 hg).1]
    exact hg
/-- Stores into blocks below it change nothing of it. -/
theorem OwnF.keep {w w' : World} {base : Nat} {v : Value} {n : Nat} {es : List Fc} (h : OwnF w base v n es) (hb : ∀ k, base ≤ k → w'.heap[k]? = w.heap[k]?) : OwnF w' base v n es := by
  refine ⟨h.1, ?_⟩
  rcases h.2 with hn | ⟨g, cap, cur, hv, hbg, hg, r⟩
  · exact .inl hn
  · refine .inr ⟨g, cap, cur, hv, hbg, ?_, r⟩
    rw [hb g hbg]
    exact hg
theorem OwnF.row {w : World} {base : Nat} {a : Option Addr} {n m cap : Nat} {es : List Fc} (h : OwnF w base (.slice a m cap) n es) (hE : Fcs es) : RowF w a n es := by
  refine ⟨h.len, hE, fun i e he => ?_⟩
  have hl := h.len
  have hi : i < es.length := (List.getElem?_eq_some_iff.1 he).1
  rcases h.2 with ⟨_, h0⟩ | ⟨g, c, cur, hv, _⟩
  · omega
  · have hc := fun j u hu => World.ownsRow.cells h (g := g) (by rw [hv]; rfl) j u hu
    have hat := csF_at es i e he
    simp only [Value.slice.injEq] at hv
    refine ⟨g, 0, hv.1, ?_⟩
    have key : ∀ j u, j < 3 → e.cs[j]? = some u → w.cell? ⟨g, 0 + i * 3 + j, none⟩ = some u := fun j u hj hu => by
      have := hc (i * 3 + j) u (by rw [hat j hj]; exact hu)
      rw [Go.WideShapes.add_plain] at this
      rw [← this]
      congr 2
      omega
    exact ⟨key 0 _ (by omega) rfl, key 1 _ (by omega) rfl, key 2 _ (by omega) rfl⟩

section
variable {P : Program} (w : World)
theorem run_appF_nil (t ty : TypeId) (i : TypeInfo) (ht : P.underlying t = some (.slice 32)) (hi : P.info? 32 = some i) (base : Nat) (v : Value) (n : Nat) (es : List Fc) (hown : OwnF w base v n es) (c : Nat) :
    (Builtin.append_ #[t, t] ty #[v, .slice none 0 c]).run P w = .ok v w := by
  rcases hown.2 with ⟨rfl, rfl⟩ | ⟨g, cap, cur, rfl, hb, hg, hle, _⟩
  · simp [Builtin.append_, run_underlying ht, sizeOf, typeInfo, hi, Builtin.lenOf, Builtin.firstCells]
  · simp [Builtin.append_, run_underlying ht, sizeOf, typeInfo, hi, Builtin.lenOf, Builtin.firstCells, hle, storeCells]

theorem run_appF (base : Nat) (t ty : TypeId) (ht : P.underlying t = some (.slice 32)) (hinfo : (P.info? 32).map (fun i => (i.zero, i.size, i.bytes)) = some (some (.agg #[.int .i64 0, .int .u32 0, .int .u32 0]), 3, 16))
    (v : Value) (n : Nat) (es : List Fc) (hown : OwnF w base v n es) (ad : Option Addr) (m c : Nat) (fs : List Fc) (h2 : RowF w ad m fs) (hlen : n + m ≤ 100000) (hbase : base ≤ w.heap.size) :
    ∃ a' c' w', (Builtin.append_ #[t, t] ty #[v, .slice ad m c]).run P w = .ok (.slice a' (n + m) c') w' ∧ OwnF w' base (.slice a' (n + m) c') (n + m) (es ++ fs) ∧ Below base w w' := by
  obtain ⟨i, hi, hzz⟩ := Option.map_eq_some_iff.1 hinfo
  simp only [Prod.mk.injEq] at hzz
  obtain ⟨hz, hs, hb⟩ := hzz
  obtain ⟨hl2, _, hc2⟩ := h2
  cases ad with
  | none =>
    have hm : m = 0 := by
      rcases Nat.eq_zero_or_pos m with h | h
      · exact h
      · obtain ⟨_, _, h, _⟩ := hc2 0 _ (List.getElem?_eq_getElem (by omega)); cases h
    subst hm
    obtain rfl : fs = [] := List.eq_nil_of_length_eq_zero hl2
    obtain ⟨a', c', rfl⟩ := hown.shape
    refine ⟨a', c', w, run_appF_nil w t ty i ht hi base _ n es hown c, ?_, Below.refl _ _⟩
    simpa using hown
  | some x =>
    have hnews : ∀ j u, (fs.flatMap Fc.cs)[j]? = some u → w.cell? (x.add j) = some u := by
      intro j u hj
      have hjl : j < fs.length * 3 := by
        rcases Nat.lt_or_ge j (fs.length * 3) with h | h
        · exact h
        · rw [List.getElem?_eq_none (by rw [csF_flat_len]; exact h)] at hj; cases hj
      have hq : j / 3 < fs.length := by omega
      obtain ⟨b, off, e1, hc⟩ := hc2 (j / 3) _ (List.getElem?_eq_getElem hq)
      simp only [Option.some.injEq] at e1
      subst e1
      have hat := csF_at fs (j / 3) _ (List.getElem?_eq_getElem hq) (j % 3) (by omega)
      rw [show j / 3 * 3 + j % 3 = j from by omega, hj] at hat
      rw [Go.WideShapes.add_plain]
      have : off + j = off + j / 3 * 3 + j % 3 := by omega
      rw [this]
      obtain ⟨c0, c1, c2⟩ := hc
      have hm5 : j % 3 < 3 := by omega
      generalize j % 3 = r at hat hm5
      match r, hm5, hat with
      | 0, _, hat => simp [Fc.cs] at hat; rw [hat]; exact c0
      | 1, _, hat => simp [Fc.cs] at hat; rw [hat]; exact c1
      | 2, _, hat => simp [Fc.cs] at hat; rw [hat]; exact c2
    obtain ⟨v', w', hr, h3, h4, _⟩ := run_append_own (P := P) w base t ty 32 i (.agg #[.int .i64 0, .int .u32 0, .int .u32 0]) 3 16 ht hi hz hs hb rfl (by decide) v n _ hown x m c (fs.flatMap Fc.cs) (by rw [csF_flat_len, hl2]) hnews
      (by intro u hu; obtain ⟨k, _, hk⟩ := List.mem_flatMap.1 hu; simp only [Fc.cs, List.mem_cons, List.not_mem_nil, or_false] at hk; rcases hk with rfl | rfl | rfl <;> rfl) (by unfold maxLen; omega) (by omega) hbase
    have h5 : OwnF w' base v' (n + m) (es ++ fs) := by unfold OwnF; rw [List.flatMap_append]; exact h3
    obtain ⟨a', c', rfl⟩ := h5.shape
    exact ⟨a', c', w', hr, h5, (Below.refl _ _).grown h4 hbase hown.lt⟩

theorem wp_appF {o : Oper} {a : Act} {K : Act → World → Prop} {Q : Exit → Act → World → Prop} (s x : Operand) (t : TypeId)
    (ho : o.op = .call { callee := .builtin .append, args := #[s, x], argTypes := #[t, t] }) (base : Nat)
    (ht : P.underlying t = some (.slice 32)) (hinfo : (P.info? 32).map (fun i => (i.zero, i.size, i.bytes)) = some (some (.agg #[.int .i64 0, .int .u32 0, .int .u32 0]), 3, 16))
    (v : Value) (n : Nat) (es : List Fc) (hs : a.eval s = v) (hown : OwnF w base v n es) (ad : Option Addr) (m c : Nat) (fs : List Fc) (hx : a.eval x = .slice ad m c) (h2 : RowF w ad m fs) (k : Nat) (hk : n + m = k) (gs : List Fc) (hl : es ++ fs = gs) (hlen : k ≤ 100000) (hbase : base ≤ w.heap.size)
    (h : ∀ a' c' w', OwnF w' base (.slice a' k c') k gs → Below base w w' → K (a.put o.dst (.slice a' k c')) w') : o.wp P a w K Q := by
  subst hk hl
  obtain ⟨a', c', w', hr, h3, h4⟩ := run_appF (P := P) w base t o.type ht hinfo v n es hown ad m c fs h2 hlen hbase
  unfold Oper.wp execOp
  simp only [ho, resolve, invoke, builtin, Sem.run_bind, Sem.run_pure, Result.andThen_ok, List.map_toArray, List.map_cons, List.map_nil, hs, hx, hr]
  exact h a' c' w' h3 h4
theorem wpList_appF {ops : Array Oper} {rest : List Oper} {o : Oper} {a : Act} {Q : Exit → Act → World → Prop} (hgd : o.guard = none) (s x : Operand) (t : TypeId)
    (ho : o.op = .call { callee := .builtin .append, args := #[s, x], argTypes := #[t, t] }) (base : Nat)
    (ht : P.underlying t = some (.slice 32)) (hinfo : (P.info? 32).map (fun i => (i.zero, i.size, i.bytes)) = some (some (.agg #[.int .i64 0, .int .u32 0, .int .u32 0]), 3, 16))
    (v : Value) (n : Nat) (es : List Fc) (hs : a.eval s = v) (hown : OwnF w base v n es) (ad : Option Addr) (m c : Nat) (fs : List Fc) (hx : a.eval x = .slice ad m c) (h2 : RowF w ad m fs) (k : Nat) (hk : n + m = k) (gs : List Fc) (hl : es ++ fs = gs) (hlen : k ≤ 100000) (hbase : base ≤ w.heap.size)
    (h : ∀ a' c' w', OwnF w' base (.slice a' k c') k gs → Below base w w' → wpList P ops Q rest (a.put o.dst (.slice a' k c')) w') : wpList P ops Q (o :: rest) a w := by
  refine wpList_plain hgd fun _ hK => ?_
  exact wp_appF w s x t ho base ht hinfo v n es hs hown ad m c fs hx h2 k hk gs hl hlen hbase fun a' c' w' h3 h4 => hK _ _ (h a' c' w' h3 h4)
theorem step_appF {ops : Array Oper} {o : Oper} {a : Act} {K : Act → World → Prop} {Q : Exit → Act → World → Prop} {E : Prop} (hgd : o.guard = none) (s x : Operand) (t : TypeId)
    (ho : o.op = .call { callee := .builtin .append, args := #[s, x], argTypes := #[t, t] }) (base : Nat)
    (ht : P.underlying t = some (.slice 32)) (hinfo : (P.info? 32).map (fun i => (i.zero, i.size, i.bytes)) = some (some (.agg #[.int .i64 0, .int .u32 0, .int .u32 0]), 3, 16))
    (v : Value) (n : Nat) (es : List Fc) (hs : a.eval s = v) (hown : OwnF w base v n es) (ad : Option Addr) (m c : Nat) (fs : List Fc) (hx : a.eval x = .slice ad m c) (h2 : RowF w ad m fs) (k : Nat) (hk : n + m = k) (gs : List Fc) (hl : es ++ fs = gs) (hlen : k ≤ 100000) (hbase : base ≤ w.heap.size)
    (h : ∀ a' c' w', OwnF w' base (.slice a' k c') k gs → Below base w w' → K (a.put o.dst (.slice a' k c')) w') :
    if Region.wanted o (yielded ops a.tmps) = true then Oper.wp P o a w K Q else E := by
  have hw : Region.wanted o (yielded ops a.tmps) = true := by simp [Region.wanted, hgd]
  rw [if_pos hw]
  exact wp_appF w s x t ho base ht hinfo v n es hs hown ad m c fs hx h2 k hk gs hl hlen hbase h
end
theorem infoF : (Try.prog.info? 32).map (fun i => (i.zero, i.size, i.bytes)) = some (some (.agg #[.int .i64 0, .int .u32 0, .int .u32 0]), 3, 16) := by kernel_rfl
/-- One part in a block. -/
theorem rowF_one {W : World} {N M : Nat} {e : Fc} (h : F3 W M 0 e) (hm : M = N) (hk : e.Ok) : RowF W (some ⟨N, 0, none⟩) 1 [e] := by
  subst hm
  refine ⟨rfl, fun x hx => by simp at hx; subst hx; exact hk, fun i x hx => ?_⟩
  cases i with
  | zero => simp at hx; subst hx; exact ⟨M, 0, rfl, by simpa using h⟩
  | succ i => simp at hx
theorem OwnF.mid {w w' : World} {N : Nat} {v : Value} {n : Nat} {es : List Fc} (h : OwnF w (N + 1) v n es) (hb : ∀ j, N < j → j < w.heap.size → w'.heap[j]? = w.heap[j]?) : OwnF w' (N + 1) v n es := by
  refine ⟨h.1, ?_⟩
  rcases h.2 with hn | ⟨g, cap, cur, hv, hbg, hg, r⟩
  · exact .inl hn
  · refine .inr ⟨g, cap, cur, hv, hbg, ?_, r⟩
    rw [hb g hbg (Array.getElem?_eq_some_iff.1 hg).1]
    exact hg
end Go.Proofs.Ytofmgkpghkeegaa
