/- Plain laws: append onto a row of bytes of one's own, with a block that stays; rows of entries of one's own, append onto them. No program is named here. -/
import Derived.Test.YtabpillcpnnidaaCon7
import Derived.Maps.AppendAt
import Derived.Deep.AppendLies
namespace Go.Proofs.Ytabpillcpnnidaa
open Go.RowKit

section
variable {P : Program} (w : World)

theorem run_app8f (N : Nat) (hN : N < w.heap.size) (base : Nat) (t ty e : TypeId) (ht : P.underlying t = some (.slice e)) (hinfo : (P.info? e).map (fun i => (i.zero, i.size, i.bytes)) = some (some (.int .u8 0), 1, 1))
    (v : Value) (n : Nat) (l1 : List Int) (hown : Own8 w base e v n l1) (hne : v.ownBlock ≠ some N) (ad : Option Addr) (m c : Nat) (l2 : List Int) (h2 : Row8 w ad m l2) (hlen : n + m ≤ 100000) (hbase : base ≤ w.heap.size) :
    ∃ a' c' w', (Builtin.append_ #[t, t] ty #[v, .slice ad m c]).run P w = .ok (.slice a' (n + m) c') w' ∧ Own8 w' base e (.slice a' (n + m) c') (n + m) (l1 ++ l2) ∧ Below base w w' ∧ (Value.slice a' (n + m) c').ownBlock ≠ some N ∧ (∀ o, w'.cell? ⟨N, o, none⟩ = w.cell? ⟨N, o, none⟩) ∧ w.heap.size ≤ w'.heap.size := by
  obtain ⟨i, hi, hzz⟩ := Option.map_eq_some_iff.1 hinfo
  simp only [Prod.mk.injEq] at hzz
  obtain ⟨hz, hs, hb⟩ := hzz
  obtain ⟨hl2, _, _, hc2⟩ := h2
  cases ad with
  | none =>
    have hm : m = 0 := by
      rcases Nat.eq_zero_or_pos m with h | h
      · exact h
      · obtain ⟨_, _, h, _⟩ := hc2 0 h; cases h
    subst hm
    obtain rfl : l2 = [] := List.eq_nil_of_length_eq_zero hl2
    obtain ⟨a', c', rfl⟩ := hown.shape
    exact ⟨a', c', w, run_app8_nil w t ty e i ht hi base _ n l1 hown c, by simpa using hown, Below.refl _ _, hne, fun _ => rfl, Nat.le_refl _⟩
  | some x =>
    have hnews : ∀ j u, (l2.map (Value.int .u8))[j]? = some u → w.cell? (x.add j) = some u := by
      intro j u hj
      have hjl : j < l2.length := by
        rcases Nat.lt_or_ge j l2.length with h | h
        · exact h
        · simp [List.getElem?_eq_none h] at hj
      obtain ⟨b, off, e1, hc⟩ := hc2 j (by omega)
      simp only [Option.some.injEq] at e1
      subst e1
      rw [Go.WideShapes.add_plain, hc]
      simpa [List.getElem?_eq_getElem hjl] using hj
    obtain ⟨v', w', hr, h3, h4, _, hat⟩ := run_append_own_at (P := P) w base t ty e i (.int .u8 0) 1 1 ht hi hz hs hb rfl (by decide) v n _ hown x m c (l2.map (Value.int .u8)) (by simp [hl2]) hnews
      (by intro u hu; obtain ⟨k, _, rfl⟩ := List.mem_map.1 hu; rfl) (by unfold maxLen; omega) (by omega) hbase
    have h5 : Own8 w' base e v' (n + m) (l1 ++ l2) := by unfold Own8; rw [List.map_append]; exact h3
    obtain ⟨a', c', rfl⟩ := h5.shape
    refine ⟨a', c', w', hr, h5, (Below.refl _ _).grown h4 hbase hown.lt, ?_, fun o => h4.cell_far ⟨N, o, none⟩ hN (fun e => hne e.symm), h4.size⟩
    rcases hat with h | h
    · rw [h]; exact hne
    · rw [h]; intro e; simp only [Option.some.injEq] at e; omega

theorem wpList_app8f (N : Nat) {ops : Array Oper} {rest : List Oper} {o : Oper} {a : Act} {Q : Exit → Act → World → Prop} (hgd : o.guard = none) (s x : Operand) (t e : TypeId)
    (ho : o.op = .call { callee := .builtin .append, args := #[s, x], argTypes := #[t, t] }) (hN : N < w.heap.size) (base : Nat)
    (ht : P.underlying t = some (.slice e)) (hinfo : (P.info? e).map (fun i => (i.zero, i.size, i.bytes)) = some (some (.int .u8 0), 1, 1))
    (v : Value) (n : Nat) (l1 : List Int) (hs : a.eval s = v) (hown : Own8 w base e v n l1) (hne : v.ownBlock ≠ some N) (ad : Option Addr) (m c : Nat) (l2 : List Int) (hx : a.eval x = .slice ad m c) (h2 : Row8 w ad m l2) (k : Nat) (hk : n + m = k) (l3 : List Int) (hl : l1 ++ l2 = l3) (hlen : k ≤ 100000) (hbase : base ≤ w.heap.size)
    (h : ∀ a' c' w', Own8 w' base e (.slice a' k c') k l3 → Below base w w' → (Value.slice a' k c').ownBlock ≠ some N → (∀ o, w'.cell? ⟨N, o, none⟩ = w.cell? ⟨N, o, none⟩) → w.heap.size ≤ w'.heap.size → wpList P ops Q rest (a.put o.dst (.slice a' k c')) w') : wpList P ops Q (o :: rest) a w := by
  subst hk hl
  refine wpList_plain hgd fun _ hK => ?_
  obtain ⟨a', c', w', hr, h3, h4, h5, h6, h7⟩ := run_app8f (P := P) w N hN base t o.type e ht hinfo v n l1 hown hne ad m c l2 h2 hlen hbase
  unfold Oper.wp execOp
  simp only [ho, resolve, invoke, builtin, Sem.run_bind, Sem.run_pure, Result.andThen_ok, List.map_toArray, List.map_cons, List.map_nil, hs, hx, hr]
  exact hK _ _ (h a' c' w' h3 h4 h5 h6 h7)
end
theorem E5.far {W W' : World} {N o : Nat} {e : Ent} (h : E5 W N o e) (hf : ∀ o, W'.cell? ⟨N, o, none⟩ = W.cell? ⟨N, o, none⟩) : E5 W' N o e :=
  ⟨(hf _).trans h.1, (hf _).trans h.2.1, (hf _).trans h.2.2.1, (hf _).trans h.2.2.2.1, (hf _).trans h.2.2.2.2⟩
theorem E5.new (W : World) (a l t x m : Int) : E5 (W.alloc (obj5 a l t x m)) W.heap.size 0 ⟨a, l, t, x, m⟩ :=
  ⟨by simp [go_sem], by simp [go_sem], by simp [go_sem], by simp [go_sem], by simp [go_sem]⟩
theorem Own8.not_new {w : World} {base : Nat} {e : TypeId} {v : Value} {n : Nat} {l : List Int} (h : Own8 w base e v n l) : v.ownBlock ≠ some w.heap.size := by
  intro hk
  have := (World.ownsRow.lt h _ hk).2
  omega

/-- An entry's cells. -/
def Ent.cs (e : Ent) : List Value := [.int .u32 e.a, .int .i64 e.l, .int .u16 e.t, .int .u32 e.x, .int .i64 e.m]
theorem cs_flat_len (es : List Ent) : (es.flatMap Ent.cs).length = es.length * 5 := by
  induction es with
  | nil => rfl
  | cons e es ih => simp only [List.flatMap_cons, List.length_append, ih, List.length_cons]; simp only [Ent.cs, List.length_cons, List.length_nil]; omega
theorem cs_at : ∀ (es : List Ent) (i : Nat) (e : Ent), es[i]? = some e → ∀ j, j < 5 → (es.flatMap Ent.cs)[i * 5 + j]? = e.cs[j]? := by
  intro es
  induction es with
  | nil => intro i e h; simp at h
  | cons x es ih =>
    intro i e h j hj
    have hx : x.cs.length = 5 := rfl
    cases i with
    | zero =>
      simp at h; subst h
      rw [List.flatMap_cons, List.getElem?_append_left (by omega), Nat.zero_mul, Nat.zero_add]
    | succ i =>
      simp at h
      rw [List.flatMap_cons, List.getElem?_append_right (by omega), hx, ← ih i e h j hj]
      congr 1
      omega
/-- The slice value v, of n entries es, is a row of one's own, from block base on. -/
def OwnE (w : World) (base : Nat) (v : Value) (n : Nat) (es : List Ent) : Prop := w.ownsRow base 43 5 v n (es.flatMap Ent.cs)
theorem OwnE.shape {w : World} {base : Nat} {v : Value} {n : Nat} {es : List Ent} (h : OwnE w base v n es) : ∃ a cap, v = .slice a n cap := by
  rcases h.2 with ⟨rfl, rfl⟩ | ⟨g, c, cur, hv, _⟩
  · exact ⟨_, _, rfl⟩
  · exact ⟨_, _, hv⟩
theorem OwnE.len {w : World} {base : Nat} {v : Value} {n : Nat} {es : List Ent} (h : OwnE w base v n es) : es.length = n := by
  have := h.1; rw [cs_flat_len] at this; omega
theorem ownE_nil (w : World) (base : Nat) : OwnE w base (.slice none 0 0) 0 [] := World.ownsRow_nil w base 43 5
theorem OwnE.lt {w : World} {base : Nat} {v : Value} {n : Nat} {es : List Ent} (h : OwnE w base v n es) : ∀ k, v.ownBlock = some k → base ≤ k := fun k hk => (World.ownsRow.lt h k hk).1
theorem OwnE.later {w w' : World} {base : Nat} {v : Value} {n : Nat} {es : List Ent} (h : OwnE w base v n es) (hb : Below w.heap.size w w') : OwnE w' base v n es := by
  refine ⟨h.1, ?_⟩
  rcases h.2 with hn | ⟨g, cap, cur, hv, hbg, hg, r⟩
  · exact .inl hn
  · refine .inr ⟨g, cap, cur, hv, hbg, ?_, r⟩
    rw [hb.block g (Array.getElem?_eq_some_iff.1 hg).1]
    exact hg
/-- Stores into blocks below it change nothing of it. -/
theorem OwnE.keep {w w' : World} {base : Nat} {v : Value} {n : Nat} {es : List Ent} (h : OwnE w base v n es) (hb : ∀ k, base ≤ k → w'.heap[k]? = w.heap[k]?) : OwnE w' base v n es := by
  refine ⟨h.1, ?_⟩
  rcases h.2 with hn | ⟨g, cap, cur, hv, hbg, hg, r⟩
  · exact .inl hn
  · refine .inr ⟨g, cap, cur, hv, hbg, ?_, r⟩
    rw [hb g hbg]
    exact hg
theorem OwnE.row {w : World} {base : Nat} {a : Option Addr} {n m cap : Nat} {es : List Ent} (h : OwnE w base (.slice a m cap) n es) (hE : Ents es) : RowE w a n es := by
  refine ⟨h.len, hE, fun i e he => ?_⟩
  have hl := h.len
  have hi : i < es.length := (List.getElem?_eq_some_iff.1 he).1
  rcases h.2 with ⟨_, h0⟩ | ⟨g, c, cur, hv, _⟩
  · omega
  · have hc := fun j u hu => World.ownsRow.cells h (g := g) (by rw [hv]; rfl) j u hu
    have hat := cs_at es i e he
    simp only [Value.slice.injEq] at hv
    refine ⟨g, 0, hv.1, ?_⟩
    have key : ∀ j u, j < 5 → e.cs[j]? = some u → w.cell? ⟨g, 0 + i * 5 + j, none⟩ = some u := fun j u hj hu => by
      have := hc (i * 5 + j) u (by rw [hat j hj]; exact hu)
      rw [Go.WideShapes.add_plain] at this
      rw [← this]
      congr 2
      omega
    exact ⟨key 0 _ (by omega) rfl, key 1 _ (by omega) rfl, key 2 _ (by omega) rfl, key 3 _ (by omega) rfl, key 4 _ (by omega) rfl⟩

section
variable {P : Program} (w : World)
theorem run_appE_nil (t ty : TypeId) (i : TypeInfo) (ht : P.underlying t = some (.slice 43)) (hi : P.info? 43 = some i) (base : Nat) (v : Value) (n : Nat) (es : List Ent) (hown : OwnE w base v n es) (c : Nat) :
    (Builtin.append_ #[t, t] ty #[v, .slice none 0 c]).run P w = .ok v w := by
  rcases hown.2 with ⟨rfl, rfl⟩ | ⟨g, cap, cur, rfl, hb, hg, hle, _⟩
  · simp [Builtin.append_, run_underlying ht, sizeOf, typeInfo, hi, Builtin.lenOf, Builtin.firstCells]
  · simp [Builtin.append_, run_underlying ht, sizeOf, typeInfo, hi, Builtin.lenOf, Builtin.firstCells, hle, storeCells]

theorem run_appE (base : Nat) (t ty : TypeId) (ht : P.underlying t = some (.slice 43)) (hinfo : (P.info? 43).map (fun i => (i.zero, i.size, i.bytes)) = some (some (.agg #[.int .u32 0, .int .i64 0, .int .u16 0, .int .u32 0, .int .i64 0]), 5, 32))
    (v : Value) (n : Nat) (es : List Ent) (hown : OwnE w base v n es) (ad : Option Addr) (m c : Nat) (fs : List Ent) (h2 : RowE w ad m fs) (hlen : n + m ≤ 100000) (hbase : base ≤ w.heap.size) :
    ∃ a' c' w', (Builtin.append_ #[t, t] ty #[v, .slice ad m c]).run P w = .ok (.slice a' (n + m) c') w' ∧ OwnE w' base (.slice a' (n + m) c') (n + m) (es ++ fs) ∧ Below base w w' := by
  obtain ⟨i, hi, hzz⟩ := Option.map_eq_some_iff.1 hinfo
  simp only [Prod.mk.injEq] at hzz
  obtain ⟨hz, hs, hb⟩ := hzz
  obtain ⟨hl2, _, hc2⟩ := h2
  cases ad with
  | none =>
    have hm : m = 0 := by
      rcases Nat.eq_zero_or_pos m with h | h
      · exact h
      · obtain ⟨_, _, h, _⟩ := hc2 0 _ (List.getElem?_eq_getElem (by omega)); cases h
    subst hm
    obtain rfl : fs = [] := List.eq_nil_of_length_eq_zero hl2
    obtain ⟨a', c', rfl⟩ := hown.shape
    refine ⟨a', c', w, run_appE_nil w t ty i ht hi base _ n es hown c, ?_, Below.refl _ _⟩
    simpa using hown
  | some x =>
    have hnews : ∀ j u, (fs.flatMap Ent.cs)[j]? = some u → w.cell? (x.add j) = some u := by
      intro j u hj
      have hjl : j < fs.length * 5 := by
        rcases Nat.lt_or_ge j (fs.length * 5) with h | h
        · exact h
        · rw [List.getElem?_eq_none (by rw [cs_flat_len]; exact h)] at hj; cases hj
      have hq : j / 5 < fs.length := by omega
      obtain ⟨b, off, e1, hc⟩ := hc2 (j / 5) _ (List.getElem?_eq_getElem hq)
      simp only [Option.some.injEq] at e1
      subst e1
      have hat := cs_at fs (j / 5) _ (List.getElem?_eq_getElem hq) (j % 5) (by omega)
      rw [show j / 5 * 5 + j % 5 = j from by omega, hj] at hat
      rw [Go.WideShapes.add_plain]
      have : off + j = off + j / 5 * 5 + j % 5 := by omega
      rw [this]
      obtain ⟨c0, c1, c2, c3, c4⟩ := hc
      have hm5 : j % 5 < 5 := by omega
      generalize j % 5 = r at hat hm5
      match r, hm5, hat with
      | 0, _, hat => simp [Ent.cs] at hat; rw [hat]; exact c0
      | 1, _, hat => simp [Ent.cs] at hat; rw [hat]; exact c1
      | 2, _, hat => simp [Ent.cs] at hat; rw [hat]; exact c2
      | 3, _, hat => simp [Ent.cs] at hat; rw [hat]; exact c3
      | 4, _, hat => simp [Ent.cs] at hat; rw [hat]; exact c4
    obtain ⟨v', w', hr, h3, h4, _⟩ := run_append_own (P := P) w base t ty 43 i (.agg #[.int .u32 0, .int .i64 0, .int .u16 0, .int .u32 0, .int .i64 0]) 5 32 ht hi hz hs hb rfl (by decide) v n _ hown x m c (fs.flatMap Ent.cs) (by rw [cs_flat_len, hl2]) hnews
      (by intro u hu; obtain ⟨k, _, hk⟩ := List.mem_flatMap.1 hu; simp only [Ent.cs, List.mem_cons, List.not_mem_nil, or_false] at hk; rcases hk with rfl | rfl | rfl | rfl | rfl <;> rfl) (by unfold maxLen; omega) (by omega) hbase
    have h5 : OwnE w' base v' (n + m) (es ++ fs) := by unfold OwnE; rw [List.flatMap_append]; exact h3
    obtain ⟨a', c', rfl⟩ := h5.shape
    exact ⟨a', c', w', hr, h5, (Below.refl _ _).grown h4 hbase hown.lt⟩

theorem wp_appE {o : Oper} {a : Act} {K : Act → World → Prop} {Q : Exit → Act → World → Prop} (s x : Operand) (t : TypeId)
    (ho : o.op = .call { callee := .builtin .append, args := #[s, x], argTypes := #[t, t] }) (base : Nat)
    (ht : P.underlying t = some (.slice 43)) (hinfo : (P.info? 43).map (fun i => (i.zero, i.size, i.bytes)) = some (some (.agg #[.int .u32 0, .int .i64 0, .int .u16 0, .int .u32 0, .int .i64 0]), 5, 32))
    (v : Value) (n : Nat) (es : List Ent) (hs : a.eval s = v) (hown : OwnE w base v n es) (ad : Option Addr) (m c : Nat) (fs : List Ent) (hx : a.eval x = .slice ad m c) (h2 : RowE w ad m fs) (k : Nat) (hk : n + m = k) (gs : List Ent) (hl : es ++ fs = gs) (hlen : k ≤ 100000) (hbase : base ≤ w.heap.size)
    (h : ∀ a' c' w', OwnE w' base (.slice a' k c') k gs → Below base w w' → K (a.put o.dst (.slice a' k c')) w') : o.wp P a w K Q := by
  subst hk hl
  obtain ⟨a', c', w', hr, h3, h4⟩ := run_appE (P := P) w base t o.type ht hinfo v n es hown ad m c fs h2 hlen hbase
  unfold Oper.wp execOp
  simp only [ho, resolve, invoke, builtin, Sem.run_bind, Sem.run_pure, Result.andThen_ok, List.map_toArray, List.map_cons, List.map_nil, hs, hx, hr]
  exact h a' c' w' h3 h4
theorem wpList_appE {ops : Array Oper} {rest : List Oper} {o : Oper} {a : Act} {Q : Exit → Act → World → Prop} (hgd : o.guard = none) (s x : Operand) (t : TypeId)
    (ho : o.op = .call { callee := .builtin .append, args := #[s, x], argTypes := #[t, t] }) (base : Nat)
    (ht : P.underlying t = some (.slice 43)) (hinfo : (P.info? 43).map (fun i => (i.zero, i.size, i.bytes)) = some (some (.agg #[.int .u32 0, .int .i64 0, .int .u16 0, .int .u32 0, .int .i64 0]), 5, 32))
    (v : Value) (n : Nat) (es : List Ent) (hs : a.eval s = v) (hown : OwnE w base v n es) (ad : Option Addr) (m c : Nat) (fs : List Ent) (hx : a.eval x = .slice ad m c) (h2 : RowE w ad m fs) (k : Nat) (hk : n + m = k) (gs : List Ent) (hl : es ++ fs = gs) (hlen : k ≤ 100000) (hbase : base ≤ w.heap.size)
    (h : ∀ a' c' w', OwnE w' base (.slice a' k c') k gs → Below base w w' → wpList P ops Q rest (a.put o.dst (.slice a' k c')) w') : wpList P ops Q (o :: rest) a w := by
  refine wpList_plain hgd fun _ hK => ?_
  exact wp_appE w s x t ho base ht hinfo v n es hs hown ad m c fs hx h2 k hk gs hl hlen hbase fun a' c' w' h3 h4 => hK _ _ (h a' c' w' h3 h4)
theorem step_appE {ops : Array Oper} {o : Oper} {a : Act} {K : Act → World → Prop} {Q : Exit → Act → World → Prop} {E : Prop} (hgd : o.guard = none) (s x : Operand) (t : TypeId)
    (ho : o.op = .call { callee := .builtin .append, args := #[s, x], argTypes := #[t, t] }) (base : Nat)
    (ht : P.underlying t = some (.slice 43)) (hinfo : (P.info? 43).map (fun i => (i.zero, i.size, i.bytes)) = some (some (.agg #[.int .u32 0, .int .i64 0, .int .u16 0, .int .u32 0, .int .i64 0]), 5, 32))
    (v : Value) (n : Nat) (es : List Ent) (hs : a.eval s = v) (hown : OwnE w base v n es) (ad : Option Addr) (m c : Nat) (fs : List Ent) (hx : a.eval x = .slice ad m c) (h2 : RowE w ad m fs) (k : Nat) (hk : n + m = k) (gs : List Ent) (hl : es ++ fs = gs) (hlen : k ≤ 100000) (hbase : base ≤ w.heap.size)
    (h : ∀ a' c' w', OwnE w' base (.slice a' k c') k gs → Below base w w' → K (a.put o.dst (.slice a' k c')) w') :
    if Region.wanted o (yielded ops a.tmps) = true then Oper.wp P o a w K Q else E := by
  have hw : Region.wanted o (yielded ops a.tmps) = true := by simp [Region.wanted, hgd]
  rw [if_pos hw]
  exact wp_appE w s x t ho base ht hinfo v n es hs hown ad m c fs hx h2 k hk gs hl hlen hbase h
end
theorem info43 : (Try.prog.info? 43).map (fun i => (i.zero, i.size, i.bytes)) = some (some (.agg #[.int .u32 0, .int .i64 0, .int .u16 0, .int .u32 0, .int .i64 0]), 5, 32) := by kernel_rfl
/-- One entry in a block. -/
theorem rowE_one {W : World} {N : Nat} {e : Ent} (h : E5 W N 0 e) (hk : e.Ok) : RowE W (some ⟨N, 0, none⟩) 1 [e] := by
  refine ⟨rfl, fun x hx => by simp at hx; subst hx; exact hk, fun i x hx => ?_⟩
  cases i with
  | zero => simp at hx; subst hx; exact ⟨N, 0, rfl, by simpa using h⟩
  | succ i => simp at hx
end Go.Proofs.Ytabpillcpnnidaa
