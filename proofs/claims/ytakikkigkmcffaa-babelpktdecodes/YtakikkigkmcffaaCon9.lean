/- Rows of parts of one's own, append onto them; the reader's block. -/
import Derived.Test.YtakikkigkmcffaaCon8
namespace Go.Proofs.Ytakikkigkmcffaa
open Go.RowKit

/-- An entry's cells. -/
def Tlv.cs (e : Tlv) : List Value := [.int .i64 e.k, .int .u16 e.s, .int .i64 e.i, .int .i64 e.c, .int .u32 e.a, .int .i64 e.l, .int .u64 e.r, .int .u16 e.t, .int .i64 e.h]
theorem cs_flat_len (es : List Tlv) : (es.flatMap Tlv.cs).length = es.length * 9 := by
  induction es with
  | nil => rfl
  | cons e es ih => simp only [List.flatMap_cons, List.length_append, ih, List.length_cons]; simp only [Tlv.cs, List.length_cons, List.length_nil]; omega
theorem cs_at : ∀ (es : List Tlv) (i : Nat) (e : Tlv), es[i]? = some e → ∀ j, j < 9 → (es.flatMap Tlv.cs)[i * 9 + j]? = e.cs[j]? := by
  intro es
  induction es with
  | nil => intro i e h; simp at h
  | cons x es ih =>
    intro i e h j hj
    have hx : x.cs.length = 9 := rfl
    cases i with
    | zero =>
      simp at h; subst h
      rw [List.flatMap_cons, List.getElem?_append_left (by omega), Nat.zero_mul, Nat.zero_add]
    | succ i =>
      simp at h
      rw [List.flatMap_cons, List.getElem?_append_right (by omega), hx, ← ih i e h j hj]
      congr 1
      omega
/-- The slice value v, of n entries es, is a row of one's own, from block base on. -/
def OwnT (w : World) (base : Nat) (v : Value) (n : Nat) (es : List Tlv) : Prop := w.ownsRow base 44 9 v n (es.flatMap Tlv.cs)
theorem OwnT.shape {w : World} {base : Nat} {v : Value} {n : Nat} {es : List Tlv} (h : OwnT w base v n es) : ∃ a cap, v = .slice a n cap := by
  rcases h.2 with ⟨rfl, rfl⟩ | ⟨g, c, cur, hv, _⟩
  · exact ⟨_, _, rfl⟩
  · exact ⟨_, _, hv⟩
theorem OwnT.len {w : World} {base : Nat} {v : Value} {n : Nat} {es : List Tlv} (h : OwnT w base v n es) : es.length = n := by
  have := h.1; rw [cs_flat_len] at this; omega
theorem ownT_nil (w : World) (base : Nat) : OwnT w base (.slice none 0 0) 0 [] := World.ownsRow_nil w base 44 9
theorem OwnT.lt {w : World} {base : Nat} {v : Value} {n : Nat} {es : List Tlv} (h : OwnT w base v n es) : ∀ k, v.ownBlock = some k → base ≤ k := fun k hk => (World.ownsRow.lt h k hk).1
theorem OwnT.later {w w' : World} {base : Nat} {v : Value} {n : Nat} {es : List Tlv} (h : OwnT w base v n es) (hb : Below w.heap.size w w') : OwnT w' base v n es := by
  refine ⟨h.1, ?_⟩
  rcases h.2 with hn | ⟨g, cap, cur, hv, hbg, hg, r⟩
  · exact .inl hn
  · refine .inr ⟨g, cap, cur, hv, hbg, ?_, r⟩
    rw [hb.block g (Array.getElem?_eq_some_iff.1 hg).1]
    exact hg
/-- Stores into blocks below it change nothing of it. -/
theorem OwnT.keep {w w' : World} {base : Nat} {v : Value} {n : Nat} {es : List Tlv} (h : OwnT w base v n es) (hb : ∀ k, base ≤ k → w'.heap[k]? = w.heap[k]?) : OwnT w' base v n es := by
  refine ⟨h.1, ?_⟩
  rcases h.2 with hn | ⟨g, cap, cur, hv, hbg, hg, r⟩
  · exact .inl hn
  · refine .inr ⟨g, cap, cur, hv, hbg, ?_, r⟩
    rw [hb g hbg]
    exact hg
theorem OwnT.row {w : World} {base : Nat} {a : Option Addr} {n m cap : Nat} {es : List Tlv} (h : OwnT w base (.slice a m cap) n es) (hE : Tlvs es) : RowT w a n es := by
  refine ⟨h.len, hE, fun i e he => ?_⟩
  have hl := h.len
  have hi : i < es.length := (List.getElem?_eq_some_iff.1 he).1
  rcases h.2 with ⟨_, h0⟩ | ⟨g, c, cur, hv, _⟩
  · omega
  · have hc := fun j u hu => World.ownsRow.cells h (g := g) (by rw [hv]; rfl) j u hu
    have hat := cs_at es i e he
    simp only [Value.slice.injEq] at hv
    refine ⟨g, 0, hv.1, ?_⟩
    have key : ∀ j u, j < 9 → e.cs[j]? = some u → w.cell? ⟨g, 0 + i * 9 + j, none⟩ = some u := fun j u hj hu => by
      have := hc (i * 9 + j) u (by rw [hat j hj]; exact hu)
      rw [Go.WideShapes.add_plain] at this
      rw [← this]
      congr 2
      omega
    exact ⟨key 0 _ (by omega) rfl, key 1 _ (by omega) rfl, key 2 _ (by omega) rfl, key 3 _ (by omega) rfl, key 4 _ (by omega) rfl, key 5 _ (by omega) rfl, key 6 _ (by omega) rfl, key 7 _ (by omega) rfl, key 8 _ (by omega) rfl⟩

section
variable {P : Program} (w : World)
theorem run_appT_nil (t ty : TypeId) (i : TypeInfo) (ht : P.underlying t = some (.slice 44)) (hi : P.info? 44 = some i) (base : Nat) (v : Value) (n : Nat) (es : List Tlv) (hown : OwnT w base v n es) (c : Nat) :
    (Builtin.append_ #[t, t] ty #[v, .slice none 0 c]).run P w = .ok v w := by
  rcases hown.2 with ⟨rfl, rfl⟩ | ⟨g, cap, cur, rfl, hb, hg, hle, _⟩
  · simp [Builtin.append_, run_underlying ht, sizeOf, typeInfo, hi, Builtin.lenOf, Builtin.firstCells]
  · simp [Builtin.append_, run_underlying ht, sizeOf, typeInfo, hi, Builtin.lenOf, Builtin.firstCells, hle, storeCells]

theorem run_appT (base : Nat) (t ty : TypeId) (ht : P.underlying t = some (.slice 44)) (hinfo : (P.info? 44).map (fun i => (i.zero, i.size, i.bytes)) = some (some (.agg #[.int .i64 0, .int .u16 0, .int .i64 0, .int .i64 0, .int .u32 0, .int .i64 0, .int .u64 0, .int .u16 0, .int .i64 0]), 9, 72))
    (v : Value) (n : Nat) (es : List Tlv) (hown : OwnT w base v n es) (ad : Option Addr) (m c : Nat) (fs : List Tlv) (h2 : RowT w ad m fs) (hlen : n + m ≤ 100000) (hbase : base ≤ w.heap.size) :
    ∃ a' c' w', (Builtin.append_ #[t, t] ty #[v, .slice ad m c]).run P w = .ok (.slice a' (n + m) c') w' ∧ OwnT w' base (.slice a' (n + m) c') (n + m) (es ++ fs) ∧ Below base w w' := by
  obtain ⟨i, hi, hzz⟩ := Option.map_eq_some_iff.1 hinfo
  simp only [Prod.mk.injEq] at hzz
  obtain ⟨hz, hs, hb⟩ := hzz
  obtain ⟨hl2, _, hc2⟩ := h2
  cases ad with
  | none =>
    have hm : m = 0 := by
      rcases Nat.eq_zero_or_pos m with h | h
      · exact h
      · obtain ⟨_, _, h, _⟩ := hc2 0 _ (List.getElem?_eq_getElem (by omega)); cases h
    subst hm
    obtain rfl : fs = [] := List.eq_nil_of_length_eq_zero hl2
    obtain ⟨a', c', rfl⟩ := hown.shape
    refine ⟨a', c', w, run_appT_nil w t ty i ht hi base _ n es hown c, ?_, Below.refl _ _⟩
    simpa using hown
  | some x =>
    have hnews : ∀ j u, (fs.flatMap Tlv.cs)[j]? = some u → w.cell? (x.add j) = some u := by
      intro j u hj
      have hjl : j < fs.length * 9 := by
        rcases Nat.lt_or_ge j (fs.length * 9) with h | h
        · exact h
        · rw [List.getElem?_eq_none (by rw [cs_flat_len]; exact h)] at hj; cases hj
      have hq : j / 9 < fs.length := by omega
      obtain ⟨b, off, e1, hc⟩ := hc2 (j / 9) _ (List.getElem?_eq_getElem hq)
      simp only [Option.some.injEq] at e1
      subst e1
      have hat := cs_at fs (j / 9) _ (List.getElem?_eq_getElem hq) (j % 9) (by omega)
      rw [show j / 9 * 9 + j % 9 = j from by omega, hj] at hat
      rw [Go.WideShapes.add_plain]
      have : off + j = off + j / 9 * 9 + j % 9 := by omega
      rw [this]
      obtain ⟨c0, c1, c2, c3, c4, c5, c6, c7, c8⟩ := hc
      have hm5 : j % 9 < 9 := by omega
      generalize j % 9 = r at hat hm5
      match r, hm5, hat with
      | 0, _, hat => simp [Tlv.cs] at hat; rw [hat]; exact c0
      | 1, _, hat => simp [Tlv.cs] at hat; rw [hat]; exact c1
      | 2, _, hat => simp [Tlv.cs] at hat; rw [hat]; exact c2
      | 3, _, hat => simp [Tlv.cs] at hat; rw [hat]; exact c3
      | 4, _, hat => simp [Tlv.cs] at hat; rw [hat]; exact c4
      | 5, _, hat => simp [Tlv.cs] at hat; rw [hat]; exact c5
      | 6, _, hat => simp [Tlv.cs] at hat; rw [hat]; exact c6
      | 7, _, hat => simp [Tlv.cs] at hat; rw [hat]; exact c7
      | 8, _, hat => simp [Tlv.cs] at hat; rw [hat]; exact c8
    obtain ⟨v', w', hr, h3, h4, _⟩ := run_append_own (P := P) w base t ty 44 i (.agg #[.int .i64 0, .int .u16 0, .int .i64 0, .int .i64 0, .int .u32 0, .int .i64 0, .int .u64 0, .int .u16 0, .int .i64 0]) 9 72 ht hi hz hs hb rfl (by decide) v n _ hown x m c (fs.flatMap Tlv.cs) (by rw [cs_flat_len, hl2]) hnews
      (by intro u hu; obtain ⟨k, _, hk⟩ := List.mem_flatMap.1 hu; simp only [Tlv.cs, List.mem_cons, List.not_mem_nil, or_false] at hk; rcases hk with rfl | rfl | rfl | rfl | rfl | rfl | rfl | rfl | rfl <;> rfl) (by unfold maxLen; omega) (by omega) hbase
    have h5 : OwnT w' base v' (n + m) (es ++ fs) := by unfold OwnT; rw [List.flatMap_append]; exact h3
    obtain ⟨a', c', rfl⟩ := h5.shape
    exact ⟨a', c', w', hr, h5, (Below.refl _ _).grown h4 hbase hown.lt⟩

theorem wp_appT {o : Oper} {a : Act} {K : Act → World → Prop} {Q : Exit → Act → World → Prop} (s x : Operand) (t : TypeId)
    (ho : o.op = .call { callee := .builtin .append, args := #[s, x], argTypes := #[t, t] }) (base : Nat)
    (ht : P.underlying t = some (.slice 44)) (hinfo : (P.info? 44).map (fun i => (i.zero, i.size, i.bytes)) = some (some (.agg #[.int .i64 0, .int .u16 0, .int .i64 0, .int .i64 0, .int .u32 0, .int .i64 0, .int .u64 0, .int .u16 0, .int .i64 0]), 9, 72))
    (v : Value) (n : Nat) (es : List Tlv) (hs : a.eval s = v) (hown : OwnT w base v n es) (ad : Option Addr) (m c : Nat) (fs : List Tlv) (hx : a.eval x = .slice ad m c) (h2 : RowT w ad m fs) (k : Nat) (hk : n + m = k) (gs : List Tlv) (hl : es ++ fs = gs) (hlen : k ≤ 100000) (hbase : base ≤ w.heap.size)
    (h : ∀ a' c' w', OwnT w' base (.slice a' k c') k gs → Below base w w' → K (a.put o.dst (.slice a' k c')) w') : o.wp P a w K Q := by
  subst hk hl
  obtain ⟨a', c', w', hr, h3, h4⟩ := run_appT (P := P) w base t o.type ht hinfo v n es hown ad m c fs h2 hlen hbase
  unfold Oper.wp execOp
  simp only [ho, resolve, invoke, builtin, Sem.run_bind, Sem.run_pure, Result.andThen_ok, List.map_toArray, List.map_cons, List.map_nil, hs, hx, hr]
  exact h a' c' w' h3 h4
theorem wpList_appT {ops : Array Oper} {rest : List Oper} {o : Oper} {a : Act} {Q : Exit → Act → World → Prop} (hgd : o.guard = none) (s x : Operand) (t : TypeId)
    (ho : o.op = .call { callee := .builtin .append, args := #[s, x], argTypes := #[t, t] }) (base : Nat)
    (ht : P.underlying t = some (.slice 44)) (hinfo : (P.info? 44).map (fun i => (i.zero, i.size, i.bytes)) = some (some (.agg #[.int .i64 0, .int .u16 0, .int .i64 0, .int .i64 0, .int .u32 0, .int .i64 0, .int .u64 0, .int .u16 0, .int .i64 0]), 9, 72))
    (v : Value) (n : Nat) (es : List Tlv) (hs : a.eval s = v) (hown : OwnT w base v n es) (ad : Option Addr) (m c : Nat) (fs : List Tlv) (hx : a.eval x = .slice ad m c) (h2 : RowT w ad m fs) (k : Nat) (hk : n + m = k) (gs : List Tlv) (hl : es ++ fs = gs) (hlen : k ≤ 100000) (hbase : base ≤ w.heap.size)
    (h : ∀ a' c' w', OwnT w' base (.slice a' k c') k gs → Below base w w' → wpList P ops Q rest (a.put o.dst (.slice a' k c')) w') : wpList P ops Q (o :: rest) a w := by
  refine wpList_plain hgd fun _ hK => ?_
  exact wp_appT w s x t ho base ht hinfo v n es hs hown ad m c fs hx h2 k hk gs hl hlen hbase fun a' c' w' h3 h4 => hK _ _ (h a' c' w' h3 h4)
theorem step_appT {ops : Array Oper} {o : Oper} {a : Act} {K : Act → World → Prop} {Q : Exit → Act → World → Prop} {E : Prop} (hgd : o.guard = none) (s x : Operand) (t : TypeId)
    (ho : o.op = .call { callee := .builtin .append, args := #[s, x], argTypes := #[t, t] }) (base : Nat)
    (ht : P.underlying t = some (.slice 44)) (hinfo : (P.info? 44).map (fun i => (i.zero, i.size, i.bytes)) = some (some (.agg #[.int .i64 0, .int .u16 0, .int .i64 0, .int .i64 0, .int .u32 0, .int .i64 0, .int .u64 0, .int .u16 0, .int .i64 0]), 9, 72))
    (v : Value) (n : Nat) (es : List Tlv) (hs : a.eval s = v) (hown : OwnT w base v n es) (ad : Option Addr) (m c : Nat) (fs : List Tlv) (hx : a.eval x = .slice ad m c) (h2 : RowT w ad m fs) (k : Nat) (hk : n + m = k) (gs : List Tlv) (hl : es ++ fs = gs) (hlen : k ≤ 100000) (hbase : base ≤ w.heap.size)
    (h : ∀ a' c' w', OwnT w' base (.slice a' k c') k gs → Below base w w' → K (a.put o.dst (.slice a' k c')) w') :
    if Region.wanted o (yielded ops a.tmps) = true then Oper.wp P o a w K Q else E := by
  have hw : Region.wanted o (yielded ops a.tmps) = true := by simp [Region.wanted, hgd]
  rw [if_pos hw]
  exact wp_appT w s x t ho base ht hinfo v n es hs hown ad m c fs hx h2 k hk gs hl hlen hbase h
end
theorem info44 : (Try.prog.info? 44).map (fun i => (i.zero, i.size, i.bytes)) = some (some (.agg #[.int .i64 0, .int .u16 0, .int .i64 0, .int .i64 0, .int .u32 0, .int .i64 0, .int .u64 0, .int .u16 0, .int .i64 0]), 9, 72) := by kernel_rfl
/-- One part in a block. -/
theorem rowT_one {W : World} {N M : Nat} {e : Tlv} (h : T9 W M 0 e) (hm : M = N) (hk : e.Ok) : RowT W (some ⟨N, 0, none⟩) 1 [e] := by
  subst hm
  refine ⟨rfl, fun x hx => by simp at hx; subst hx; exact hk, fun i x hx => ?_⟩
  cases i with
  | zero => simp at hx; subst hx; exact ⟨M, 0, rfl, by simpa using h⟩
  | succ i => simp at hx
end Go.Proofs.Ytakikkigkmcffaa
