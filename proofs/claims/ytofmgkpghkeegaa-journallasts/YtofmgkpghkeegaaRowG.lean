/- Append onto a row of one's own: only that row's block turns. -/
import Derived.Test.YtofmgkpghkeegaaRowF
import Derived.Test.YtofmgkpghkeegaaKeepA
import Derived.Maps.AppendAt
namespace Go.Proofs.Ytofmgkpghkeegaa
open Go.RowKit

theorem grown_refl (w : World) (row : Option Nat) : w.grownBy w row := ⟨rfl, rfl, rfl, Nat.le_refl _, fun _ _ _ => rfl⟩
section
variable {P : Program} (w : World)
theorem run_appFg (base : Nat) (t ty : TypeId) (ht : P.underlying t = some (.slice 32)) (hinfo : (P.info? 32).map (fun i => (i.zero, i.size, i.bytes)) = some (some (.agg #[.int .i64 0, .int .u32 0, .int .u32 0]), 3, 16))
    (v : Value) (n : Nat) (es : List Fc) (hown : OwnF w base v n es) (ad : Option Addr) (m c : Nat) (fs : List Fc) (h2 : RowF w ad m fs) (hlen : n + m ≤ 100000) (hbase : base ≤ w.heap.size) :
    ∃ a' c' w', (Builtin.append_ #[t, t] ty #[v, .slice ad m c]).run P w = .ok (.slice a' (n + m) c') w' ∧ OwnF w' base (.slice a' (n + m) c') (n + m) (es ++ fs) ∧ w.grownBy w' v.ownBlock ∧ ((Value.slice a' (n + m) c').ownBlock = v.ownBlock ∨ (Value.slice a' (n + m) c').ownBlock = some w.heap.size) := by
  obtain ⟨i, hi, hzz⟩ := Option.map_eq_some_iff.1 hinfo
  simp only [Prod.mk.injEq] at hzz
  obtain ⟨hz, hs, hb⟩ := hzz
  obtain ⟨hl2, _, hc2⟩ := h2
  cases ad with
  | none =>
    have hm : m = 0 := by
      rcases Nat.eq_zero_or_pos m with h | h
      · exact h
      · obtain ⟨_, _, h, _⟩ := hc2 0 _ (List.getElem?_eq_getElem (by omega)); cases h
    subst hm
    obtain rfl : fs = [] := List.eq_nil_of_length_eq_zero hl2
    obtain ⟨a', c', rfl⟩ := hown.shape
    refine ⟨a', c', w, run_appF_nil w t ty i ht hi base _ n es hown c, ?_, grown_refl _ _, .inl rfl⟩
    simpa using hown
  | some x =>
    have hnews : ∀ j u, (fs.flatMap Fc.cs)[j]? = some u → w.cell? (x.add j) = some u := by
      intro j u hj
      have hjl : j < fs.length * 3 := by
        rcases Nat.lt_or_ge j (fs.length * 3) with h | h
        · exact h
        · rw [List.getElem?_eq_none (by rw [csF_flat_len]; exact h)] at hj; cases hj
      have hq : j / 3 < fs.length := by omega
      obtain ⟨b, off, e1, hc⟩ := hc2 (j / 3) _ (List.getElem?_eq_getElem hq)
      simp only [Option.some.injEq] at e1
      subst e1
      have hat := csF_at fs (j / 3) _ (List.getElem?_eq_getElem hq) (j % 3) (by omega)
      rw [show j / 3 * 3 + j % 3 = j from by omega, hj] at hat
      rw [Go.WideShapes.add_plain]
      have : off + j = off + j / 3 * 3 + j % 3 := by omega
      rw [this]
      obtain ⟨c0, c1, c2⟩ := hc
      have hm5 : j % 3 < 3 := by omega
      generalize j % 3 = r at hat hm5
      match r, hm5, hat with
      | 0, _, hat => simp [Fc.cs] at hat; rw [hat]; exact c0
      | 1, _, hat => simp [Fc.cs] at hat; rw [hat]; exact c1
      | 2, _, hat => simp [Fc.cs] at hat; rw [hat]; exact c2
    obtain ⟨v', w', hr, h3, h4, _, h6⟩ := run_append_own_at (P := P) w base t ty 32 i (.agg #[.int .i64 0, .int .u32 0, .int .u32 0]) 3 16 ht hi hz hs hb rfl (by decide) v n _ hown x m c (fs.flatMap Fc.cs) (by rw [csF_flat_len, hl2]) hnews
      (by intro u hu; obtain ⟨k, _, hk⟩ := List.mem_flatMap.1 hu; simp only [Fc.cs, List.mem_cons, List.not_mem_nil, or_false] at hk; rcases hk with rfl | rfl | rfl <;> rfl) (by unfold maxLen; omega) (by omega) hbase
    have h5 : OwnF w' base v' (n + m) (es ++ fs) := by unfold OwnF; rw [List.flatMap_append]; exact h3
    obtain ⟨a', c', rfl⟩ := h5.shape
    exact ⟨a', c', w', hr, h5, h4, h6⟩

theorem wp_appFg {o : Oper} {a : Act} {K : Act → World → Prop} {Q : Exit → Act → World → Prop} (s x : Operand) (t : TypeId)
    (ho : o.op = .call { callee := .builtin .append, args := #[s, x], argTypes := #[t, t] }) (base : Nat)
    (ht : P.underlying t = some (.slice 32)) (hinfo : (P.info? 32).map (fun i => (i.zero, i.size, i.bytes)) = some (some (.agg #[.int .i64 0, .int .u32 0, .int .u32 0]), 3, 16))
    (v : Value) (n : Nat) (es : List Fc) (hs : a.eval s = v) (hown : OwnF w base v n es) (ad : Option Addr) (m c : Nat) (fs : List Fc) (hx : a.eval x = .slice ad m c) (h2 : RowF w ad m fs) (k : Nat) (hk : n + m = k) (gs : List Fc) (hl : es ++ fs = gs) (hlen : k ≤ 100000) (hbase : base ≤ w.heap.size)
    (h : ∀ a' c' w', OwnF w' base (.slice a' k c') k gs → w.grownBy w' v.ownBlock → ((Value.slice a' k c').ownBlock = v.ownBlock ∨ (Value.slice a' k c').ownBlock = some w.heap.size) → K (a.put o.dst (.slice a' k c')) w') : o.wp P a w K Q := by
  subst hk hl
  obtain ⟨a', c', w', hr, h3, h4, h5⟩ := run_appFg (P := P) w base t o.type ht hinfo v n es hown ad m c fs h2 hlen hbase
  unfold Oper.wp execOp
  simp only [ho, resolve, invoke, builtin, Sem.run_bind, Sem.run_pure, Result.andThen_ok, List.map_toArray, List.map_cons, List.map_nil, hs, hx, hr]
  exact h a' c' w' h3 h4 h5
theorem wpList_appFg {ops : Array Oper} {rest : List Oper} {o : Oper} {a : Act} {Q : Exit → Act → World → Prop} (hgd : o.guard = none) (s x : Operand) (t : TypeId)
    (ho : o.op = .call { callee := .builtin .append, args := #[s, x], argTypes := #[t, t] }) (base : Nat)
    (ht : P.underlying t = some (.slice 32)) (hinfo : (P.info? 32).map (fun i => (i.zero, i.size, i.bytes)) = some (some (.agg #[.int .i64 0, .int .u32 0, .int .u32 0]), 3, 16))
    (v : Value) (n : Nat) (es : List Fc) (hs : a.eval s = v) (hown : OwnF w base v n es) (ad : Option Addr) (m c : Nat) (fs : List Fc) (hx : a.eval x = .slice ad m c) (h2 : RowF w ad m fs) (k : Nat) (hk : n + m = k) (gs : List Fc) (hl : es ++ fs = gs) (hlen : k ≤ 100000) (hbase : base ≤ w.heap.size)
    (h : ∀ a' c' w', OwnF w' base (.slice a' k c') k gs → w.grownBy w' v.ownBlock → ((Value.slice a' k c').ownBlock = v.ownBlock ∨ (Value.slice a' k c').ownBlock = some w.heap.size) → wpList P ops Q rest (a.put o.dst (.slice a' k c')) w') : wpList P ops Q (o :: rest) a w := by
  refine wpList_plain hgd fun _ hK => ?_
  exact wp_appFg w s x t ho base ht hinfo v n es hs hown ad m c fs hx h2 k hk gs hl hlen hbase fun a' c' w' h3 h4 h5 => hK _ _ (h a' c' w' h3 h4 h5)
theorem step_appFg {ops : Array Oper} {o : Oper} {a : Act} {K : Act → World → Prop} {Q : Exit → Act → World → Prop} {E : Prop} (hgd : o.guard = none) (s x : Operand) (t : TypeId)
    (ho : o.op = .call { callee := .builtin .append, args := #[s, x], argTypes := #[t, t] }) (base : Nat)
    (ht : P.underlying t = some (.slice 32)) (hinfo : (P.info? 32).map (fun i => (i.zero, i.size, i.bytes)) = some (some (.agg #[.int .i64 0, .int .u32 0, .int .u32 0]), 3, 16))
    (v : Value) (n : Nat) (es : List Fc) (hs : a.eval s = v) (hown : OwnF w base v n es) (ad : Option Addr) (m c : Nat) (fs : List Fc) (hx : a.eval x = .slice ad m c) (h2 : RowF w ad m fs) (k : Nat) (hk : n + m = k) (gs : List Fc) (hl : es ++ fs = gs) (hlen : k ≤ 100000) (hbase : base ≤ w.heap.size)
    (h : ∀ a' c' w', OwnF w' base (.slice a' k c') k gs → w.grownBy w' v.ownBlock → ((Value.slice a' k c').ownBlock = v.ownBlock ∨ (Value.slice a' k c').ownBlock = some w.heap.size) → K (a.put o.dst (.slice a' k c')) w') :
    if Region.wanted o (yielded ops a.tmps) = true then Oper.wp P o a w K Q else E := by
  have hw : Region.wanted o (yielded ops a.tmps) = true := by simp [Region.wanted, hgd]
  rw [if_pos hw]
  exact wp_appFg w s x t ho base ht hinfo v n es hs hown ad m c fs hx h2 k hk gs hl hlen hbase h
end
end Go.Proofs.Ytofmgkpghkeegaa
