/- Append onto a row of bytes of one's own, with word of a block that stays. -/
import Derived.Test.YtnlgdkbpolckcaaRefB
import Derived.Maps.AppendAt
import Derived.Deep.AppendLies
namespace Go.Proofs.Ytnlgdkbpolckcaa
open Go.RowKit

section
variable {P : Program} (w : World)

theorem run_app8f (N : Nat) (hN : N < w.heap.size) (base : Nat) (t ty e : TypeId) (ht : P.underlying t = some (.slice e)) (hinfo : (P.info? e).map (fun i => (i.zero, i.size, i.bytes)) = some (some (.int .u8 0), 1, 1))
    (v : Value) (n : Nat) (l1 : List Int) (hown : Own8 w base e v n l1) (hne : v.ownBlock ≠ some N) (ad : Option Addr) (m c : Nat) (l2 : List Int) (h2 : Row8 w ad m l2) (hlen : n + m ≤ 100000) (hbase : base ≤ w.heap.size) :
    ∃ a' c' w', (Builtin.append_ #[t, t] ty #[v, .slice ad m c]).run P w = .ok (.slice a' (n + m) c') w' ∧ Own8 w' base e (.slice a' (n + m) c') (n + m) (l1 ++ l2) ∧ Below base w w' ∧ (Value.slice a' (n + m) c').ownBlock ≠ some N ∧ (∀ o, w'.cell? ⟨N, o, none⟩ = w.cell? ⟨N, o, none⟩) ∧ w.heap.size ≤ w'.heap.size := by
  obtain ⟨i, hi, hzz⟩ := Option.map_eq_some_iff.1 hinfo
  simp only [Prod.mk.injEq] at hzz
  obtain ⟨hz, hs, hb⟩ := hzz
  obtain ⟨hl2, _, _, hc2⟩ := h2
  cases ad with
  | none =>
    have hm : m = 0 := by
      rcases Nat.eq_zero_or_pos m with h | h
      · exact h
      · obtain ⟨_, _, h, _⟩ := hc2 0 h; cases h
    subst hm
    obtain rfl : l2 = [] := List.eq_nil_of_length_eq_zero hl2
    obtain ⟨a', c', rfl⟩ := hown.shape
    exact ⟨a', c', w, run_app8_nil w t ty e i ht hi base _ n l1 hown c, by simpa using hown, Below.refl _ _, hne, fun _ => rfl, Nat.le_refl _⟩
  | some x =>
    have hnews : ∀ j u, (l2.map (Value.int .u8))[j]? = some u → w.cell? (x.add j) = some u := by
      intro j u hj
      have hjl : j < l2.length := by
        rcases Nat.lt_or_ge j l2.length with h | h
        · exact h
        · simp [List.getElem?_eq_none h] at hj
      obtain ⟨b, off, e1, hc⟩ := hc2 j (by omega)
      simp only [Option.some.injEq] at e1
      subst e1
      rw [Go.WideShapes.add_plain, hc]
      simpa [List.getElem?_eq_getElem hjl] using hj
    obtain ⟨v', w', hr, h3, h4, _, hat⟩ := run_append_own_at (P := P) w base t ty e i (.int .u8 0) 1 1 ht hi hz hs hb rfl (by decide) v n _ hown x m c (l2.map (Value.int .u8)) (by simp [hl2]) hnews
      (by intro u hu; obtain ⟨k, _, rfl⟩ := List.mem_map.1 hu; rfl) (by unfold maxLen; omega) (by omega) hbase
    have h5 : Own8 w' base e v' (n + m) (l1 ++ l2) := by unfold Own8; rw [List.map_append]; exact h3
    obtain ⟨a', c', rfl⟩ := h5.shape
    refine ⟨a', c', w', hr, h5, (Below.refl _ _).grown h4 hbase hown.lt, ?_, fun o => h4.cell_far ⟨N, o, none⟩ hN (fun e => hne e.symm), h4.size⟩
    rcases hat with h | h
    · rw [h]; exact hne
    · rw [h]; intro e; simp only [Option.some.injEq] at e; omega

theorem wpList_app8f (N : Nat) {ops : Array Oper} {rest : List Oper} {o : Oper} {a : Act} {Q : Exit → Act → World → Prop} (hgd : o.guard = none) (s x : Operand) (t e : TypeId)
    (ho : o.op = .call { callee := .builtin .append, args := #[s, x], argTypes := #[t, t] }) (hN : N < w.heap.size) (base : Nat)
    (ht : P.underlying t = some (.slice e)) (hinfo : (P.info? e).map (fun i => (i.zero, i.size, i.bytes)) = some (some (.int .u8 0), 1, 1))
    (v : Value) (n : Nat) (l1 : List Int) (hs : a.eval s = v) (hown : Own8 w base e v n l1) (hne : v.ownBlock ≠ some N) (ad : Option Addr) (m c : Nat) (l2 : List Int) (hx : a.eval x = .slice ad m c) (h2 : Row8 w ad m l2) (k : Nat) (hk : n + m = k) (l3 : List Int) (hl : l1 ++ l2 = l3) (hlen : k ≤ 100000) (hbase : base ≤ w.heap.size)
    (h : ∀ a' c' w', Own8 w' base e (.slice a' k c') k l3 → Below base w w' → (Value.slice a' k c').ownBlock ≠ some N → (∀ o, w'.cell? ⟨N, o, none⟩ = w.cell? ⟨N, o, none⟩) → w.heap.size ≤ w'.heap.size → wpList P ops Q rest (a.put o.dst (.slice a' k c')) w') : wpList P ops Q (o :: rest) a w := by
  subst hk hl
  refine wpList_plain hgd fun _ hK => ?_
  obtain ⟨a', c', w', hr, h3, h4, h5, h6, h7⟩ := run_app8f (P := P) w N hN base t o.type e ht hinfo v n l1 hown hne ad m c l2 h2 hlen hbase
  unfold Oper.wp execOp
  simp only [ho, resolve, invoke, builtin, Sem.run_bind, Sem.run_pure, Result.andThen_ok, List.map_toArray, List.map_cons, List.map_nil, hs, hx, hr]
  exact hK _ _ (h a' c' w' h3 h4 h5 h6 h7)
end
theorem Own8.later {w w' : World} {base : Nat} {e : TypeId} {v : Value} {n : Nat} {l : List Int} (h : Own8 w base e v n l) (hb : Below w.heap.size w w') : Own8 w' base e v n l := by
  refine ⟨h.1, ?_⟩
  rcases h.2 with hn | ⟨g, cap, cur, hv, hbg, hg, r⟩
  · exact .inl hn
  · refine .inr ⟨g, cap, cur, hv, hbg, ?_, r⟩
    rw [hb.block g (Array.getElem?_eq_some_iff.1 hg).1]
    exact hg
theorem Own8.base {w : World} {b b' : Nat} {e : TypeId} {v : Value} {n : Nat} {l : List Int} (h : Own8 w b e v n l) (hb : b' ≤ b) : Own8 w b' e v n l := by
  refine ⟨h.1, ?_⟩
  rcases h.2 with hn | ⟨g, cap, cur, hv, hbg, r⟩
  · exact .inl hn
  · exact .inr ⟨g, cap, cur, hv, Nat.le_trans hb hbg, r⟩
theorem Own8.len {w : World} {base : Nat} {e : TypeId} {v : Value} {n : Nat} {l : List Int} (h : Own8 w base e v n l) : l.length = n := by have := h.1; simpa using this
theorem Own8.not_new {w : World} {base : Nat} {e : TypeId} {v : Value} {n : Nat} {l : List Int} (h : Own8 w base e v n l) : v.ownBlock ≠ some w.heap.size := by
  intro hk
  have := (World.ownsRow.lt h _ hk).2
  omega

end Go.Proofs.Ytnlgdkbpolckcaa
