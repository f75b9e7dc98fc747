/- The contract of keepOwn. -/
import Derived.Test.YtakikkigkmcffaaCon6
namespace Go.Proofs.Ytakikkigkmcffaa
open Go.RowKit

def kindB (k : Int) : Bool := k == 0 || k == 1 || k == 2 || k == 3 || k == 4
/-- A part without what parts of its kind have not. -/
def kp (p : Tlv) : Tlv :=
  if p.k = 0 then ⟨0, p.s, p.i, 0, 0, 0, 0, 0, 0⟩
  else if p.k = 1 then ⟨1, 0, p.i, p.c, 0, 0, 0, 0, 0⟩
  else if p.k = 2 then ⟨2, p.s, p.i, p.c, p.a, p.l, p.r, p.t, 0⟩
  else if p.k = 3 then ⟨3, 0, 0, 0, p.a, p.l, 0, 0, 0⟩
  else if p.k = 4 then ⟨4, p.s, 0, 0, p.a, p.l, p.r, 0, p.h⟩
  else ⟨0, 0, 0, 0, 0, 0, 0, 0, 0⟩
theorem kp_own {p : Tlv} (h : ownB p = true) : kp p = p ∧ kindB p.k = true := by
  have hk := ownB_kind h
  obtain ⟨k, s, i, c, a, l, r, t, hh⟩ := p
  simp only at hk
  unfold ownB at h
  rcases hk with rfl | rfl | rfl | rfl | rfl <;> simp at h <;> simp [kp, kindB, h]
theorem kp_not {p : Tlv} (h : ownB p = false) (hk : kindB p.k = true) : kp p ≠ p := by
  obtain ⟨k, s, i, c, a, l, r, t, hh⟩ := p
  simp only [kindB, Bool.or_eq_true, beq_iff_eq] at hk
  intro e
  unfold ownB at h
  rcases hk with (((rfl | rfl) | rfl) | rfl) | rfl <;> simp [kp] at e <;> simp at h <;> omega
set_option maxHeartbeats 2000000 in
theorem keepOwn_0 (s i c a l r t h : Int) (w : World) :
    Calls Try.prog 34 #[valT 0 s i c a l r t h] w fun e w' => e = .returned (.tuple #[valT 0 s i 0 0 0 0 0 0, .bool true]) ∧ Below w.heap.size w w' := by
  go_enter Try.func34, Try.ntmps34
  go_wp2
  go_region
  all_goals
    go_wp2
    exact bodyPost_ret (v := .tuple #[valT 0 s i 0 0 0 0 0 0, .bool true]) (by simp [results, Try.results34, go_sem]) rfl ⟨rfl, (below3 _ _ _ _).drew⟩
set_option maxHeartbeats 2000000 in
theorem keepOwn_1 (s i c a l r t h : Int) (w : World) :
    Calls Try.prog 34 #[valT 1 s i c a l r t h] w fun e w' => e = .returned (.tuple #[valT 1 0 i c 0 0 0 0 0, .bool true]) ∧ Below w.heap.size w w' := by
  go_enter Try.func34, Try.ntmps34
  go_wp2
  go_region
  all_goals
    go_wp2
    exact bodyPost_ret (v := .tuple #[valT 1 0 i c 0 0 0 0 0, .bool true]) (by simp [results, Try.results34, go_sem]) rfl ⟨rfl, (below3 _ _ _ _).drew⟩
set_option maxHeartbeats 2000000 in
theorem keepOwn_2 (s i c a l r t h : Int) (w : World) :
    Calls Try.prog 34 #[valT 2 s i c a l r t h] w fun e w' => e = .returned (.tuple #[valT 2 s i c a l r t 0, .bool true]) ∧ Below w.heap.size w w' := by
  go_enter Try.func34, Try.ntmps34
  go_wp2
  exact bodyPost_ret (v := .tuple #[valT 2 s i c a l r t 0, .bool true]) (by simp [results, Try.results34, go_sem]) rfl ⟨rfl, below3 _ _ _ _⟩
set_option maxHeartbeats 2000000 in
theorem keepOwn_3 (s i c a l r t h : Int) (w : World) :
    Calls Try.prog 34 #[valT 3 s i c a l r t h] w fun e w' => e = .returned (.tuple #[valT 3 0 0 0 a l 0 0 0, .bool true]) ∧ Below w.heap.size w w' := by
  go_enter Try.func34, Try.ntmps34
  go_wp2
  exact bodyPost_ret (v := .tuple #[valT 3 0 0 0 a l 0 0 0, .bool true]) (by simp [results, Try.results34, go_sem]) rfl ⟨rfl, below3 _ _ _ _⟩
set_option maxHeartbeats 2000000 in
theorem keepOwn_4 (s i c a l r t h : Int) (w : World) :
    Calls Try.prog 34 #[valT 4 s i c a l r t h] w fun e w' => e = .returned (.tuple #[valT 4 s 0 0 a l r 0 h, .bool true]) ∧ Below w.heap.size w w' := by
  go_enter Try.func34, Try.ntmps34
  go_wp2
  go_region
  all_goals
    go_wp2
    exact bodyPost_ret (v := .tuple #[valT 4 s 0 0 a l r 0 h, .bool true]) (by simp [results, Try.results34, go_sem]) rfl ⟨rfl, (below3 _ _ _ _).drew⟩
set_option maxHeartbeats 2000000 in
theorem keepOwn_no (k s i c a l r t h : Int) (w : World) (hk : kindB k = false) :
    Calls Try.prog 34 #[valT k s i c a l r t h] w fun e w' => e = .returned (.tuple #[valT 0 0 0 0 0 0 0 0 0, .bool false]) ∧ Below w.heap.size w w' := by
  simp only [kindB, Bool.or_eq_false_iff] at hk
  obtain ⟨⟨⟨⟨e0, e1⟩, e2⟩, e3⟩, e4⟩ := hk
  go_enter Try.func34, Try.ntmps34
  go_wp2
  exact bodyPost_ret (v := .tuple #[valT 0 0 0 0 0 0 0 0 0, .bool false]) (by simp [results, Try.results34, go_sem]) rfl ⟨rfl, below3 _ _ _ _⟩
theorem keepOwn_any (k s i c a l r t h : Int) (w : World) (k' s' i' c' a' l' r' t' h' : Int) (hv : kp ⟨k, s, i, c, a, l, r, t, h⟩ = ⟨k', s', i', c', a', l', r', t', h'⟩) {b : Bool} (hb : kindB k = b) :
    Calls Try.prog 34 #[valT k s i c a l r t h] w fun e w' => e = .returned (.tuple #[valT k' s' i' c' a' l' r' t' h', .bool b]) ∧ Below w.heap.size w w' := by
  by_cases h0 : k = 0
  · subst h0; simp [kp] at hv; obtain ⟨rfl, rfl, rfl, rfl, rfl, rfl, rfl, rfl, rfl⟩ := hv; subst hb; exact keepOwn_0 _ _ _ _ _ _ _ _ w
  by_cases h1 : k = 1
  · subst h1; simp [kp] at hv; obtain ⟨rfl, rfl, rfl, rfl, rfl, rfl, rfl, rfl, rfl⟩ := hv; subst hb; exact keepOwn_1 _ _ _ _ _ _ _ _ w
  by_cases h2 : k = 2
  · subst h2; simp [kp] at hv; obtain ⟨rfl, rfl, rfl, rfl, rfl, rfl, rfl, rfl, rfl⟩ := hv; subst hb; exact keepOwn_2 _ _ _ _ _ _ _ _ w
  by_cases h3 : k = 3
  · subst h3; simp [kp] at hv; obtain ⟨rfl, rfl, rfl, rfl, rfl, rfl, rfl, rfl, rfl⟩ := hv; subst hb; exact keepOwn_3 _ _ _ _ _ _ _ _ w
  by_cases h4 : k = 4
  · subst h4; simp [kp] at hv; obtain ⟨rfl, rfl, rfl, rfl, rfl, rfl, rfl, rfl, rfl⟩ := hv; subst hb; exact keepOwn_4 _ _ _ _ _ _ _ _ w
  · have hk : kindB k = false := by simp [kindB, h0, h1, h2, h3, h4]
    simp [kp, h0, h1, h2, h3, h4] at hv
    obtain ⟨rfl, rfl, rfl, rfl, rfl, rfl, rfl, rfl, rfl⟩ := hv
    rw [hk] at hb; subst hb
    exact keepOwn_no _ _ _ _ _ _ _ _ _ w hk
end Go.Proofs.Ytakikkigkmcffaa
