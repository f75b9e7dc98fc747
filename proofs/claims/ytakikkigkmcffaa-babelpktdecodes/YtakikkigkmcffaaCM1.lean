/- The contract of the document's May of a part. -/
import Derived.Test.YtakikkigkmcffaaCon6
namespace Go.Proofs.Ytakikkigkmcffaa
open Go.RowKit

set_option maxHeartbeats 2000000 in
theorem refMayT_any (k s i c a l r t h : Int) (w : World) (ha0 : 0 ≤ a) (ha1 : a < 4294967296) (hl0 : -9223372036854775808 ≤ l) (hl1 : l ≤ 9223372036854775807) {v : Bool} (hv : mayT ⟨k, s, i, c, a, l, r, t, h⟩ = v) :
    Calls Try.prog 22 #[valT k s i c a l r t h] w fun e w' => e = .returned (.bool v) ∧ Below w.heap.size w w' := by
  subst hv
  cases hm : mayB a l
  · have HM : Hid (mayT ⟨k, s, i, c, a, l, r, t, h⟩ = false) := by unfold Hid mayT; simp [hm]
    go_enter Try.func22, Try.ntmps22
    go_wp2_with (go_at_call 45; refine (refMay_any _ _ _ ha0 ha1 hl0 hl1 hm).mono ?_; rintro e w' ⟨rfl, hb⟩; obtain ⟨c0, c1, c2, c3, c4, c5, c6, c7, c8⟩ := ((T9.new w k s i c a l r t h).later hb).z)
    go_ret
    exact ⟨ret_bool HM.out.symm, Below.out1 hb⟩
  by_cases hR : i < 0 ∨ 65535 < i ∨ c < 0 ∨ 65535 < c ∨ h < 0 ∨ 255 < h
  · have HM : Hid (mayT ⟨k, s, i, c, a, l, r, t, h⟩ = false) := mayT_out hR
    have hR' : i < 0 ∨ (0 ≤ i ∧ 65535 < i) ∨ (0 ≤ i ∧ i ≤ 65535 ∧ c < 0) ∨ (0 ≤ i ∧ i ≤ 65535 ∧ 0 ≤ c ∧ 65535 < c) ∨ (0 ≤ i ∧ i ≤ 65535 ∧ 0 ≤ c ∧ c ≤ 65535 ∧ h < 0) ∨ (0 ≤ i ∧ i ≤ 65535 ∧ 0 ≤ c ∧ c ≤ 65535 ∧ 0 ≤ h ∧ 255 < h) := by omega
    clear hR
    rcases hR' with h1 | ⟨h1, h2⟩ | ⟨h1, h2, h3⟩ | ⟨h1, h2, h3, h4⟩ | ⟨h1, h2, h3, h4, h5⟩ | ⟨h1, h2, h3, h4, h5, h6⟩
    all_goals
      go_enter Try.func22, Try.ntmps22
      go_wp2_with (go_at_call 45; refine (refMay_any _ _ _ ha0 ha1 hl0 hl1 hm).mono ?_; rintro e w' ⟨rfl, hb⟩; obtain ⟨c0, c1, c2, c3, c4, c5, c6, c7, c8⟩ := ((T9.new w k s i c a l r t h).later hb).z)
      go_ret
      exact ⟨ret_bool HM.out.symm, Below.out1 hb⟩
  · obtain ⟨h1, h2, h3, h4, h5, h6⟩ : 0 ≤ i ∧ i ≤ 65535 ∧ 0 ≤ c ∧ c ≤ 65535 ∧ 0 ≤ h ∧ h ≤ 255 := by omega
    have HM : Hid (mayT ⟨k, s, i, c, a, l, r, t, h⟩ = ownB ⟨k, s, i, c, a, l, r, t, h⟩) := mayT_of hm h1 h2 h3 h4 h5 h6
    clear hR
    rw [HM.out]
    clear HM
    by_cases k0 : k = 0
    · subst k0
      go_enter Try.func22, Try.ntmps22
      go_wp2_with (go_at_call 45; refine (refMay_any _ _ _ ha0 ha1 hl0 hl1 hm).mono ?_; rintro e w' ⟨rfl, hb⟩; obtain ⟨c0, c1, c2, c3, c4, c5, c6, c7, c8⟩ := ((T9.new w 0 s i c a l r t h).later hb).z; have hz : w.heap.size < w'.heap.size := by { have := hb.size; simp at this; omega })
      all_goals
        go_ret
        exact ⟨ret_bool (by simp [ownB, *]), stp (Below.out1 hb) (below1 _ _)⟩
    by_cases k1 : k = 1
    · subst k1
      go_enter Try.func22, Try.ntmps22
      go_wp2_with (go_at_call 45; refine (refMay_any _ _ _ ha0 ha1 hl0 hl1 hm).mono ?_; rintro e w' ⟨rfl, hb⟩; obtain ⟨c0, c1, c2, c3, c4, c5, c6, c7, c8⟩ := ((T9.new w 1 s i c a l r t h).later hb).z; have hz : w.heap.size < w'.heap.size := by { have := hb.size; simp at this; omega })
      all_goals
        go_ret
        exact ⟨ret_bool (by simp [ownB, *]), stp (Below.out1 hb) (below1 _ _)⟩
    by_cases k2 : k = 2
    · subst k2
      go_enter Try.func22, Try.ntmps22
      go_wp2_with (go_at_call 45; refine (refMay_any _ _ _ ha0 ha1 hl0 hl1 hm).mono ?_; rintro e w' ⟨rfl, hb⟩; obtain ⟨c0, c1, c2, c3, c4, c5, c6, c7, c8⟩ := ((T9.new w 2 s i c a l r t h).later hb).z; have hz : w.heap.size < w'.heap.size := by { have := hb.size; simp at this; omega })
      all_goals
        go_ret
        exact ⟨ret_bool (by simp [ownB, *]), stp (Below.out1 hb) (below1 _ _)⟩
    by_cases k3 : k = 3
    · subst k3
      go_enter Try.func22, Try.ntmps22
      go_wp2_with (go_at_call 45; refine (refMay_any _ _ _ ha0 ha1 hl0 hl1 hm).mono ?_; rintro e w' ⟨rfl, hb⟩; obtain ⟨c0, c1, c2, c3, c4, c5, c6, c7, c8⟩ := ((T9.new w 3 s i c a l r t h).later hb).z; have hz : w.heap.size < w'.heap.size := by { have := hb.size; simp at this; omega })
      all_goals
        go_ret
        exact ⟨ret_bool (by simp [ownB, *]), stp (Below.out1 hb) (below1 _ _)⟩
    by_cases k4 : k = 4
    · subst k4
      go_enter Try.func22, Try.ntmps22
      go_wp2_with (go_at_call 45; refine (refMay_any _ _ _ ha0 ha1 hl0 hl1 hm).mono ?_; rintro e w' ⟨rfl, hb⟩; obtain ⟨c0, c1, c2, c3, c4, c5, c6, c7, c8⟩ := ((T9.new w 4 s i c a l r t h).later hb).z; have hz : w.heap.size < w'.heap.size := by { have := hb.size; simp at this; omega })
      all_goals
        go_ret
        exact ⟨ret_bool (by simp [ownB, *]), stp (Below.out1 hb) (below1 _ _)⟩
    · have e0 : (k == 0) = false := by simpa using k0
      have e1 : (k == 1) = false := by simpa using k1
      have e2 : (k == 2) = false := by simpa using k2
      have e3 : (k == 3) = false := by simpa using k3
      have e4 : (k == 4) = false := by simpa using k4
      have HM : Hid (ownB ⟨k, s, i, c, a, l, r, t, h⟩ = false) := by unfold Hid ownB; simp [k0, k1, k2, k3, k4]
      clear k0 k1 k2 k3 k4
      go_enter Try.func22, Try.ntmps22
      go_wp2_with (go_at_call 45; refine (refMay_any _ _ _ ha0 ha1 hl0 hl1 hm).mono ?_; rintro e w' ⟨rfl, hb⟩; obtain ⟨c0, c1, c2, c3, c4, c5, c6, c7, c8⟩ := ((T9.new w k s i c a l r t h).later hb).z; have hz : w.heap.size < w'.heap.size := by { have := hb.size; simp at this; omega })
      go_ret
      exact ⟨ret_bool HM.out.symm, stp (Below.out1 hb) (below1 _ _)⟩
end Go.Proofs.Ytakikkigkmcffaa
