/- The contract of getTag, with bounds. -/
import Derived.Test.YtakikkigkmcffaaCD2
namespace Go.Proofs.Ytakikkigkmcffaa
open Go.RowKit

set_option maxHeartbeats 400000 in
theorem getTag_bd (a : Option Addr) (n cap : Nat) (l : List Int) (w : World) (hr : Row8 w a n l) (hn : n ≤ 3000) {v : Bool} (hv : tagOk l = v) :
    Calls Try.prog 71 #[.slice a n cap] w fun e w' => ∃ x, e = .returned (.tuple #[.int .u16 x, .bool v]) ∧ (v = true → x = tagV l) ∧ 0 ≤ x ∧ x ≤ 65535 ∧ w' = w := by
  subst hv
  have HR : Hid (Row8 w a n l) := hr
  have HL : Hid (l.length = n) := hr.1
  by_cases h0 : n = 0
  · subst h0
    have HV : Hid (tagOk l = true ∧ tagV l = 0) := by unfold Hid tagOk tagV; simp [HL.out]
    clear hr
    go_enter Try.func71, Try.ntmps71
    go_wp2
    go_ret2
    exact ⟨0, by rw [HV.out.1]; rfl, fun _ => HV.out.2.symm, by decide, by decide, rfl⟩
  have e0 : ((n : Int) == 0) = false := by rw [beq_eq_false_iff_ne]; omega
  by_cases h4 : n = 4
  · subst h4
    obtain ⟨b, off, rfl, hc⟩ := hr.at (by omega)
    have d0 := hc 0 (by omega)
    have d1 := hc 1 (by omega)
    rw [Nat.add_zero] at d0
    have E0 : Hid (at8 l 0 = l[0]?.getD 0) := rfl
    have E1 : Hid (at8 l 1 = l[1]?.getD 0) := rfl
    generalize l[0]?.getD 0 = x at d0 E0
    generalize l[1]?.getD 0 = y at d1 E1
    have HX : Hid (g16 l 2 = getV l 2 2) := g16_is (by rw [HL.out]; omega)
    obtain ⟨z, hz⟩ : ∃ z, getV l 2 2 = z := ⟨_, rfl⟩
    rw [hz] at HX
    have HZ : Hid (getV l 2 2 = z) := hz
    have HB : Hid (0 ≤ z ∧ z ≤ 65535) := by unfold Hid; rw [← hz]; exact getV_h hr.2.2.1 2
    clear hr hc hz
    by_cases hx : x = 200
    · subst hx
      by_cases hy : y = 2
      · subst hy
        have HV : Hid (tagOk l = (z != 0) ∧ tagV l = z) := by unfold Hid; rw [← HZ.out]; exact tag_yes HL.out (by rw [E0.out]; rfl) (by rw [E1.out]; rfl)
        go_enter Try.func71, Try.ntmps71
        go_wp2_with (go_at_call 49; refine (get16_any _ _ _ l _ HR.out hn 2 HX.out).mono ?_; rintro e w' ⟨rfl, rfl⟩)
        go_ret2
        exact ⟨z, by rw [HV.out.1]; rfl, fun _ => HV.out.2.symm, HB.out.1, HB.out.2, rfl⟩
      · have e1 : (y != 2) = true := by simpa using hy
        have HV : Hid (tagOk l = false) := tag_1 (by rw [HL.out]; decide) (by rw [E1.out]; simpa using hy)
        clear hy
        go_enter Try.func71, Try.ntmps71
        go_wp2
        go_ret2
        exact ⟨0, by rw [HV.out]; rfl, fun h => (by rw [HV.out] at h; cases h), by decide, by decide, rfl⟩
    · have e1 : (x != 200) = true := by simpa using hx
      have HV : Hid (tagOk l = false) := tag_0 (by rw [HL.out]; decide) (by rw [E0.out]; simpa using hx)
      clear hx
      go_enter Try.func71, Try.ntmps71
      go_wp2
      go_ret2
      exact ⟨0, by rw [HV.out]; rfl, fun h => (by rw [HV.out] at h; cases h), by decide, by decide, rfl⟩
  · have e4 : ((n : Int) != 4) = true := by rw [bne_iff_ne]; omega
    have HV : Hid (tagOk l = false) := tag_len (by rw [HL.out]; exact h0) (by rw [HL.out]; exact h4)
    clear hr h4 h0
    go_enter Try.func71, Try.ntmps71
    go_wp2
    go_ret2
    exact ⟨0, by rw [HV.out]; rfl, fun h => (by rw [HV.out] at h; cases h), by decide, by decide, rfl⟩
end Go.Proofs.Ytakikkigkmcffaa
