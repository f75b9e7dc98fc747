/- The law BabelpktSqueezes, walked. -/
import Derived.Test.YtakikkigkmcffaaLaw1
namespace Go.Proofs.Ytakikkigkmcffaa
open Go.RowKit

theorem sqI_comm (x y h : Int) : sqI x y h = sqI y x h := by unfold sqI sq; rw [cm_comm]
theorem sqI_same {x h : Int} (h0 : 0 ≤ h) (h1 : h ≤ 4) : sqI x x h = h := by unfold sqI sq; rw [cm_same, if_neg (by omega)]; omega
theorem sqI_bd {x y h : Int} (h0 : 0 ≤ h) (h1 : h ≤ 4) : 0 ≤ sqI x y h ∧ sqI x y h ≤ h ∧ (sqI x y h < 4 ∨ x = y) := by
  unfold sqI sq; rw [if_neg (by omega)]
  have := cm_le x y
  by_cases hc : cm x y = 4
  · exact ⟨by omega, by omega, .inr (cm_four hc)⟩
  · exact ⟨by omega, by omega, .inl (by omega)⟩
set_option maxHeartbeats 1000000 in
theorem law_squeezes (x y h : Int) (w : World) (x0 : 0 ≤ x) (x1 : x ≤ 4294967295) (y0 : 0 ≤ y) (y1 : y ≤ 4294967295) :
    Calls Try.prog 8 #[.int .u32 x, .int .u32 y, .int .i64 h] w fun e w' => e = .returned (.bool true) ∧ Below w.heap.size w w' := by
  have x2 : x < 4294967296 := by omega
  have y2 : y < 4294967296 := by omega
  by_cases hh : 0 ≤ h ∧ h ≤ 4
  · obtain ⟨h0, h1⟩ := hh
    obtain ⟨v0, v1, v2⟩ := sqI_bd (x := x) (y := y) h0 h1
    obtain ⟨v, hv⟩ : ∃ v, sqI x y h = v := ⟨_, rfl⟩
    rw [hv] at v0 v1 v2
    have HV : Hid (sqI x y h = v) := hv
    have HC : Hid (sqI y x h = v) := by unfold Hid; rw [sqI_comm]; exact hv
    have HS : Hid (sqI x x h = h) := sqI_same h0 h1
    clear hv
    have hl : v < 4 ∨ (¬ v < 4 ∧ y = x) := by omega
    clear v2
    rcases hl with v2 | ⟨v2, rfl⟩
    · have hv := HV.out
      have hc := HC.out
      have hs := HS.out
      go_enter Try.func8, Try.ntmps8
      go_wp2_with (first
        | (go_at_call 11; refine (awake_any _).mono ?_; rintro e W1 ⟨rfl, hb1⟩)
        | (go_at_call 14; refine (squeeze_any _ _ _ _ (by assumption) (by assumption) (by assumption) (by assumption) rfl).mono ?_; rintro e w' ⟨rfl, rfl⟩))
      go_ret
      exact ⟨rfl, hb1⟩
    · have HVs : Hid (v = h) := by unfold Hid; rw [← HV.out]; exact HS.out
      obtain rfl := HVs.out
      go_enter Try.func8, Try.ntmps8
      go_wp2_with (first
        | (go_at_call 11; refine (awake_any _).mono ?_; rintro e W1 ⟨rfl, hb1⟩)
        | (go_at_call 14; refine (squeeze_any y y v _ y0 y2 y0 y2 HV.out).mono ?_; rintro e w' ⟨rfl, rfl⟩))
      go_ret
      exact ⟨rfl, hb1⟩
  · have HV : Hid (sqI x y h = 0) := by unfold Hid sqI; rw [if_pos (by omega)]
    have hl : h < 0 ∨ (0 ≤ h ∧ 4 < h) := by omega
    clear hh
    rcases hl with h0 | ⟨h0, h1⟩
    all_goals
      go_enter Try.func8, Try.ntmps8
      go_wp2_with (first
        | (go_at_call 11; refine (awake_any _).mono ?_; rintro e W1 ⟨rfl, hb1⟩)
        | (go_at_call 14; refine (squeeze_any x y h _ x0 x2 y0 y2 HV.out).mono ?_; rintro e w' ⟨rfl, rfl⟩))
      go_ret
      exact ⟨rfl, hb1⟩
end Go.Proofs.Ytakikkigkmcffaa
