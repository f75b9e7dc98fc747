/- Contracts of Depth and of the document's own. -/
import Derived.Test.YtgkfiblmedihjaaCona
import Derived.WalkMore
import Derived.ScopeJumps
namespace Go.Proofs.Ytgkfiblmedihjaa
open Go.RowKit

/-- At the label: c are counted, x is left. -/
def depJ (t : Nat) (w : World) (a' : Act) (w' : World) : Prop :=
  w' = w ∧ ∃ (x c : Nat) (u1 u4 u5 u6 u7 u8 u9 u10 u11 u12 u13 : Value), a' = { tmps := #[.int .u16 (x : Int), u1, .int .i64 0, .int .i64 (c : Int), u4, u5, u6, u7, u8, u9, u10, u11, u12, u13], defers := [] } ∧ x < 65536 ∧ 0 < x ∧ c + dep x = dep t

theorem and_one {x : Nat} (hx : x < 65536) : bits .and .u16 (x : Int) 1 = ((x % 2 : Nat) : Int) := by
  have := u16_and_nat x 1 hx (by omega)
  rw [Nat.and_one_is_mod] at this
  exact this

theorem depth_any (t : Nat) (w : World) (ht : t < 65536) :
    Calls Try.prog 16 #[.int .u16 (t : Int)] w fun e w' => e = .returned (.int .i64 (dep t : Int)) ∧ w' = w := by
  have hle := dep_le t
  have hlow := dep_low ht
  go_enter Try.func16, Try.ntmps16
  go_wp2
  refine wp_scope_jumps 0 (depJ t w) (fun a' _ => (intOf (a'.tmps.getD 0 undef)).toNat) rfl ?_ ?_
  · have ha := and_one ht
    by_cases h2 : t / 2 = 0
    · have hb : ((t : Int) / 2 != 0) = false := by rw [bne_eq_false_iff_eq]; omega
      have HE : Hid (((t % 2 : Nat) : Int) = (dep t : Int)) := by unfold Hid; rw [hlow, h2, dep_zero]; rfl
      clear hlow hle h2
      go_wp2
      go_step3
      go_wp2
      simp only [Exit.jump]
      go_ret
      exact ⟨ret_int HE.out, rfl⟩
    · have hb : ((t : Int) / 2 != 0) = true := by rw [bne_iff_ne]; omega
      have HE : Hid (t % 2 + dep (t / 2) = dep t) := hlow.symm
      have h3 : 0 < t / 2 := by omega
      clear hlow hle
      go_wp2
      go_step3
      go_wp2
      go_step3
      exact ⟨rfl, rfl, t / 2, t % 2, _, _, _, _, _, _, _, _, _, _, _, rfl, by omega, h3, HE.out⟩
  · rintro a' w' ⟨rfl, x, c, u1, u4, u5, u6, u7, u8, u9, u10, u11, u12, u13, rfl, hx, hx0, hc⟩
    have ha := and_one hx
    have hlx := dep_low hx
    have hcc : c ≤ 16 := by omega
    by_cases h2 : x / 2 = 0
    · have hb : ((x : Int) / 2 != 0) = false := by rw [bne_eq_false_iff_eq]; omega
      have HE : Hid ((c : Int) + ((x % 2 : Nat) : Int) = (dep t : Int)) := by unfold Hid; rw [← hc, hlx, h2, dep_zero]; omega
      clear hlow hle h2 hc hlx
      go_wp2
      simp only [Exit.jump]
      go_ret
      exact ⟨ret_int HE.out, rfl⟩
    · have hb : ((x : Int) / 2 != 0) = true := by rw [bne_iff_ne]; omega
      have h3 : 0 < x / 2 := by omega
      have HE : Hid (c + x % 2 + dep (x / 2) = dep t) := by unfold Hid; omega
      clear hlow hle hc hlx
      go_wp2
      go_step3
      refine ⟨rfl, ⟨rfl, x / 2, c + x % 2, _, _, _, _, _, _, _, _, _, _, _, rfl, by omega, h3, HE.out⟩, ?_⟩
      simp [intOf]; omega

theorem refDepth_any (t : Nat) (w : World) (ht : t < 65536) :
    Calls Try.prog 17 #[.int .u16 (t : Int)] w fun e w' => e = .returned (.int .i64 (dep t : Int)) ∧ w' = w := by
  have hle := dep_le t
  go_enter Try.func17, Try.ntmps17
  go_wp2
  go_loop [3, 4] (fun n x => ∃ k c : Nat, k < 65536 ∧ x = .int .i64 k ∧ n = .int .i64 c ∧ c ≤ 16 ∧ Hid (c + dep k = dep t)) (fun _ x => (intOf x).toNat)
  case atStart => exact ⟨t, 0, ht, by go_num, rfl, by omega, by unfold Hid; omega⟩
  case round =>
    obtain ⟨k, c, hk, rfl, rfl, hc16, hc⟩ := hrel
    have hlk := dep_low hk
    by_cases h0 : 0 < k
    · have HE : Hid (c + k % 2 + dep (k / 2) = dep t) := by have := hc.out; unfold Hid; omega
      have h4 : c + k % 2 ≤ 16 := by have := HE.out; omega
      clear hc hlk hle
      go_wp2
      go_round
      case rel => exact ⟨k / 2, c + k % 2, by omega, by go_num, by go_num, h4, HE⟩
      case measure => simp [intOf]; omega
    · obtain rfl : k = 0 := by omega
      have HE : Hid ((c : Int) = (dep t : Int)) := by have := hc.out; rw [dep_zero] at this; unfold Hid; omega
      clear hc hlk hle
      go_wp2
      go_ret
      exact ⟨ret_int HE.out, rfl⟩
end Go.Proofs.Ytgkfiblmedihjaa
