/- Contracts of Mask and the document's. -/
import Derived.Test.YtapoajplmejjcaaDoorChecked
import Derived.Test.YtapoajplmejjcaaDoorMath
import Derived.WalkKit
import Derived.ProofKit
import Derived.OpenShut
import Derived.LoopTactic
namespace Go.Proofs.YtapoajplmejjcaaDoor
open Go.RowKit
theorem ret_bool {a b : Bool} (h : a = b) : Ending.returned (.bool a) = .returned (.bool b) := by rw [h]
theorem ret_int {k : IntKind} {a b : Int} (h : a = b) : Ending.returned (.int k a) = .returned (.int k b) := by rw [h]

theorem mask_any (b : Int) (w : World) :
    Calls Tryd.prog 16 #[.int .i64 b] w fun e w' => e = .returned (.int .u32 (maskV b)) ∧ w' = w := by
  go_enter Tryd.func16, Tryd.ntmps16
  go_wp2
  all_goals
    go_ret
    refine ⟨ret_int ?_, rfl⟩
  · exact mask_hi (by omega)
  · exact mask_lo (by omega)
  · exact mask_val (by omega) (by omega)

theorem refMask_any (b : Int) (w : World) (hb0 : -9223372036854775808 ≤ b) (hb1 : b ≤ 9223372036854775807) :
    Calls Tryd.prog 17 #[.int .i64 b] w fun e w' => e = .returned (.int .u32 (maskV b)) ∧ w' = w := by
  have HC : Hid (cl b = (min (max b 0) 32).toNat) := rfl
  go_enter Tryd.func17, Tryd.ntmps17
  go_wp2
  go_loop [3, 4, 5] (fun n o i => ∃ k : Nat, k ≤ cl b ∧ i = .int .i64 k ∧ n = .int .u32 (mkI k) ∧ o = .int .u32 (oneI k)) (fun _ _ i => 32 - (intOf i).toNat)
  case atStart => exact ⟨0, Nat.zero_le _, rfl, by rw [show mkI 0 = 0 from by decide], by rw [show oneI 0 = 2147483648 from by decide]⟩
  case round =>
    obtain ⟨k, hk, rfl, rfl, rfl⟩ := hrel
    have hc := HC.out
    by_cases hlt : k < cl b
    · have h1 : (k : Int) < b := by omega
      have h2 : (k : Int) < 32 := by omega
      have hm := mkI_bd k
      have hm1 := mkI_bd (k + 1)
      have ha := mkI_all k (by omega)
      have ho := oneI_all k (by omega)
      have HN : Hid (mkI (k + 1) = mkI k + oneI k) := ha
      have HO : Hid (oneI (k + 1) = oneI k / 2) := ho.1
      obtain ⟨_, ho0, ho1⟩ := ho
      have hs : mkI k + oneI k < 4294967296 := by omega
      clear ha hc hm1
      go_wp2
      go_round
      case rel => exact ⟨k + 1, by omega, by go_num, by rw [HN.out]; try go_num, by rw [HO.out]; try go_num⟩
      case measure => simp [intOf]; omega
    · obtain rfl : k = cl b := by omega
      have hd : ¬ ((cl b : Int) < b) ∨ ¬ ((cl b : Int) < 32) := by omega
      clear hc
      by_cases h1 : (cl b : Int) < b
      · have h2 : ¬ ((cl b : Int) < 32) := by omega
        clear hd
        go_wp2
        go_ret
        exact ⟨rfl, rfl⟩
      · clear hd
        go_wp2
        go_ret
        exact ⟨rfl, rfl⟩

theorem bits_any (m : Int) (w : World) :
    Calls Tryd.prog 14 #[.int .u32 m] w fun e w' => e = .returned (.tuple #[.int .i64 (bitsI m), .bool (bitsB m)]) ∧ w' = w := by
  go_enter Tryd.func14, Tryd.ntmps14
  go_wp2
  go_loop [4, 5] (fun _ i => ∃ k : Nat, k ≤ 33 ∧ i = .int .i64 k ∧ Hid (∀ j, j < k → mkI j ≠ m)) (fun _ i => 33 - (intOf i).toNat)
  case atStart => exact ⟨0, by omega, rfl, fun j hj => by omega⟩
  case round =>
    obtain ⟨k, hk, rfl, hn⟩ := hrel
    by_cases hlt : k < 33
    · have e : maskV (k : Int) = mkI k := by unfold maskV; rw [cl_of (by omega) (by omega)]; simp
      by_cases hm : (mkI k == m) = true
      · have HB : Hid (bitsN m = some k) := bits_some hlt (by simpa using hm) hn.out
        go_wp2_with (go_at_call 16; refine (mask_any _ _).mono ?_; rintro e w' ⟨rfl, rfl⟩)
        go_ret2
        exact ⟨by rw [bitsI, bitsB, HB.out]; rfl, rfl⟩
      · have hm' : (mkI k == m) = false := by simpa using hm
        have HN : Hid (∀ j, j < k + 1 → mkI j ≠ m) := fun j hj => by
          by_cases ej : j = k
          · subst ej; simpa using hm
          · exact hn.out j (by omega)
        clear hm hn
        go_wp2_with (go_at_call 16; refine (mask_any _ _).mono ?_; rintro e w' ⟨rfl, rfl⟩)
        go_round
        case rel => exact ⟨k + 1, by omega, by go_num, HN⟩
        case measure => simp [intOf]; omega
    · obtain rfl : k = 33 := by omega
      have HB : Hid (bitsN m = none) := bits_none hn.out
      go_wp2
      go_ret2
      exact ⟨by rw [bitsI, bitsB, HB.out]; rfl, rfl⟩

theorem refBits_any (m : Int) (w : World) :
    Calls Tryd.prog 15 #[.int .u32 m] w fun e w' => e = .returned (.tuple #[.int .i64 (bitsI m), .bool (bitsB m)]) ∧ w' = w := by
  go_enter Tryd.func15, Tryd.ntmps15
  go_wp2
  go_loop [4] (fun i => ∃ k : Nat, k ≤ 33 ∧ i = .int .i64 k ∧ Hid (∀ j, j < k → mkI j ≠ m)) (fun i => 33 - (intOf i).toNat)
  case atStart => exact ⟨0, by omega, rfl, fun j hj => by omega⟩
  case round =>
    obtain ⟨k, hk, rfl, hn⟩ := hrel
    by_cases hlt : k < 33
    · have e : maskV (k : Int) = mkI k := by unfold maskV; rw [cl_of (by omega) (by omega)]; simp
      by_cases hm : (mkI k == m) = true
      · have HB : Hid (bitsN m = some k) := bits_some hlt (by simpa using hm) hn.out
        go_wp2_with (go_at_call 17; refine (refMask_any _ _ (by omega) (by omega)).mono ?_; rintro e w' ⟨rfl, rfl⟩)
        go_ret2
        exact ⟨by rw [bitsI, bitsB, HB.out]; rfl, rfl⟩
      · have hm' : (mkI k == m) = false := by simpa using hm
        have HN : Hid (∀ j, j < k + 1 → mkI j ≠ m) := fun j hj => by
          by_cases ej : j = k
          · subst ej; simpa using hm
          · exact hn.out j (by omega)
        clear hm hn
        go_wp2_with (go_at_call 17; refine (refMask_any _ _ (by omega) (by omega)).mono ?_; rintro e w' ⟨rfl, rfl⟩)
        go_round
        case rel => exact ⟨k + 1, by omega, by go_num, HN⟩
        case measure => simp [intOf]; omega
    · obtain rfl : k = 33 := by omega
      have HB : Hid (bitsN m = none) := bits_none hn.out
      go_wp2
      go_ret2
      exact ⟨by rw [bitsI, bitsB, HB.out]; rfl, rfl⟩
end Go.Proofs.YtapoajplmejjcaaDoor
