/- The walk of the law PrefixMasks. -/
import Derived.Test.YtapoajplmejjcaaDoorConh
namespace Go.Proofs.YtapoajplmejjcaaDoor
open Go.RowKit

theorem mk_and : ∀ a, a < 33 → ∀ b, b < 33 → a ≤ b → andM (mkI a) b = mkI a := by decide

theorem law_masks (a b : Int) (w : World) (ha0 : -9223372036854775808 ≤ a) (ha1 : a ≤ 9223372036854775807) (hb0 : -9223372036854775808 ≤ b) (hb1 : b ≤ 9223372036854775807) :
    Calls Tryd.prog 10 #[.int .i64 a, .int .i64 b] w fun e w' => e = .returned (.bool true) ∧ Below w.heap.size w w' := by
  by_cases h0 : a < 0
  · go_enter Tryd.func10, Tryd.ntmps10
    go_wp2_with (go_at_call 11; refine (awake_any _).mono ?_; rintro e w' ⟨rfl, hb⟩)
    go_ret
    exact ⟨rfl, hb⟩
  by_cases h1 : b < a
  · go_enter Tryd.func10, Tryd.ntmps10
    go_wp2_with (go_at_call 11; refine (awake_any _).mono ?_; rintro e w' ⟨rfl, hb⟩)
    go_ret
    exact ⟨rfl, hb⟩
  by_cases h2 : 32 < b
  · go_enter Tryd.func10, Tryd.ntmps10
    go_wp2_with (go_at_call 11; refine (awake_any _).mono ?_; rintro e w' ⟨rfl, hb⟩)
    go_ret
    exact ⟨rfl, hb⟩
  have m1 : maskV a = mkI a.toNat := by unfold maskV; rw [cl_of (by omega) (by omega)]
  have m2 : maskV b = mkI b.toNat := by unfold maskV; rw [cl_of (by omega) (by omega)]
  have bd := maskV_bd a
  have e1 : bits .and .u32 (maskV a) (maskV b) = maskV a := by
    rw [m2, u32_andM _ _ bd.1 bd.2 (by omega), m1]
    exact mk_and _ (by omega) _ (by omega) (by omega)
  have bm : bitsN (maskV a) = some a.toNat := by rw [m1]; exact bits_mk (by omega)
  have e2 : bitsI (maskV a) = a := by unfold bitsI; rw [bm]; simp; omega
  have e3 : bitsB (maskV a) = true := by unfold bitsB; rw [bm]; rfl
  by_cases h3 : a = b
  · subst h3
    clear m1 m2 bm bd
    go_enter Tryd.func10, Tryd.ntmps10
    go_wp2_with (first
      | (go_at_call 11; refine (awake_any _).mono ?_; rintro e w' ⟨rfl, hb⟩)
      | (go_at_call 16; refine (mask_any _ _).mono ?_; rintro e w' ⟨rfl, rfl⟩)
      | (go_at_call 14; refine (bits_any _ _).mono ?_; rintro e w' ⟨rfl, rfl⟩))
    go_ret
    exact ⟨rfl, hb⟩
  · have e4 : (a == b) = false := by simpa using h3
    have e5 : (maskV a == maskV b) = false := by
      rw [beq_eq_false_iff_ne, m1, m2]
      intro e
      have := mkI_inj (by omega) (by omega) e
      omega
    clear m1 m2 bm bd h3
    go_enter Tryd.func10, Tryd.ntmps10
    go_wp2_with (first
      | (go_at_call 11; refine (awake_any _).mono ?_; rintro e w' ⟨rfl, hb⟩)
      | (go_at_call 16; refine (mask_any _ _).mono ?_; rintro e w' ⟨rfl, rfl⟩)
      | (go_at_call 14; refine (bits_any _ _).mono ?_; rintro e w' ⟨rfl, rfl⟩))
    go_ret
    exact ⟨rfl, hb⟩
end Go.Proofs.YtapoajplmejjcaaDoor
