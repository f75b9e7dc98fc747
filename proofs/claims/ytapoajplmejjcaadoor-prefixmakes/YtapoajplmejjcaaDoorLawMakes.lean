/- The walk of the law PrefixMakes. -/
import Derived.Test.YtapoajplmejjcaaDoorConi
namespace Go.Proofs.YtapoajplmejjcaaDoor
open Go.RowKit

set_option maxHeartbeats 1000000 in
theorem law_makes (x b a l : Int) (w : World) (hx0 : 0 ≤ x) (hx1 : x < 4294967296) (hb0 : -9223372036854775808 ≤ b) (hb1 : b ≤ 9223372036854775807)
    (ha0 : 0 ≤ a) (ha1 : a < 4294967296) (hl0 : -9223372036854775808 ≤ l) (hl1 : l ≤ 9223372036854775807) :
    Calls Tryd.prog 3 #[.int .u32 x, .int .i64 b, .agg #[.int .u32 a, .int .i64 l]] w fun e w' => e = .returned (.bool true) ∧ Below w.heap.size w w' := by
  have HK : Hid (∀ W, Calls Tryd.prog 12 #[.int .u32 x, .int .i64 b] W fun e w' => e = .returned (.tuple #[.agg #[.int .u32 (makeA x b), .int .i64 (makeL b)], .int .i64 (makeE b)]) ∧ Below W.heap.size W w') := fun W => make_any x b W hx0 hx1
  have HR : Hid (∀ W, Calls Tryd.prog 13 #[.int .u32 x, .int .i64 b] W fun e w' => e = .returned (.tuple #[.agg #[.int .u32 (makeA x b), .int .i64 (makeL b)], .int .i64 (makeE b)]) ∧ Below W.heap.size W w') := fun W => refMake_any x b W hx0 hx1
  generalize makeA x b = ma at HK HR
  generalize makeL b = ml at HK HR
  generalize makeE b = me at HK HR
  go_enter Tryd.func3, Tryd.ntmps3
  go_wp2_with (first
    | (go_at_call 11; refine (awake_any _).mono ?_; rintro e w1 ⟨rfl, hb⟩; obtain ⟨c0, c1, z0⟩ := box1 hb)
    | (go_at_call 12; refine (HK.out _).mono ?_; rintro e w2 ⟨rfl, hb2⟩)
    | (go_at_call 13; refine (HR.out _).mono ?_; rintro e w3 ⟨rfl, hb3⟩)
    | (go_at_call 14; refine (bits_any _ _).mono ?_; rintro e w4 ⟨rfl, rfl⟩)
    | (go_at_call 15; refine (refBits_any _ _).mono ?_; rintro e w5 ⟨rfl, rfl⟩))
  have p2 := later2 ⟨c0, c1, z0⟩ hb2
  have p3 := alloc2 (later2 (alloc2 p2 (.cells #[.int .u32 ma, .int .i64 ml] 24)) hb3) (.cells #[.int .u32 ma, .int .i64 ml] 24)
  have q3 := alloc2 (later2 (new2 w2 (.int .u32 ma) (.int .i64 ml) 24) hb3) (.cells #[.int .u32 ma, .int .i64 ml] 24)
  have r3 := new2 w3 (.int .u32 ma) (.int .i64 ml) 24
  have k0 := cell_regrown p3.1
  have k1 := cell_regrown p3.2.1
  have k2 := cell_regrown q3.1
  have k3 := cell_regrown q3.2.1
  have k4 := cell_regrown r3.1
  have k5 := cell_regrown r3.2.1
  refine wp_region_quiet_below (by kernel_rfl) (by kernel_rfl) ?_
  repeat (go_big_quiet_step (first
    | (go_at_call 16; exact Calls.regrown_of ((mask_any _ _).mono fun e w' h => ⟨h.1, h.2 ▸ Below.refl _ _⟩))
    | (go_at_call 17; exact Calls.regrown_of ((refMask_any _ _ hb0 hb1).mono fun e w' h => ⟨h.1, h.2 ▸ Below.refl _ _⟩))
    | (go_at_call 18; exact Calls.regrown_of (may_any _ _ _ ha0 ha1 rfl))
    | (go_at_call 19; exact Calls.regrown_of (refMay_any _ _ _ ha0 ha1 hl0 hl1 rfl))))
  refine wpQuiet_nil ?_
  intro _ hw'
  obtain ⟨⟨dq, osq⟩, hw''⟩ := hw'
  subst hw''
  go_wp2
  go_ret
  exact ⟨rfl, stp (stp (stp1 (stp (Below.out1 hb) hb2) hb3) (below1 _ _)) (below_regrown _ dq osq)⟩
end Go.Proofs.YtapoajplmejjcaaDoor
