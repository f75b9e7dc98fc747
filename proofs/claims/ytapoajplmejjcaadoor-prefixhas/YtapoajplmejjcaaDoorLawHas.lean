/- The walk of the law PrefixHas. -/
import Derived.Test.YtapoajplmejjcaaDoorConi
namespace Go.Proofs.YtapoajplmejjcaaDoor
open Go.RowKit

set_option maxHeartbeats 1000000 in
theorem law_has (a l b m x : Int) (w : World) (ha0 : 0 ≤ a) (ha1 : a < 4294967296) (hb0 : 0 ≤ b) (hb1 : b < 4294967296) (hx0 : 0 ≤ x) (hx1 : x < 4294967296)
    (hl0 : -9223372036854775808 ≤ l) (hl1 : l ≤ 9223372036854775807) (hm0 : -9223372036854775808 ≤ m) (hm1 : m ≤ 9223372036854775807) :
    Calls Tryd.prog 4 #[.agg #[.int .u32 a, .int .i64 l], .agg #[.int .u32 b, .int .i64 m], .int .u32 x] w fun e w' => e = .returned (.bool true) ∧ Below w.heap.size w w' := by
  go_enter Tryd.func4, Tryd.ntmps4
  go_wp2_with (go_at_call 11; refine (awake_any _).mono ?_; rintro e w1 ⟨rfl, hb⟩; obtain ⟨⟨c0, c1, z0⟩, ⟨c2, c3, z1⟩⟩ := box2 hb)
  have k0 := cell_regrown c0
  have k1 := cell_regrown c1
  have k2 := cell_regrown c2
  have k3 := cell_regrown c3
  refine wp_region_quiet_below (by kernel_rfl) (by kernel_rfl) ?_
  repeat (go_big_quiet_step (first
    | (go_at_call 20; exact Calls.regrown_of (has_any _ _ _ _ ha0 ha1 hx0 hx1 rfl))
    | (go_at_call 21; exact Calls.regrown_of (refHas_any _ _ _ _ ha0 ha1 hx0 hx1 hl0 hl1 rfl))
    | (go_at_call 22; exact Calls.regrown_of (covers_any _ _ _ _ _ ha0 ha1 hb0 hb1 rfl))
    | (go_at_call 23; exact Calls.regrown_of (refCovers_any _ _ _ _ _ ha0 ha1 hb0 hb1 hl0 hl1 hm0 hm1 rfl))
    | (go_at_call 24; exact Calls.regrown_of (less_any _ _ _ _ _ rfl))
    | (go_at_call 25; exact Calls.regrown_of (refLess_any _ _ _ _ _ rfl))))
  refine wpQuiet_nil ?_
  intro _ hw'
  obtain ⟨⟨dq, osq⟩, hw''⟩ := hw'
  subst hw''
  go_wp2
  go_ret
  exact ⟨rfl, stp (Below.out2 hb) (below_regrown _ dq osq)⟩
end Go.Proofs.YtapoajplmejjcaaDoor
