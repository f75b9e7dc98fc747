/- The walks of the laws MetricJoins, MetricTells, MetricSums and MetricHops. -/
import Derived.Test.YtienmcfmaegenaaConf
namespace Go.Proofs.Ytienmcfmaegenaa
open Go.RowKit

set_option maxHeartbeats 1000000 in
theorem law_joins (b d h b' d' h' : Int) (w : World) (hd0 : -9223372036854775808 ≤ d) (hd1 : d ≤ 9223372036854775807) (hh0 : -9223372036854775808 ≤ h) (hh1 : h ≤ 9223372036854775807)
    (hd0' : -9223372036854775808 ≤ d') (hd1' : d' ≤ 9223372036854775807) (hh0' : -9223372036854775808 ≤ h') (hh1' : h' ≤ 9223372036854775807) :
    Calls Try.prog 3 #[.agg #[.int .i64 b, .int .i64 d, .int .i64 h], .agg #[.int .i64 b', .int .i64 d', .int .i64 h']] w fun e w' => e = .returned (.bool true) ∧ Below w.heap.size w w' := by
  obtain ⟨B, hB⟩ : ∃ B, min b b' = B := ⟨_, rfl⟩
  obtain ⟨D, hD⟩ : ∃ D, addI d d' 16777216 = D := ⟨_, rfl⟩
  obtain ⟨H, hH⟩ : ∃ H, addI h h' 100 = H := ⟨_, rfl⟩
  have HB : Hid (min b b' = B) := hB
  have HD : Hid (addI d d' 16777216 = D) := hD
  have HH : Hid (addI h h' 100 = H) := hH
  clear hB hD hH
  go_enter Try.func3, Try.ntmps3
  go_wp2_with (go_at_call 11; refine (awake_any _).mono ?_; rintro e w1 ⟨rfl, hb⟩; obtain ⟨⟨c0, c1, c2, z0⟩, ⟨c3, c4, c5, z1⟩⟩ := box2 hb)
  have k0 := cell_regrown c0
  have k1 := cell_regrown c1
  have k2 := cell_regrown c2
  have k3 := cell_regrown c3
  have k4 := cell_regrown c4
  have k5 := cell_regrown c5
  refine wp_region_quiet_below (by kernel_rfl) (by kernel_rfl) ?_
  repeat (go_big_quiet_step (first
    | (go_at_call 12; exact Calls.regrown_of (join_any _ _ _ _ _ _ _ hd0 hd1 hh0 hh1 hd0' hd1' hh0' hh1' HB.out HD.out HH.out))
    | (go_at_call 13; exact Calls.regrown_of (refJoin_any _ _ _ _ _ _ _ hd0 hd1 hh0 hh1 hd0' hd1' hh0' hh1' HB.out HD.out HH.out))))
  refine wpQuiet_nil ?_
  intro _ hw'
  obtain ⟨⟨dq, osq⟩, hw''⟩ := hw'
  subst hw''
  go_wp2
  go_ret
  exact ⟨rfl, stp (Below.out2 hb) (below_regrown _ dq osq)⟩

set_option maxHeartbeats 1000000 in
theorem law_tells (b d h b' d' h' : Int) (w : World) :
    Calls Try.prog 4 #[.agg #[.int .i64 b, .int .i64 d, .int .i64 h], .agg #[.int .i64 b', .int .i64 d', .int .i64 h']] w fun e w' => e = .returned (.bool true) ∧ Below w.heap.size w w' := by
  go_enter Try.func4, Try.ntmps4
  go_wp2_with (go_at_call 11; refine (awake_any _).mono ?_; rintro e w1 ⟨rfl, hb⟩; obtain ⟨⟨c0, c1, c2, z0⟩, ⟨c3, c4, c5, z1⟩⟩ := box2 hb)
  have k0 := cell_regrown c0
  have k1 := cell_regrown c1
  have k2 := cell_regrown c2
  have k3 := cell_regrown c3
  have k4 := cell_regrown c4
  have k5 := cell_regrown c5
  refine wp_region_quiet_below (by kernel_rfl) (by kernel_rfl) ?_
  repeat (go_big_quiet_step (first
    | (go_at_call 14; exact Calls.regrown_of (may_any _ _ _ _ rfl))
    | (go_at_call 15; exact Calls.regrown_of (refMay_any _ _ _ _ rfl))
    | (go_at_call 16; exact Calls.regrown_of (reached_any _ _ _ _ rfl))
    | (go_at_call 17; exact Calls.regrown_of (refReached_any _ _ _ _ rfl))
    | (go_at_call 18; exact Calls.regrown_of (of_any _ _ _ _ rfl))
    | (go_at_call 19; exact Calls.regrown_of (refOf_any _ _ _ _ rfl))
    | (go_at_call 20; exact Calls.regrown_of (better_any _ _ _ _ _ _ _ rfl))
    | (go_at_call 21; exact Calls.regrown_of (refBetter_any _ _ _ _ _ _ _ rfl))))
  refine wpQuiet_nil ?_
  intro _ hw'
  obtain ⟨⟨dq, osq⟩, hw''⟩ := hw'
  subst hw''
  go_wp2
  go_ret
  exact ⟨rfl, stp (Below.out2 hb) (below_regrown _ dq osq)⟩

theorem law_sums (a b : Int) (w : World) (ha0 : -9223372036854775808 ≤ a) (ha1 : a ≤ 9223372036854775807) (hb0 : -9223372036854775808 ≤ b) (hb1 : b ≤ 9223372036854775807) :
    Calls Try.prog 5 #[.int .i64 a, .int .i64 b] w fun e w' => e = .returned (.bool true) ∧ Below w.heap.size w w' := by
  go_enter Try.func5, Try.ntmps5
  go_wp2_with (first
    | (go_at_call 11; refine (awake_any _).mono ?_; rintro e w1 ⟨rfl, hb⟩)
    | (go_at_call 22; refine (hops_any _ _ _ ha0 ha1 hb0 hb1 rfl).mono ?_; rintro e w2 ⟨rfl, rfl⟩)
    | (go_at_call 24; refine (cost_any _ _ _ ha0 ha1 hb0 hb1 rfl).mono ?_; rintro e w2 ⟨rfl, rfl⟩)
    | (go_at_call 23; refine (refAdd_any _ _ _ _ ha0 ha1 hb0 hb1 (by decide) (by decide) rfl).mono ?_; rintro e w2 ⟨rfl, rfl⟩))
  go_ret
  exact ⟨rfl, hb⟩

theorem hops_facts {n l : Int} (_hn : 0 ≤ n) (hl : 0 ≤ l) :
    addI n l 16 ≤ 16 ∧ addI n l 65535 ≤ 65535 ∧ addI n l 16 ≤ addI n (l + 1) 16 ∧ addI n l 65535 ≤ addI n (l + 1) 65535 ∧ addI n l 16 ≤ addI n l 65535 := by
  unfold addI; omega

theorem law_hops (n l : Int) (w : World) (hn0 : -9223372036854775808 ≤ n) (hn1 : n ≤ 9223372036854775807) (hl0 : -9223372036854775808 ≤ l) (hl1 : l ≤ 9223372036854775807) :
    Calls Try.prog 10 #[.int .i64 n, .int .i64 l] w fun e w' => e = .returned (.bool true) ∧ Below w.heap.size w w' := by
  have hc : n < 0 ∨ (¬ n < 0 ∧ l < 0) ∨ (¬ n < 0 ∧ ¬ l < 0 ∧ 1000000 < l) ∨ (0 ≤ n ∧ 0 ≤ l ∧ l ≤ 1000000) := by omega
  rcases hc with h | ⟨h, h'⟩ | ⟨h, h', h''⟩ | ⟨h, h', h''⟩
  case inr.inr.inr =>
    obtain ⟨f1, f2, f3, f4, f5⟩ := hops_facts h h'
    obtain ⟨x, hx⟩ : ∃ x, addI n l 16 = x := ⟨_, rfl⟩
    obtain ⟨y, hy⟩ : ∃ y, addI n l 65535 = y := ⟨_, rfl⟩
    obtain ⟨x', hx'⟩ : ∃ x, addI n (l + 1) 16 = x := ⟨_, rfl⟩
    obtain ⟨y', hy'⟩ : ∃ y, addI n (l + 1) 65535 = y := ⟨_, rfl⟩
    rw [hx] at f1 f3 f5
    rw [hy] at f2 f4 f5
    rw [hx'] at f3
    rw [hy'] at f4
    have HX : Hid (addI n l 16 = x) := hx
    have HY : Hid (addI n l 65535 = y) := hy
    have HX' : Hid (addI n (l + 1) 16 = x') := hx'
    have HY' : Hid (addI n (l + 1) 65535 = y') := hy'
    clear hx hy hx' hy'
    go_enter Try.func10, Try.ntmps10
    go_wp2_with (first
      | (go_at_call 11; refine (awake_any _).mono ?_; rintro e w1 ⟨rfl, hb⟩)
      | (go_at_call_of 22 (Value.int IntKind.i64 l); refine (hops_any _ _ _ hn0 hn1 hl0 hl1 HX.out).mono ?_; rintro e w2 ⟨rfl, rfl⟩)
      | (go_at_call_of 24 (Value.int IntKind.i64 l); refine (cost_any _ _ _ hn0 hn1 hl0 hl1 HY.out).mono ?_; rintro e w2 ⟨rfl, rfl⟩)
      | (go_at_call 22; refine (hops_any _ _ _ hn0 hn1 (by omega) (by omega) HX'.out).mono ?_; rintro e w2 ⟨rfl, rfl⟩)
      | (go_at_call 24; refine (cost_any _ _ _ hn0 hn1 (by omega) (by omega) HY'.out).mono ?_; rintro e w2 ⟨rfl, rfl⟩))
    go_ret
    exact ⟨rfl, hb⟩
  all_goals
    go_enter Try.func10, Try.ntmps10
    go_wp2_with (go_at_call 11; refine (awake_any _).mono ?_; rintro e w1 ⟨rfl, hb⟩)
    go_ret
    exact ⟨rfl, hb⟩
end Go.Proofs.Ytienmcfmaegenaa
