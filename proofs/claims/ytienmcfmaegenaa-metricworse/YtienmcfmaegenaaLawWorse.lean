/- The walk of the law MetricWorse. -/
import Derived.Test.YtienmcfmaegenaaMatb
namespace Go.Proofs.Ytienmcfmaegenaa
open Go.RowKit

set_option maxHeartbeats 1000000 in
theorem worse_in (b d h b' d' h' B D H X Y : Int) (w : World) (hd0 : -9223372036854775808 ≤ d) (hd1 : d ≤ 9223372036854775807) (hh0 : -9223372036854775808 ≤ h) (hh1 : h ≤ 9223372036854775807)
    (hd0' : -9223372036854775808 ≤ d') (hd1' : d' ≤ 9223372036854775807) (hh0' : -9223372036854775808 ≤ h') (hh1' : h' ≤ 9223372036854775807)
    (m : mayB b d h = true) (m' : mayB b' d' h' = true) (HJ : Hid (min b b' = B ∧ addI d d' 16777216 = D ∧ addI h h' 100 = H))
    (HX : Hid (ofI B D H = X)) (HY : Hid (ofI b d h = Y)) (n0 : ¬ X < Y) (HM : Hid (mayB B D H = true)) (HN : Hid (betterB B D H b d h = false)) {r rv rl z bv : Bool}
    (HR : Hid (reachB B D H = r ∧ reachB b d h = rv ∧ reachB b' d' h' = rl)) (hz : (h' == 0) = z) (HB : Hid (betterB b d h B D H = bv))
    (hc : (r = true ∧ rv = true ∧ rl = true ∧ z = true) ∨ (r = true ∧ rv = true ∧ rl = true ∧ z = false ∧ bv = true) ∨ (r = false ∧ z = true) ∨ (r = false ∧ z = false ∧ rv = false) ∨ (r = false ∧ z = false ∧ rv = true ∧ bv = true)) :
    Calls Try.prog 6 #[.agg #[.int .i64 b, .int .i64 d, .int .i64 h], .agg #[.int .i64 b', .int .i64 d', .int .i64 h']] w fun e w' => e = .returned (.bool true) ∧ Below w.heap.size w w' := by
  have nd : decide (X < Y) = false := by simpa using n0
  rcases hc with ⟨rfl, rfl, rfl, rfl⟩ | ⟨rfl, rfl, rfl, rfl, rfl⟩ | ⟨rfl, rfl⟩ | ⟨rfl, rfl, rfl⟩ | ⟨rfl, rfl, rfl, rfl⟩
  all_goals
    go_enter Try.func6, Try.ntmps6
    go_wp2_with (first
      | (go_at_call 11; refine (awake_any _).mono ?_; rintro e w1 ⟨rfl, hb⟩; obtain ⟨⟨c0, c1, c2, z0⟩, ⟨c3, c4, c5, z1⟩⟩ := box2 hb; have hB := Below.out2 hb; clear hb)
      | (go_at_call 14; refine (may_any _ _ _ _ (by assumption)).mono ?_; rintro e w2 ⟨rfl, hb⟩; obtain ⟨c0, c1, c2, z0⟩ := later3 ⟨c0, c1, c2, z0⟩ hb; obtain ⟨c3, c4, c5, z1⟩ := later3 ⟨c3, c4, c5, z1⟩ hb; have hB := stp hB hb; clear hb)
      | (go_at_call 12; refine (join_any _ _ _ _ _ _ _ hd0 hd1 hh0 hh1 hd0' hd1' hh0' hh1' HJ.out.1 HJ.out.2.1 HJ.out.2.2).mono ?_; rintro e w3 ⟨rfl, hb⟩; obtain ⟨c0, c1, c2, z0⟩ := later3 ⟨c0, c1, c2, z0⟩ hb; obtain ⟨c3, c4, c5, z1⟩ := later3 ⟨c3, c4, c5, z1⟩ hb; have hB := stp hB hb; clear hb))
    have hB1 := stp hB (below1 w3 (.cells #[.int .i64 B, .int .i64 D, .int .i64 H] 23))
    have p0 := later3 ⟨c0, c1, c2, z0⟩ (below1 w3 (.cells #[.int .i64 B, .int .i64 D, .int .i64 H] 23))
    have p1 := later3 ⟨c3, c4, c5, z1⟩ (below1 w3 (.cells #[.int .i64 B, .int .i64 D, .int .i64 H] 23))
    have p2 := new3 w3 (.int .i64 B) (.int .i64 D) (.int .i64 H) 23
    clear c0 c1 c2 z0 c3 c4 c5 z1 hB
    have k0 := cell_regrown p0.1
    have k1 := cell_regrown p0.2.1
    have k2 := cell_regrown p0.2.2.1
    have k3 := cell_regrown p1.1
    have k4 := cell_regrown p1.2.1
    have k5 := cell_regrown p1.2.2.1
    have k6 := cell_regrown p2.1
    have k7 := cell_regrown p2.2.1
    have k8 := cell_regrown p2.2.2.1
    refine wp_region_quiet_below (by kernel_rfl) (by kernel_rfl) ?_
    repeat (go_big_quiet_step (first
      | (go_at_call 14; exact Calls.regrown_of (may_any B D H _ HM.out))
      | (go_at_call_of 18 (Value.agg #[Value.int IntKind.i64 B, Value.int IntKind.i64 D, Value.int IntKind.i64 H]); exact Calls.regrown_of (of_any B D H _ HX.out))
      | (go_at_call_of 18 (Value.agg #[Value.int IntKind.i64 b, Value.int IntKind.i64 d, Value.int IntKind.i64 h]); exact Calls.regrown_of (of_any b d h _ HY.out))
      | (go_at_call 20; exact Calls.regrown_of (better_any B D H b d h _ HN.out))
      | (go_at_call_of 16 (Value.agg #[Value.int IntKind.i64 B, Value.int IntKind.i64 D, Value.int IntKind.i64 H]); exact Calls.regrown_of (reached_any B D H _ HR.out.1))
      | (go_at_call_of 16 (Value.agg #[Value.int IntKind.i64 b, Value.int IntKind.i64 d, Value.int IntKind.i64 h]); exact Calls.regrown_of (reached_any b d h _ HR.out.2.1))
      | (go_at_call_of 16 (Value.agg #[Value.int IntKind.i64 b', Value.int IntKind.i64 d', Value.int IntKind.i64 h']); exact Calls.regrown_of (reached_any b' d' h' _ HR.out.2.2))))
    refine wpQuiet_nil ?_
    intro _ hw'
    obtain ⟨⟨dq, osq⟩, hw''⟩ := hw'
    subst hw''
    have hB := stp hB1 (below_regrown (w3.alloc (.cells #[.int .i64 B, .int .i64 D, .int .i64 H] 23)) dq osq)
    obtain ⟨c0, c1, c2, z0⟩ := later3 p0 (below_regrown (w3.alloc (.cells #[.int .i64 B, .int .i64 D, .int .i64 H] 23)) dq osq)
    obtain ⟨c3, c4, c5, z1⟩ := later3 p1 (below_regrown (w3.alloc (.cells #[.int .i64 B, .int .i64 D, .int .i64 H] 23)) dq osq)
    obtain ⟨c6, c7, c8, z2⟩ := later3 p2 (below_regrown (w3.alloc (.cells #[.int .i64 B, .int .i64 D, .int .i64 H] 23)) dq osq)
    clear k0 k1 k2 k3 k4 k5 k6 k7 k8 p0 p1 p2 hB1
    go_wp2_with (first
      | (go_at_call 16; refine (reached_any b d h _ HR.out.2.1).mono ?_; rintro e w4 ⟨rfl, hb⟩; obtain ⟨c0, c1, c2, z0⟩ := later3 ⟨c0, c1, c2, z0⟩ hb; obtain ⟨c6, c7, c8, z2⟩ := later3 ⟨c6, c7, c8, z2⟩ hb; have hB := stp hB hb; clear hb)
      | (go_at_call 20; refine (better_any b d h B D H _ HB.out).mono ?_; rintro e w5 ⟨rfl, hb⟩; have hB := stp hB hb; clear hb))
    go_ret
    exact ⟨rfl, hB⟩

theorem law_worse (b d h b' d' h' : Int) (w : World) :
    Calls Try.prog 6 #[.agg #[.int .i64 b, .int .i64 d, .int .i64 h], .agg #[.int .i64 b', .int .i64 d', .int .i64 h']] w fun e w' => e = .returned (.bool true) ∧ Below w.heap.size w w' := by
  cases m : mayB b d h
  · go_enter Try.func6, Try.ntmps6
    go_wp2_with (first
      | (go_at_call 11; refine (awake_any _).mono ?_; rintro e w1 ⟨rfl, hb⟩; obtain ⟨⟨c0, c1, c2, z0⟩, ⟨c3, c4, c5, z1⟩⟩ := box2 hb; have hB := Below.out2 hb; clear hb)
      | (go_at_call 14; refine (may_any _ _ _ _ m).mono ?_; rintro e w2 ⟨rfl, hb⟩; have hB := stp hB hb; clear hb))
    go_ret
    exact ⟨rfl, hB⟩
  cases m' : mayB b' d' h'
  · go_enter Try.func6, Try.ntmps6
    go_wp2_with (first
      | (go_at_call 11; refine (awake_any _).mono ?_; rintro e w1 ⟨rfl, hb⟩; obtain ⟨⟨c0, c1, c2, z0⟩, ⟨c3, c4, c5, z1⟩⟩ := box2 hb; have hB := Below.out2 hb; clear hb)
      | (go_at_call_of 14 (Value.agg #[Value.int IntKind.i64 b, Value.int IntKind.i64 d, Value.int IntKind.i64 h]); refine (may_any b d h _ m).mono ?_; rintro e w2 ⟨rfl, hb⟩; obtain ⟨c3, c4, c5, z1⟩ := later3 ⟨c3, c4, c5, z1⟩ hb; have hB := stp hB hb; clear hb)
      | (go_at_call_of 14 (Value.agg #[Value.int IntKind.i64 b', Value.int IntKind.i64 d', Value.int IntKind.i64 h']); refine (may_any b' d' h' _ m').mono ?_; rintro e w2 ⟨rfl, hb⟩; have hB := stp hB hb; clear hb))
    go_ret
    exact ⟨rfl, hB⟩
  have bv := may_iff.1 m
  have bl := may_iff.1 m'
  have jr := join_reach m m'
  have jw := join_worse m m'
  refine worse_in b d h b' d' h' _ _ _ _ _ w (by omega) (by omega) (by omega) (by omega) (by omega) (by omega) (by omega) (by omega) m m' ⟨rfl, rfl, rfl⟩ rfl rfl (by have := join_le m m'; omega) (join_may m m') (join_not m m') ⟨rfl, rfl, rfl⟩ rfl rfl ?_
  cases r : reachB (min b b') (addI d d' 16777216) (addI h h' 100)
  · by_cases hz : h' = 0
    · exact .inr (.inr (.inl ⟨rfl, by simp [hz]⟩))
    · have hz' : (h' == 0) = false := by simp [hz]
      cases rv : reachB b d h
      · exact .inr (.inr (.inr (.inl ⟨rfl, hz', rfl⟩)))
      · exact .inr (.inr (.inr (.inr ⟨rfl, hz', rfl, jw rv hz⟩)))
  · obtain ⟨r1, r2⟩ := jr r
    by_cases hz : h' = 0
    · exact .inl ⟨rfl, r1, r2, by simp [hz]⟩
    · exact .inr (.inl ⟨rfl, r1, r2, by simp [hz], jw r1 hz⟩)
end Go.Proofs.Ytienmcfmaegenaa
