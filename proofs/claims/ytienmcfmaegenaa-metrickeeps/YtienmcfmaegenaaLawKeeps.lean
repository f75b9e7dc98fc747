/- The walk of the law MetricKeeps. -/
import Derived.Test.YtienmcfmaegenaaMatb
namespace Go.Proofs.Ytienmcfmaegenaa
open Go.RowKit

/-- The three boxed vectors behind a call, and behind the store of the first one's bandwidth into the second one. -/
theorem box3s {w w1 : World} {x y z x' y' z' x'' y'' z'' : Value} (hb : Below (((w.alloc (.cells #[x, y, z] 23)).alloc (.cells #[x', y', z'] 23)).alloc (.cells #[x'', y'', z''] 23)).heap.size (((w.alloc (.cells #[x, y, z] 23)).alloc (.cells #[x', y', z'] 23)).alloc (.cells #[x'', y'', z''] 23)) w1) :
    w1.cell? ⟨w.heap.size, 0, none⟩ = some x ∧ w1.frozen? ⟨w.heap.size + 1, 0, none⟩ = false ∧
    ((w1.setCell ⟨w.heap.size + 1, 0, none⟩ x).cell? ⟨w.heap.size, 0, none⟩ = some x ∧ (w1.setCell ⟨w.heap.size + 1, 0, none⟩ x).cell? ⟨w.heap.size, 1, none⟩ = some y ∧ (w1.setCell ⟨w.heap.size + 1, 0, none⟩ x).cell? ⟨w.heap.size, 2, none⟩ = some z ∧ w.heap.size < (w1.setCell ⟨w.heap.size + 1, 0, none⟩ x).heap.size) ∧
    ((w1.setCell ⟨w.heap.size + 1, 0, none⟩ x).cell? ⟨w.heap.size + 1, 0, none⟩ = some x ∧ (w1.setCell ⟨w.heap.size + 1, 0, none⟩ x).cell? ⟨w.heap.size + 1, 1, none⟩ = some y' ∧ (w1.setCell ⟨w.heap.size + 1, 0, none⟩ x).cell? ⟨w.heap.size + 1, 2, none⟩ = some z' ∧ w.heap.size + 1 < (w1.setCell ⟨w.heap.size + 1, 0, none⟩ x).heap.size) ∧
    ((w1.setCell ⟨w.heap.size + 1, 0, none⟩ x).cell? ⟨w.heap.size + 1 + 1, 0, none⟩ = some x'' ∧ (w1.setCell ⟨w.heap.size + 1, 0, none⟩ x).cell? ⟨w.heap.size + 1 + 1, 1, none⟩ = some y'' ∧ (w1.setCell ⟨w.heap.size + 1, 0, none⟩ x).cell? ⟨w.heap.size + 1 + 1, 2, none⟩ = some z'' ∧ w.heap.size + 1 + 1 < (w1.setCell ⟨w.heap.size + 1, 0, none⟩ x).heap.size) ∧
    Below w.heap.size w (w1.setCell ⟨w.heap.size + 1, 0, none⟩ x) := by
  obtain ⟨⟨c0, c1, c2, z0⟩, ⟨c3, c4, c5, z1⟩, ⟨c6, c7, c8, z2⟩⟩ := box3 hb
  have f : w1.frozen? ⟨w.heap.size + 1, 0, none⟩ = false := by rw [hb.frozen (by simp)]; simp [go_sem]
  have n0 : w.heap.size ≠ w.heap.size + 1 := by omega
  have n1 : w.heap.size + 1 + 1 ≠ w.heap.size + 1 := by omega
  have hs : (w1.setCell ⟨w.heap.size + 1, 0, none⟩ x).heap.size = w1.heap.size := by simp [go_sem]
  refine ⟨c0, f, ⟨?_, ?_, ?_, by omega⟩, ⟨?_, ?_, ?_, by omega⟩, ⟨?_, ?_, ?_, by omega⟩, (Below.out3 hb).setCell (by simp) _⟩
  all_goals simp [go_sem, *]

set_option maxHeartbeats 1000000 in
theorem keeps_in (b d h o e k x y z B D H D' H' X X' Y Y' : Int) (w : World) (gd0 : -9223372036854775808 ≤ d) (gd1 : d ≤ 9223372036854775807) (gh0 : -9223372036854775808 ≤ h) (gh1 : h ≤ 9223372036854775807) (ge0 : -9223372036854775808 ≤ e) (ge1 : e ≤ 9223372036854775807) (gk0 : -9223372036854775808 ≤ k) (gk1 : k ≤ 9223372036854775807) (gy0 : -9223372036854775808 ≤ y) (gy1 : y ≤ 9223372036854775807) (gz0 : -9223372036854775808 ≤ z) (gz1 : z ≤ 9223372036854775807)
    (m : mayB b d h = true) (m' : mayB b e k = true) (n : mayB x y z = true) (hd : decide (e < d) = false) (hh : decide (k < h) = false)
    (HJ : Hid (min b x = B ∧ addI d y 16777216 = D ∧ addI h z 100 = H)) (HJ' : Hid (min b x = B ∧ addI e y 16777216 = D' ∧ addI k z 100 = H'))
    (HX : Hid (ofI B D H = X ∧ ofI B D' H' = X')) (HY : Hid (ofI b d h = Y ∧ ofI b e k = Y')) (l0 : decide (X ≤ X') = true) (l1 : decide (Y ≤ Y') = true)
    :
    Calls Try.prog 9 #[.agg #[.int .i64 b, .int .i64 d, .int .i64 h], .agg #[.int .i64 o, .int .i64 e, .int .i64 k], .agg #[.int .i64 x, .int .i64 y, .int .i64 z]] w fun e w' => e = .returned (.bool true) ∧ Below w.heap.size w w' := by
  have n0 : w.heap.size ≠ w.heap.size + 1 := by omega
  have n1 : w.heap.size + 1 ≠ w.heap.size := by omega
  have n2 : w.heap.size + 1 ≠ w.heap.size + 1 + 1 := by omega
  go_enter Try.func9, Try.ntmps9
  go_wp2_with (first
    | (go_at_call 11; refine (awake_any _).mono ?_; rintro e w1 ⟨rfl, hb⟩; obtain ⟨_, f0, ⟨c0, c1, c2, z0⟩, ⟨c3, c4, c5, z1⟩, ⟨c6, c7, c8, z2⟩, hB⟩ := box3s hb; obtain ⟨⟨k0, k1, k2, _⟩, ⟨k3, k4, k5, _⟩, ⟨k6, k7, k8, _⟩⟩ := box3 hb; clear hb)
    | (go_at_call 14; refine (may_any _ _ _ _ (by assumption)).mono ?_; rintro e w2 ⟨rfl, hb⟩; obtain ⟨c0, c1, c2, z0⟩ := later3 ⟨c0, c1, c2, z0⟩ hb; obtain ⟨c3, c4, c5, z1⟩ := later3 ⟨c3, c4, c5, z1⟩ hb; obtain ⟨c6, c7, c8, z2⟩ := later3 ⟨c6, c7, c8, z2⟩ hb; have hB := stp hB hb; clear hb))
  have k0 := cell_regrown c0
  have k1 := cell_regrown c1
  have k2 := cell_regrown c2
  have k3 := cell_regrown c3
  have k4 := cell_regrown c4
  have k5 := cell_regrown c5
  have k6 := cell_regrown c6
  have k7 := cell_regrown c7
  have k8 := cell_regrown c8
  refine wp_region_quiet_below (by kernel_rfl) (by kernel_rfl) ?_
  repeat (go_big_quiet_step (first
    | (go_at_call_of 12 (Value.agg #[Value.int IntKind.i64 b, Value.int IntKind.i64 d, Value.int IntKind.i64 h]); exact Calls.regrown_of (join_any b d h x y z _ gd0 gd1 gh0 gh1 gy0 gy1 gz0 gz1 HJ.out.1 HJ.out.2.1 HJ.out.2.2))
    | (go_at_call_of 12 (Value.agg #[Value.int IntKind.i64 b, Value.int IntKind.i64 e, Value.int IntKind.i64 k]); exact Calls.regrown_of (join_any b e k x y z _ ge0 ge1 gk0 gk1 gy0 gy1 gz0 gz1 HJ'.out.1 HJ'.out.2.1 HJ'.out.2.2))
    | (go_at_call_of 18 (Value.agg #[Value.int IntKind.i64 B, Value.int IntKind.i64 D, Value.int IntKind.i64 H]); exact Calls.regrown_of (of_any B D H _ HX.out.1))
    | (go_at_call_of 18 (Value.agg #[Value.int IntKind.i64 B, Value.int IntKind.i64 D', Value.int IntKind.i64 H']); exact Calls.regrown_of (of_any B D' H' _ HX.out.2))
    | (go_at_call_of 18 (Value.agg #[Value.int IntKind.i64 b, Value.int IntKind.i64 d, Value.int IntKind.i64 h]); exact Calls.regrown_of (of_any b d h _ HY.out.1))
    | (go_at_call_of 18 (Value.agg #[Value.int IntKind.i64 b, Value.int IntKind.i64 e, Value.int IntKind.i64 k]); exact Calls.regrown_of (of_any b e k _ HY.out.2))))
  refine wpQuiet_nil ?_
  intro _ hw'
  obtain ⟨⟨dq, osq⟩, hw''⟩ := hw'
  subst hw''
  go_wp2
  go_ret
  exact ⟨rfl, stp hB (below_regrown _ dq osq)⟩

set_option maxHeartbeats 1000000 in
theorem law_keeps (b d h o e k x y z : Int) (w : World) :
    Calls Try.prog 9 #[.agg #[.int .i64 b, .int .i64 d, .int .i64 h], .agg #[.int .i64 o, .int .i64 e, .int .i64 k], .agg #[.int .i64 x, .int .i64 y, .int .i64 z]] w fun e w' => e = .returned (.bool true) ∧ Below w.heap.size w w' := by
  have n0 : w.heap.size ≠ w.heap.size + 1 := by omega
  have n1 : w.heap.size + 1 ≠ w.heap.size := by omega
  have n2 : w.heap.size + 1 ≠ w.heap.size + 1 + 1 := by omega
  have hc : mayB b d h = false ∨ (mayB b d h = true ∧ mayB b e k = false) ∨ (mayB b d h = true ∧ mayB b e k = true ∧ mayB x y z = false) ∨ (mayB b d h = true ∧ mayB b e k = true ∧ mayB x y z = true) := by
    cases mayB b d h <;> cases mayB b e k <;> cases mayB x y z <;> simp
  rcases hc with m | ⟨m, m'⟩ | ⟨m, m', n⟩ | ⟨m, m', n⟩
  case inr.inr.inr =>
    by_cases hd : e < d
    · have hd' : decide (e < d) = true := by simpa using hd
      go_enter Try.func9, Try.ntmps9
      go_wp2_with (first
        | (go_at_call 11; refine (awake_any _).mono ?_; rintro e w1 ⟨rfl, hb⟩; obtain ⟨_, f0, ⟨c0, c1, c2, z0⟩, ⟨c3, c4, c5, z1⟩, ⟨c6, c7, c8, z2⟩, hB⟩ := box3s hb; obtain ⟨⟨k0, k1, k2, _⟩, ⟨k3, k4, k5, _⟩, ⟨k6, k7, k8, _⟩⟩ := box3 hb; clear hb)
        | (go_at_call 14; refine (may_any _ _ _ _ (by assumption)).mono ?_; rintro e w2 ⟨rfl, hb⟩; obtain ⟨c0, c1, c2, z0⟩ := later3 ⟨c0, c1, c2, z0⟩ hb; obtain ⟨c3, c4, c5, z1⟩ := later3 ⟨c3, c4, c5, z1⟩ hb; obtain ⟨c6, c7, c8, z2⟩ := later3 ⟨c6, c7, c8, z2⟩ hb; have hB := stp hB hb; clear hb))
      go_ret
      exact ⟨rfl, hB⟩
    by_cases hh : k < h
    · have hd' : decide (e < d) = false := by simpa using hd
      have hh' : decide (k < h) = true := by simpa using hh
      go_enter Try.func9, Try.ntmps9
      go_wp2_with (first
        | (go_at_call 11; refine (awake_any _).mono ?_; rintro e w1 ⟨rfl, hb⟩; obtain ⟨_, f0, ⟨c0, c1, c2, z0⟩, ⟨c3, c4, c5, z1⟩, ⟨c6, c7, c8, z2⟩, hB⟩ := box3s hb; obtain ⟨⟨k0, k1, k2, _⟩, ⟨k3, k4, k5, _⟩, ⟨k6, k7, k8, _⟩⟩ := box3 hb; clear hb)
        | (go_at_call 14; refine (may_any _ _ _ _ (by assumption)).mono ?_; rintro e w2 ⟨rfl, hb⟩; obtain ⟨c0, c1, c2, z0⟩ := later3 ⟨c0, c1, c2, z0⟩ hb; obtain ⟨c3, c4, c5, z1⟩ := later3 ⟨c3, c4, c5, z1⟩ hb; obtain ⟨c6, c7, c8, z2⟩ := later3 ⟨c6, c7, c8, z2⟩ hb; have hB := stp hB hb; clear hb))
      go_ret
      exact ⟨rfl, hB⟩
    have q := may_iff.1 m
    have q' := may_iff.1 m'
    have q'' := may_iff.1 n
    exact keeps_in b d h o e k x y z _ _ _ _ _ _ _ _ _ w (by omega) (by omega) (by omega) (by omega) (by omega) (by omega) (by omega) (by omega) (by omega) (by omega) (by omega) (by omega) m m' n (by simpa using hd) (by simpa using hh)
      ⟨rfl, rfl, rfl⟩ ⟨rfl, rfl, rfl⟩ ⟨rfl, rfl⟩ ⟨rfl, rfl⟩ (decide_eq_true (join_keeps m m' n (by omega) (by omega))) (decide_eq_true (of_le m m' (by omega) (by omega) (by omega)))
  all_goals
    go_enter Try.func9, Try.ntmps9
    go_wp2_with (first
      | (go_at_call 11; refine (awake_any _).mono ?_; rintro e w1 ⟨rfl, hb⟩; obtain ⟨_, f0, ⟨c0, c1, c2, z0⟩, ⟨c3, c4, c5, z1⟩, ⟨c6, c7, c8, z2⟩, hB⟩ := box3s hb; obtain ⟨⟨k0, k1, k2, _⟩, ⟨k3, k4, k5, _⟩, ⟨k6, k7, k8, _⟩⟩ := box3 hb; clear hb)
      | (go_at_call 14; refine (may_any _ _ _ _ (by assumption)).mono ?_; rintro e w2 ⟨rfl, hb⟩; obtain ⟨c0, c1, c2, z0⟩ := later3 ⟨c0, c1, c2, z0⟩ hb; obtain ⟨c3, c4, c5, z1⟩ := later3 ⟨c3, c4, c5, z1⟩ hb; obtain ⟨c6, c7, c8, z2⟩ := later3 ⟨c6, c7, c8, z2⟩ hb; have hB := stp hB hb; clear hb))
    go_ret
    exact ⟨rfl, hB⟩
end Go.Proofs.Ytienmcfmaegenaa
