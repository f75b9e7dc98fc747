/- Contracts of Reached, Of, Better and the document's own. -/
import Derived.Test.YtienmcfmaegenaaCona
namespace Go.Proofs.Ytienmcfmaegenaa
open Go.RowKit

theorem may_of_reach {b d h : Int} (hr : reachB b d h = true) : mayB b d h = true := by
  unfold reachB at hr; unfold mayB; simp only [decide_eq_true_eq] at *; omega
theorem reach_no {b d h : Int} (hm : mayB b d h = false) : reachB b d h = false := by
  unfold mayB at hm; unfold reachB; simp only [decide_eq_false_iff_not] at *; omega
theorem reach_may {b d h : Int} (hm : mayB b d h = true) : reachB b d h = (decide (d < 16777216) && decide (h < 100)) := by
  unfold mayB at hm; unfold reachB; rw [Bool.eq_iff_iff]; simp only [Bool.and_eq_true, decide_eq_true_eq] at *; omega

/-- A boxed vector, behind a call. -/
theorem box1 {w w1 : World} {x y z : Value} (hb : Below (w.alloc (.cells #[x, y, z] 23)).heap.size (w.alloc (.cells #[x, y, z] 23)) w1) :
    w1.cell? ⟨w.heap.size, 0, none⟩ = some x ∧ w1.cell? ⟨w.heap.size, 1, none⟩ = some y ∧ w1.cell? ⟨w.heap.size, 2, none⟩ = some z ∧ w.heap.size < w1.heap.size :=
  ⟨by rw [hb.cell (by simp)]; simp [go_sem], by rw [hb.cell (by simp)]; simp [go_sem], by rw [hb.cell (by simp)]; simp [go_sem], by have := hb.size; simp at this; omega⟩

theorem reached_any (b d h : Int) (w : World) {v : Bool} (hv : reachB b d h = v) :
    Calls Try.prog 16 #[.agg #[.int .i64 b, .int .i64 d, .int .i64 h]] w fun e w' => e = .returned (.bool v) ∧ Below w.heap.size w w' := by
  subst hv
  cases hm : mayB b d h
  · have HM : Hid (reachB b d h = false) := reach_no hm
    go_enter Try.func16, Try.ntmps16
    go_wp2_with (go_at_call 14; refine (may_any _ _ _ _ hm).mono ?_; rintro e w' ⟨rfl, hb⟩)
    go_ret
    exact ⟨ret_bool HM.out.symm, Below.out1 hb⟩
  · have HM : Hid (reachB b d h = (decide (d < 16777216) && decide (h < 100))) := reach_may hm
    by_cases h1 : d < 16777216 <;> by_cases h2 : h < 100
    all_goals
      go_enter Try.func16, Try.ntmps16
      go_wp2_with (go_at_call 14; refine (may_any _ _ _ _ hm).mono ?_; rintro e w' ⟨rfl, hb⟩; obtain ⟨c0, c1, c2, z0⟩ := box1 hb)
      go_ret
      exact ⟨ret_bool (by rw [HM.out]; simp [h1, h2]), Below.out1 hb⟩

theorem refReached_any (b d h : Int) (w : World) {v : Bool} (hv : reachB b d h = v) :
    Calls Try.prog 17 #[.agg #[.int .i64 b, .int .i64 d, .int .i64 h]] w fun e w' => e = .returned (.bool v) ∧ Below w.heap.size w w' := by
  subst hv
  cases hm : mayB b d h
  · have HM : Hid (reachB b d h = false) := reach_no hm
    go_enter Try.func17, Try.ntmps17
    go_wp2_with (go_at_call 15; refine (refMay_any _ _ _ _ hm).mono ?_; rintro e w' ⟨rfl, hb⟩)
    go_ret
    exact ⟨ret_bool HM.out.symm, Below.out1 hb⟩
  · have HM : Hid (reachB b d h = (decide (d < 16777216) && decide (h < 100))) := reach_may hm
    by_cases h1 : d < 16777216 <;> by_cases h2 : h < 100
    all_goals
      go_enter Try.func17, Try.ntmps17
      go_wp2_with (go_at_call 15; refine (refMay_any _ _ _ _ hm).mono ?_; rintro e w' ⟨rfl, hb⟩; obtain ⟨c0, c1, c2, z0⟩ := box1 hb)
      go_ret
      exact ⟨ret_bool (by rw [HM.out]; simp [h1, h2]), Below.out1 hb⟩

/-- How good a path is. -/
def ofI (b d h : Int) : Int := if reachB b d h = true then min (256 * (10000000 / b + d)) 4294967294 else 4294967295

theorem quo_bd {b : Int} (h : 1 ≤ b) : 0 ≤ 10000000 / b ∧ 10000000 / b ≤ 10000000 :=
  ⟨Int.ediv_nonneg (by omega) (by omega), Int.ediv_le_self _ (by omega)⟩

theorem of_any (b d h : Int) (w : World) {v : Int} (hv : ofI b d h = v) :
    Calls Try.prog 18 #[.agg #[.int .i64 b, .int .i64 d, .int .i64 h]] w fun e w' => e = .returned (.int .i64 v) ∧ Below w.heap.size w w' := by
  subst hv
  cases hr : reachB b d h
  · have HM : Hid (ofI b d h = 4294967295) := by unfold Hid ofI; rw [hr]; rfl
    go_enter Try.func18, Try.ntmps18
    go_wp2_with (go_at_call 16; refine (reached_any _ _ _ _ hr).mono ?_; rintro e w' ⟨rfl, hb⟩)
    go_ret
    exact ⟨ret_int HM.out.symm, Below.out1 hb⟩
  · have HM : Hid (ofI b d h = min (256 * (10000000 / b + d)) 4294967294) := by unfold Hid ofI; rw [hr]; rfl
    have hx := hr
    unfold reachB at hx
    simp only [decide_eq_true_eq] at hx
    obtain ⟨hb0, hb1, hd0, hd1, hh0, hh1⟩ := hx
    obtain ⟨q0, q1⟩ := quo_bd hb0
    go_enter Try.func18, Try.ntmps18
    go_wp2_with (go_at_call 16; refine (reached_any _ _ _ _ hr).mono ?_; rintro e w' ⟨rfl, hb⟩; obtain ⟨c0, c1, c2, z0⟩ := box1 hb)
    go_quiet (fail)
    go_wp2
    all_goals
      go_ret
      refine ⟨ret_int ?_, below_drewN (Below.out1 hb) _⟩
      rw [HM.out]
      first | rfl | omega

theorem refOf_any (b d h : Int) (w : World) {v : Int} (hv : ofI b d h = v) :
    Calls Try.prog 19 #[.agg #[.int .i64 b, .int .i64 d, .int .i64 h]] w fun e w' => e = .returned (.int .i64 v) ∧ Below w.heap.size w w' := by
  subst hv
  cases hr : reachB b d h
  · have HM : Hid (ofI b d h = 4294967295) := by unfold Hid ofI; rw [hr]; rfl
    go_enter Try.func19, Try.ntmps19
    go_wp2_with (go_at_call 17; refine (refReached_any _ _ _ _ hr).mono ?_; rintro e w' ⟨rfl, hb⟩)
    go_ret
    exact ⟨ret_int HM.out.symm, Below.out1 hb⟩
  · have HM : Hid (ofI b d h = min (256 * (10000000 / b + d)) 4294967294) := by unfold Hid ofI; rw [hr]; rfl
    have hx := hr
    unfold reachB at hx
    simp only [decide_eq_true_eq] at hx
    obtain ⟨hb0, hb1, hd0, hd1, hh0, hh1⟩ := hx
    obtain ⟨q0, q1⟩ := quo_bd hb0
    go_enter Try.func19, Try.ntmps19
    go_wp2_with (go_at_call 17; refine (refReached_any _ _ _ _ hr).mono ?_; rintro e w' ⟨rfl, hb⟩; obtain ⟨c0, c1, c2, z0⟩ := box1 hb)
    go_quiet (fail)
    go_wp2
    all_goals
      go_ret
      refine ⟨ret_int ?_, below_drewN (Below.out1 hb) _⟩
      rw [HM.out]
      first | rfl | omega

theorem box2 {w w1 : World} {x y z x' y' z' : Value} (hb : Below ((w.alloc (.cells #[x, y, z] 23)).alloc (.cells #[x', y', z'] 23)).heap.size ((w.alloc (.cells #[x, y, z] 23)).alloc (.cells #[x', y', z'] 23)) w1) :
    (w1.cell? ⟨w.heap.size, 0, none⟩ = some x ∧ w1.cell? ⟨w.heap.size, 1, none⟩ = some y ∧ w1.cell? ⟨w.heap.size, 2, none⟩ = some z ∧ w.heap.size < w1.heap.size) ∧
    (w1.cell? ⟨w.heap.size + 1, 0, none⟩ = some x' ∧ w1.cell? ⟨w.heap.size + 1, 1, none⟩ = some y' ∧ w1.cell? ⟨w.heap.size + 1, 2, none⟩ = some z' ∧ w.heap.size + 1 < w1.heap.size) :=
  ⟨⟨by rw [hb.cell (by simp; try omega)]; simp [go_sem], by rw [hb.cell (by simp; try omega)]; simp [go_sem], by rw [hb.cell (by simp; try omega)]; simp [go_sem], by have := hb.size; simp at this; omega⟩,
   ⟨by rw [hb.cell (by simp; try omega)]; simp [go_sem], by rw [hb.cell (by simp; try omega)]; simp [go_sem], by rw [hb.cell (by simp; try omega)]; simp [go_sem], by have := hb.size; simp at this; omega⟩⟩
theorem new3 (W : World) (x y z : Value) (t : TypeId) :
    (W.alloc (.cells #[x, y, z] t)).cell? ⟨W.heap.size, 0, none⟩ = some x ∧ (W.alloc (.cells #[x, y, z] t)).cell? ⟨W.heap.size, 1, none⟩ = some y ∧ (W.alloc (.cells #[x, y, z] t)).cell? ⟨W.heap.size, 2, none⟩ = some z ∧ W.heap.size < (W.alloc (.cells #[x, y, z] t)).heap.size :=
  ⟨by simp [go_sem], by simp [go_sem], by simp [go_sem], by simp⟩
/-- A boxed vector, behind one more call. -/
theorem later3 {W W' : World} {N : Nat} {x y z : Value} (h : W.cell? ⟨N, 0, none⟩ = some x ∧ W.cell? ⟨N, 1, none⟩ = some y ∧ W.cell? ⟨N, 2, none⟩ = some z ∧ N < W.heap.size) (hb : Below W.heap.size W W') :
    W'.cell? ⟨N, 0, none⟩ = some x ∧ W'.cell? ⟨N, 1, none⟩ = some y ∧ W'.cell? ⟨N, 2, none⟩ = some z ∧ N < W'.heap.size :=
  ⟨(hb.cell h.2.2.2).trans h.1, (hb.cell h.2.2.2).trans h.2.1, (hb.cell h.2.2.2).trans h.2.2.1, Nat.lt_of_lt_of_le h.2.2.2 hb.size⟩

theorem regrown6 (w : World) (x y z x' y' z' : Value) :
    (∀ d os, (Sort.grow (redrawn ((w.alloc (.cells #[x, y, z] 23)).alloc (.cells #[x', y', z'] 23)) d) os).cell? ⟨w.heap.size, 0, none⟩ = some x) ∧
    (∀ d os, (Sort.grow (redrawn ((w.alloc (.cells #[x, y, z] 23)).alloc (.cells #[x', y', z'] 23)) d) os).cell? ⟨w.heap.size, 1, none⟩ = some y) ∧
    (∀ d os, (Sort.grow (redrawn ((w.alloc (.cells #[x, y, z] 23)).alloc (.cells #[x', y', z'] 23)) d) os).cell? ⟨w.heap.size, 2, none⟩ = some z) ∧
    (∀ d os, (Sort.grow (redrawn ((w.alloc (.cells #[x, y, z] 23)).alloc (.cells #[x', y', z'] 23)) d) os).cell? ⟨w.heap.size + 1, 0, none⟩ = some x') ∧
    (∀ d os, (Sort.grow (redrawn ((w.alloc (.cells #[x, y, z] 23)).alloc (.cells #[x', y', z'] 23)) d) os).cell? ⟨w.heap.size + 1, 1, none⟩ = some y') ∧
    (∀ d os, (Sort.grow (redrawn ((w.alloc (.cells #[x, y, z] 23)).alloc (.cells #[x', y', z'] 23)) d) os).cell? ⟨w.heap.size + 1, 2, none⟩ = some z') :=
  ⟨cell_regrown (by simp [go_sem]), cell_regrown (by simp [go_sem]), cell_regrown (by simp [go_sem]), cell_regrown (by simp [go_sem]), cell_regrown (by simp [go_sem]), cell_regrown (by simp [go_sem])⟩

/-- Is one better than another one? -/
def betterB (b d h b' d' h' : Int) : Bool := decide (ofI b d h < ofI b' d' h' ∨ ofI b d h = ofI b' d' h' ∧ h < h')

set_option maxHeartbeats 1000000 in
theorem better_any (b d h b' d' h' : Int) (w : World) {v : Bool} (hv : betterB b d h b' d' h' = v) :
    Calls Try.prog 20 #[.agg #[.int .i64 b, .int .i64 d, .int .i64 h], .agg #[.int .i64 b', .int .i64 d', .int .i64 h']] w fun e w' => e = .returned (.bool v) ∧ Below w.heap.size w w' := by
  subst hv
  obtain ⟨x, hx⟩ : ∃ x, ofI b d h = x := ⟨_, rfl⟩
  obtain ⟨y, hy⟩ : ∃ y, ofI b' d' h' = y := ⟨_, rfl⟩
  have HB : Hid (betterB b d h b' d' h' = decide (x < y ∨ x = y ∧ h < h')) := by unfold Hid betterB; rw [hx, hy]
  have HX : Hid (ofI b d h = x) := hx
  have HY : Hid (ofI b' d' h' = y) := hy
  clear hx hy
  obtain ⟨m0, m1, m2, m3, m4, m5⟩ := regrown6 w (.int .i64 b) (.int .i64 d) (.int .i64 h) (.int .i64 b') (.int .i64 d') (.int .i64 h')
  have hc : (x < y) ∨ (¬ x < y ∧ (x == y) = false) ∨ (¬ x < y ∧ (x == y) = true) := by
    rcases Int.lt_trichotomy x y with h1 | h1 | h1
    · exact .inl h1
    · exact .inr (.inr ⟨by omega, by simp [h1]⟩)
    · exact .inr (.inl ⟨by omega, by simp; omega⟩)
  rcases hc with h1 | ⟨h1, h2⟩ | ⟨h1, h2⟩
  all_goals
    go_enter Try.func20, Try.ntmps20
    go_wp2
    refine wp_region_quiet_below (by kernel_rfl) (by kernel_rfl) ?_
    repeat (go_big_quiet_step (first
      | (go_at_call_of 18 (Value.agg #[Value.int IntKind.i64 b, Value.int IntKind.i64 d, Value.int IntKind.i64 h]); exact Calls.regrown_of (of_any b d h _ HX.out))
      | (go_at_call_of 18 (Value.agg #[Value.int IntKind.i64 b', Value.int IntKind.i64 d', Value.int IntKind.i64 h']); exact Calls.regrown_of (of_any b' d' h' _ HY.out))))
    refine wpQuiet_nil ?_
    intro _ hw'
    obtain ⟨⟨dq, osq⟩, hw''⟩ := hw'
    subst hw''
    go_wp2
    go_ret
    refine ⟨ret_bool ?_, Below.out2 (below_regrown _ dq osq)⟩
    rw [HB.out]
    simp_all
end Go.Proofs.Ytienmcfmaegenaa
