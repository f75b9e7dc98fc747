/- Contracts of the document's Better, of parts and of Join. -/
import Derived.Test.YtienmcfmaegenaaConb
namespace Go.Proofs.Ytienmcfmaegenaa
open Go.RowKit

theorem refBetter_any (b d h b' d' h' : Int) (w : World) {v : Bool} (hv : betterB b d h b' d' h' = v) :
    Calls Try.prog 21 #[.agg #[.int .i64 b, .int .i64 d, .int .i64 h], .agg #[.int .i64 b', .int .i64 d', .int .i64 h']] w fun e w' => e = .returned (.bool v) ∧ Below w.heap.size w w' := by
  subst hv
  obtain ⟨x, hx⟩ : ∃ x, ofI b d h = x := ⟨_, rfl⟩
  obtain ⟨y, hy⟩ : ∃ y, ofI b' d' h' = y := ⟨_, rfl⟩
  have HB : Hid (betterB b d h b' d' h' = decide (x < y ∨ x = y ∧ h < h')) := by unfold Hid betterB; rw [hx, hy]
  have HX : Hid (ofI b d h = x) := hx
  have HY : Hid (ofI b' d' h' = y) := hy
  clear hx hy
  have hc : (x < y) ∨ (¬ x < y ∧ (x == y) = false) ∨ (¬ x < y ∧ (x == y) = true) := by
    rcases Int.lt_trichotomy x y with h1 | h1 | h1
    · exact .inl h1
    · exact .inr (.inr ⟨by omega, by simp [h1]⟩)
    · exact .inr (.inl ⟨by omega, by simp; omega⟩)
  rcases hc with h1 | ⟨h1, h2⟩ | ⟨h1, h2⟩
  all_goals
    go_enter Try.func21, Try.ntmps21
    go_wp2_with (first
      | (go_at_call_of 19 (Value.agg #[Value.int IntKind.i64 b, Value.int IntKind.i64 d, Value.int IntKind.i64 h]); refine (refOf_any b d h _ HX.out).mono ?_; rintro e w1 ⟨rfl, hb⟩; obtain ⟨⟨c0, c1, c2, z0⟩, ⟨c3, c4, c5, z1⟩⟩ := box2 hb)
      | (go_at_call_of 19 (Value.agg #[Value.int IntKind.i64 b', Value.int IntKind.i64 d', Value.int IntKind.i64 h']); refine (refOf_any b' d' h' _ HY.out).mono ?_; rintro e w2 ⟨rfl, hb2⟩; obtain ⟨e0, e1, e2, y0⟩ := later3 ⟨c0, c1, c2, z0⟩ hb2; obtain ⟨e3, e4, e5, y1⟩ := later3 ⟨c3, c4, c5, z1⟩ hb2))
    go_ret
    refine ⟨ret_bool ?_, stp (Below.out2 hb) hb2⟩
    rw [HB.out]
    simp_all

theorem parts_any (b d h : Int) (w : World) (hd0 : -9223372036854775808 ≤ d) (hd1 : d ≤ 9223372036854775807) (hh0 : -9223372036854775808 ≤ h) (hh1 : h ≤ 9223372036854775807) {x y : Nat} (hx : addI d 0 16777216 = x) (hy : addI h 0 100 = y) :
    Calls Try.prog 25 #[.agg #[.int .i64 b, .int .i64 d, .int .i64 h]] w fun e w' => e = .returned (.complex .f64 (fl x) (fl y)) ∧ Below w.heap.size w w' := by
  have HX : Hid (addI d 0 16777216 = x) := hx
  have HY : Hid (addI h 0 100 = y) := hy
  clear hx hy
  have e1 := ofInt_fl x
  have e2 := ofInt_fl y
  go_enter Try.func25, Try.ntmps25
  go_wp2
  go_quiet ((first
    | (go_at_call_of 26 (Value.int IntKind.i64 d); exact Calls.quiet_of_same (within_any d _ _ hd0 hd1 (by decide) (by decide) HX.out))
    | (go_at_call_of 26 (Value.int IntKind.i64 h); exact Calls.quiet_of_same (within_any h _ _ hh0 hh1 (by decide) (by decide) HY.out))))
  go_wp2
  go_ret
  exact ⟨rfl, below_drewN (below1 _ _) _⟩
end Go.Proofs.Ytienmcfmaegenaa
