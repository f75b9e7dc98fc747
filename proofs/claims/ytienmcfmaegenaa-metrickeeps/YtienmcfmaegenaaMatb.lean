/- What follows of the order of paths: plain mathematics over the answers of Join, Of, Better. -/
import Derived.Test.YtienmcfmaegenaaConf
namespace Go.Proofs.Ytienmcfmaegenaa

theorem better_self (b d h : Int) : betterB b d h b d h = false := by simp [betterB]
theorem better_anti {b d h b' d' h' : Int} (k : betterB b d h b' d' h' = true) : betterB b' d' h' b d h = false := by
  unfold betterB at *; simp only [decide_eq_true_eq, decide_eq_false_iff_not] at *; omega
theorem better_trans {b d h b' d' h' b'' d'' h'' : Int} (k : betterB b d h b' d' h' = true) (k' : betterB b' d' h' b'' d'' h'' = true) : betterB b d h b'' d'' h'' = true := by
  unfold betterB at *; simp only [decide_eq_true_eq] at *; omega

theorem may_iff {b d h : Int} : mayB b d h = true ↔ 1 ≤ b ∧ b ≤ 10000000 ∧ 0 ≤ d ∧ d ≤ 16777216 ∧ 0 ≤ h ∧ h ≤ 100 := by simp [mayB]
theorem reach_iff {b d h : Int} : reachB b d h = true ↔ 1 ≤ b ∧ b ≤ 10000000 ∧ 0 ≤ d ∧ d < 16777216 ∧ 0 ≤ h ∧ h < 100 := by simp [reachB]

theorem join_may {b d h b' d' h' : Int} (m : mayB b d h = true) (m' : mayB b' d' h' = true) : mayB (min b b') (addI d d' 16777216) (addI h h' 100) = true := by
  rw [may_iff] at *; unfold addI; omega
theorem join_reach {b d h b' d' h' : Int} (m : mayB b d h = true) (m' : mayB b' d' h' = true) (r : reachB (min b b') (addI d d' 16777216) (addI h h' 100) = true) : reachB b d h = true ∧ reachB b' d' h' = true := by
  rw [may_iff] at *; rw [reach_iff] at *; rw [reach_iff]; unfold addI at r; omega

/-- A smaller bandwidth gives no smaller part. -/
theorem quo_le {b c : Int} (hb : 1 ≤ b) (h : b ≤ c) : 10000000 / c ≤ 10000000 / b := by
  apply Int.le_ediv_of_mul_le (by omega)
  have h1 : 10000000 / c * c ≤ 10000000 := Int.ediv_mul_le _ (by omega)
  have h2 : 0 ≤ 10000000 / c := Int.ediv_nonneg (by omega) (by omega)
  exact Int.le_trans (Int.mul_le_mul_of_nonneg_left h h2) h1

/-- What is no better in its parts is no better. -/
theorem of_le {b d h b' d' h' : Int} (m : mayB b d h = true) (m' : mayB b' d' h' = true) (e0 : b' ≤ b) (e1 : d ≤ d') (e2 : h ≤ h') : ofI b d h ≤ ofI b' d' h' := by
  rw [may_iff] at *
  cases r' : reachB b' d' h'
  · have e : ofI b' d' h' = 4294967295 := by unfold ofI; rw [r']; rfl
    rw [e]; unfold ofI; split <;> omega
  · have r : reachB b d h = true := by rw [reach_iff] at *; omega
    unfold ofI
    rw [r, r', if_pos rfl, if_pos rfl]
    have := quo_le (b := b') (c := b) (by omega) e0
    omega

theorem join_le {b d h b' d' h' : Int} (m : mayB b d h = true) (m' : mayB b' d' h' = true) :
    ofI b d h ≤ ofI (min b b') (addI d d' 16777216) (addI h h' 100) := by
  have j := join_may m m'
  refine of_le m j ?_ ?_ ?_
  · omega
  · rw [may_iff] at *; unfold addI; omega
  · rw [may_iff] at *; unfold addI; omega

theorem join_not {b d h b' d' h' : Int} (m : mayB b d h = true) (m' : mayB b' d' h' = true) :
    betterB (min b b') (addI d d' 16777216) (addI h h' 100) b d h = false := by
  have l := join_le m m'
  rw [may_iff] at *
  unfold betterB
  simp only [decide_eq_false_iff_not]
  have : h ≤ addI h h' 100 := by unfold addI; omega
  omega

theorem join_worse {b d h b' d' h' : Int} (m : mayB b d h = true) (m' : mayB b' d' h' = true) (r : reachB b d h = true) (hh : h' ≠ 0) :
    betterB b d h (min b b') (addI d d' 16777216) (addI h h' 100) = true := by
  have l := join_le m m'
  rw [may_iff] at *
  rw [reach_iff] at r
  unfold betterB
  simp only [decide_eq_true_eq]
  have : h < addI h h' 100 := by unfold addI; omega
  omega

theorem join_keeps {b d h d' h' x y z : Int} (m : mayB b d h = true) (m' : mayB b d' h' = true) (n : mayB x y z = true) (e1 : d ≤ d') (e2 : h ≤ h') :
    ofI (min b x) (addI d y 16777216) (addI h z 100) ≤ ofI (min b x) (addI d' y 16777216) (addI h' z 100) := by
  refine of_le (join_may m n) (join_may m' n) (by omega) ?_ ?_ <;> unfold addI <;> omega

theorem order_min (a b c : Int) : min (min a b) c = min (min a c) b ∧ min (min a b) c = min a (min b c) := by omega
theorem order_add {a b c m : Int} (_ha : 0 ≤ a) (_hb : 0 ≤ b) (_hc : 0 ≤ c) (_hm : 0 ≤ m) :
    addI (addI a b m) c m = addI (addI a c m) b m ∧ addI (addI a b m) c m = addI a (addI b c m) m := by
  unfold addI; omega
end Go.Proofs.Ytienmcfmaegenaa
