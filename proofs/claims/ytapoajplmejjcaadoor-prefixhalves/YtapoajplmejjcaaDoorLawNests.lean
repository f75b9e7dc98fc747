/- The walk of the law PrefixNests. -/
import Derived.Test.YtapoajplmejjcaaDoorLawOrders
namespace Go.Proofs.YtapoajplmejjcaaDoor
open Go.RowKit

theorem may_and {a l : Int} (h : mayB a l = true) : andM a l.toNat = a := by rw [mayB, decide_eq_true_eq] at h; exact h.2.2
theorem covers_mk {a l b m : Int} (h1 : mayB a l = true) (h2 : mayB b m = true) (h3 : l ≤ m) (h4 : andM b l.toNat = a) : coversB a l b m = true := by
  simp [coversB, hasB, h1, h2, h3, h4]
theorem has_mk {a l x : Int} (h1 : mayB a l = true) (h4 : andM x l.toNat = a) : hasB a l x = true := by simp [hasB, h1, h4]
theorem has_parts {a l x : Int} (h : hasB a l x = true) : mayB a l = true ∧ andM x l.toNat = a := by simpa [hasB] using h
theorem nest_trans {a l b m c n : Int} (h1 : coversB a l b m = true) (h2 : coversB b m c n = true) : coversB a l c n = true := by
  obtain ⟨p1, p2, p3, p4⟩ := covers_has h1
  obtain ⟨q1, q2, q3, q4⟩ := covers_has h2
  refine covers_mk p1 q2 (by omega) ?_
  rw [← andM_andM c (show l.toNat ≤ m.toNat from by omega), q4, p4]
theorem nest_same {a l b m : Int} (h1 : coversB a l b m = true) (h2 : coversB b m a l = true) : a = b ∧ l = m := by
  obtain ⟨p1, p2, p3, p4⟩ := covers_has h1
  obtain ⟨q1, q2, q3, q4⟩ := covers_has h2
  have e : l = m := by omega
  subst e
  exact ⟨by rw [← p4, may_and p2], rfl⟩
theorem nest_has {a l b m x : Int} (h1 : coversB a l b m = true) (h2 : hasB b m x = true) : hasB a l x = true := by
  obtain ⟨p1, p2, p3, p4⟩ := covers_has h1
  obtain ⟨q1, q2⟩ := has_parts h2
  have := may_len p1
  refine has_mk p1 ?_
  rw [← andM_andM x (show l.toNat ≤ m.toNat from by omega), q2, p4]
theorem nest_both {a l b m x : Int} (h1 : hasB a l x = true) (h2 : hasB b m x = true) : coversB a l b m = true ∨ coversB b m a l = true := by
  obtain ⟨p1, p2⟩ := has_parts h1
  obtain ⟨q1, q2⟩ := has_parts h2
  by_cases h : l ≤ m
  · left
    refine covers_mk p1 q1 h ?_
    rw [← q2, andM_andM x (by omega), p2]
  · right
    refine covers_mk q1 p1 (by omega) ?_
    rw [← p2, andM_andM x (by omega), q2]

set_option maxHeartbeats 4000000 in
theorem nests_no (a l b m c n x : Int) (w : World) (ha0 : 0 ≤ a) (ha1 : a < 4294967296) (hb0 : 0 ≤ b) (hb1 : b < 4294967296) (hc0 : 0 ≤ c) (hc1 : c < 4294967296) (hx0 : 0 ≤ x) (hx1 : x < 4294967296)
    (f1 : coversB a l b m = false) :
    Calls Tryd.prog 7 #[.agg #[.int .u32 a, .int .i64 l], .agg #[.int .u32 b, .int .i64 m], .agg #[.int .u32 c, .int .i64 n], .int .u32 x] w fun e w' => e = .returned (.bool true) ∧ Below w.heap.size w w' := by
  cases f5 : hasB a l x
  · go_enter Tryd.func7, Tryd.ntmps7
    go_wp2_with (first
      | (go_at_call 11; refine (awake_any _).mono ?_; rintro e w1 ⟨rfl, hb⟩; have hB := Below.out3 hb; obtain ⟨hP, hQ, hR⟩ := box3 hb)
      | (go_at_call 22; refine (covers_any _ _ _ _ _ (by assumption) (by assumption) (by assumption) (by assumption) rfl).mono ?_; rintro e w2 ⟨rfl, hb⟩; have hB := stp hB hb; have hP := later2 hP hb; have hQ := later2 hQ hb; have hR := later2 hR hb)
      | (go_at_call 20; refine (has_any _ _ _ _ (by assumption) (by assumption) (by assumption) (by assumption) rfl).mono ?_; rintro e w2 ⟨rfl, hb⟩; have hB := stp hB hb; have hP := later2 hP hb; have hQ := later2 hQ hb; have hR := later2 hR hb))
    go_ret
    exact ⟨rfl, hB⟩
  · cases f6 : hasB b m x
    · go_enter Tryd.func7, Tryd.ntmps7
      go_wp2_with (first
        | (go_at_call 11; refine (awake_any _).mono ?_; rintro e w1 ⟨rfl, hb⟩; have hB := Below.out3 hb; obtain ⟨hP, hQ, hR⟩ := box3 hb)
        | (go_at_call 22; refine (covers_any _ _ _ _ _ (by assumption) (by assumption) (by assumption) (by assumption) rfl).mono ?_; rintro e w2 ⟨rfl, hb⟩; have hB := stp hB hb; have hP := later2 hP hb; have hQ := later2 hQ hb; have hR := later2 hR hb)
        | (go_at_call 20; refine (has_any _ _ _ _ (by assumption) (by assumption) (by assumption) (by assumption) rfl).mono ?_; rintro e w2 ⟨rfl, hb⟩; have hB := stp hB hb; have hP := later2 hP hb; have hQ := later2 hQ hb; have hR := later2 hR hb))
      go_ret
      exact ⟨rfl, hB⟩
    · have f4 : coversB b m a l = true := by
        rcases nest_both f5 f6 with h | h
        · rw [f1] at h; cases h
        · exact h
      go_enter Tryd.func7, Tryd.ntmps7
      go_wp2_with (first
        | (go_at_call 11; refine (awake_any _).mono ?_; rintro e w1 ⟨rfl, hb⟩; have hB := Below.out3 hb; obtain ⟨hP, hQ, hR⟩ := box3 hb)
        | (go_at_call 22; refine (covers_any _ _ _ _ _ (by assumption) (by assumption) (by assumption) (by assumption) rfl).mono ?_; rintro e w2 ⟨rfl, hb⟩; have hB := stp hB hb; have hP := later2 hP hb; have hQ := later2 hQ hb; have hR := later2 hR hb)
        | (go_at_call 20; refine (has_any _ _ _ _ (by assumption) (by assumption) (by assumption) (by assumption) rfl).mono ?_; rintro e w2 ⟨rfl, hb⟩; have hB := stp hB hb; have hP := later2 hP hb; have hQ := later2 hQ hb; have hR := later2 hR hb))
      go_ret
      exact ⟨rfl, hB⟩

set_option maxHeartbeats 8000000 in
theorem nests_yes (a l b m c n x : Int) (w : World) (ha0 : 0 ≤ a) (ha1 : a < 4294967296) (hb0 : 0 ≤ b) (hb1 : b < 4294967296) (hc0 : 0 ≤ c) (hc1 : c < 4294967296) (hx0 : 0 ≤ x) (hx1 : x < 4294967296)
    (f1 : coversB a l b m = true) :
    Calls Tryd.prog 7 #[.agg #[.int .u32 a, .int .i64 l], .agg #[.int .u32 b, .int .i64 m], .agg #[.int .u32 c, .int .i64 n], .int .u32 x] w fun e w' => e = .returned (.bool true) ∧ Below w.heap.size w w' := by
  have h23 : coversB b m c n = false ∨ (coversB b m c n = true ∧ coversB a l c n = true) := by
    cases h : coversB b m c n
    · exact .inl rfl
    · exact .inr ⟨rfl, nest_trans f1 h⟩
  have h56 : (hasB b m x = false ∧ hasB a l x = false) ∨ (hasB b m x = false ∧ hasB a l x = true) ∨ (hasB b m x = true ∧ hasB a l x = true) := by
    cases h : hasB b m x
    · cases hasB a l x <;> simp
    · exact .inr (.inr ⟨rfl, nest_has f1 h⟩)
  cases f4 : coversB b m a l
  · rcases h23 with f2 | ⟨f2, f3⟩
    all_goals rcases h56 with ⟨f6, f5⟩ | ⟨f6, f5⟩ | ⟨f6, f5⟩
    all_goals
      go_enter Tryd.func7, Tryd.ntmps7
      go_wp2_with (first
        | (go_at_call 11; refine (awake_any _).mono ?_; rintro e w1 ⟨rfl, hb⟩; have hB := Below.out3 hb; obtain ⟨hP, hQ, hR⟩ := box3 hb)
        | (go_at_call 22; refine (covers_any _ _ _ _ _ (by assumption) (by assumption) (by assumption) (by assumption) rfl).mono ?_; rintro e w2 ⟨rfl, hb⟩; have hB := stp hB hb; have hP := later2 hP hb; have hQ := later2 hQ hb; have hR := later2 hR hb)
        | (go_at_call 20; refine (has_any _ _ _ _ (by assumption) (by assumption) (by assumption) (by assumption) rfl).mono ?_; rintro e w2 ⟨rfl, hb⟩; have hB := stp hB hb; have hP := later2 hP hb; have hQ := later2 hQ hb; have hR := later2 hR hb))
      go_ret
      exact ⟨rfl, hB⟩
  · obtain ⟨rfl, rfl⟩ := nest_same f1 f4
    rcases h23 with f2 | ⟨f2, f3⟩
    all_goals rcases h56 with ⟨f6, f5⟩ | ⟨f6, f5⟩ | ⟨f6, f5⟩
    all_goals
      go_enter Tryd.func7, Tryd.ntmps7
      go_wp2_with (first
        | (go_at_call 11; refine (awake_any _).mono ?_; rintro e w1 ⟨rfl, hb⟩; have hB := Below.out3 hb; obtain ⟨hP, hQ, hR⟩ := box3 hb)
        | (go_at_call 22; refine (covers_any _ _ _ _ _ (by assumption) (by assumption) (by assumption) (by assumption) rfl).mono ?_; rintro e w2 ⟨rfl, hb⟩; have hB := stp hB hb; have hP := later2 hP hb; have hQ := later2 hQ hb; have hR := later2 hR hb)
        | (go_at_call 20; refine (has_any _ _ _ _ (by assumption) (by assumption) (by assumption) (by assumption) rfl).mono ?_; rintro e w2 ⟨rfl, hb⟩; have hB := stp hB hb; have hP := later2 hP hb; have hQ := later2 hQ hb; have hR := later2 hR hb))
      go_ret
      exact ⟨rfl, hB⟩

theorem law_nests (a l b m c n x : Int) (w : World) (ha0 : 0 ≤ a) (ha1 : a < 4294967296) (hb0 : 0 ≤ b) (hb1 : b < 4294967296) (hc0 : 0 ≤ c) (hc1 : c < 4294967296) (hx0 : 0 ≤ x) (hx1 : x < 4294967296) :
    Calls Tryd.prog 7 #[.agg #[.int .u32 a, .int .i64 l], .agg #[.int .u32 b, .int .i64 m], .agg #[.int .u32 c, .int .i64 n], .int .u32 x] w fun e w' => e = .returned (.bool true) ∧ Below w.heap.size w w' := by
  cases h : coversB a l b m
  · exact nests_no a l b m c n x w ha0 ha1 hb0 hb1 hc0 hc1 hx0 hx1 h
  · exact nests_yes a l b m c n x w ha0 ha1 hb0 hb1 hc0 hc1 hx0 hx1 h
end Go.Proofs.YtapoajplmejjcaaDoor
