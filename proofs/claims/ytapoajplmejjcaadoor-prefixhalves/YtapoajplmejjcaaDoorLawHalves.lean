/- The walk of the law PrefixHalves. -/
import Derived.Test.YtapoajplmejjcaaDoorLawNests
import Derived.Test.YtapoajplmejjcaaDoorMate
namespace Go.Proofs.YtapoajplmejjcaaDoor
open Go.RowKit

theorem may_mk {a l : Int} (h0 : 0 ≤ l) (h1 : l ≤ 32) (h : andM a l.toNat = a) : mayB a l = true := by rw [mayB, decide_eq_true_eq]; exact ⟨h0, h1, h⟩
/-- Who covers whom, and who has what. -/
theorem halves_all {a l x : Int} (ha0 : 0 ≤ a) (ha1 : a < 4294967296) (h0 : 0 ≤ l) (h1 : l < 32) (hm : mayB a l = true) :
    coversB a (l + 1) (a + bitT l) (l + 1) = false ∧ coversB (a + bitT l) (l + 1) a (l + 1) = false ∧ coversB a l a (l + 1) = true ∧ coversB a l (a + bitT l) (l + 1) = true ∧
    hasB a l x = (hasB a (l + 1) x || hasB (a + bitT l) (l + 1) x) ∧ (hasB a (l + 1) x && hasB (a + bitT l) (l + 1) x) = false := by
  obtain ⟨e1, e2, e3, e4, e5⟩ := halves ha0 ha1 h0 h1 hm
  have hT := bitT_pos l
  have m1 : mayB a (l + 1) = true := may_mk (by omega) (by omega) e1
  have m2 : mayB (a + bitT l) (l + 1) = true := may_mk (by omega) (by omega) e2
  have e0 := may_and hm
  refine ⟨?_, ?_, covers_mk hm m1 (by omega) e0, covers_mk hm m2 (by omega) e3, ?_, ?_⟩
  · rw [Bool.eq_false_iff]; intro h; have := (covers_has h).2.2.2; omega
  · rw [Bool.eq_false_iff]; intro h; have := (covers_has h).2.2.2; omega
  · rw [Bool.eq_iff_iff]
    simp only [hasB, hm, m1, m2, Bool.true_and, Bool.or_eq_true, beq_iff_eq]
    have hc : andM x l.toNat = andM x (l + 1).toNat ∨ andM x l.toNat = andM x (l + 1).toNat - bitT l := by
      rw [and_lo x l h0 h1, and_hi x l h0]
      rcases mod_half x (bitT l) hT with h | h <;> omega
    have ha := andM_andM x (show l.toNat ≤ (l + 1).toNat by omega)
    constructor
    · intro h; omega
    · rintro (h | h)
      · rw [← ha, h, e0]
      · rw [← ha, h, e3]
  · simp only [hasB, m1, m2, Bool.true_and]
    rw [Bool.eq_false_iff]
    intro h
    simp only [Bool.and_eq_true, beq_iff_eq] at h
    omega

theorem halves_no (a l x : Int) (w : World) (ha0 : 0 ≤ a) (ha1 : a < 4294967296) (hm : mayB a l = false) :
    Calls Tryd.prog 9 #[.agg #[.int .u32 a, .int .i64 l], .int .u32 x] w fun e w' => e = .returned (.bool true) ∧ Below w.heap.size w w' := by
  go_enter Tryd.func9, Tryd.ntmps9
  go_wp2_with (first
    | (go_at_call 11; refine (awake_any _).mono ?_; rintro e w1 ⟨rfl, hb⟩; obtain ⟨c0, c1, z0⟩ := box1 hb)
    | (go_at_call 18; refine (may_any _ _ _ ha0 ha1 hm).mono ?_; rintro e w2 ⟨rfl, hb2⟩))
  go_ret
  exact ⟨rfl, stp (Below.out1 hb) hb2⟩
theorem halves_32 (a x : Int) (w : World) (ha0 : 0 ≤ a) (ha1 : a < 4294967296) (hm : mayB a 32 = true) :
    Calls Tryd.prog 9 #[.agg #[.int .u32 a, .int .i64 32], .int .u32 x] w fun e w' => e = .returned (.bool true) ∧ Below w.heap.size w w' := by
  go_enter Tryd.func9, Tryd.ntmps9
  go_wp2_with (first
    | (go_at_call 11; refine (awake_any _).mono ?_; rintro e w1 ⟨rfl, hb⟩; obtain ⟨c0, c1, z0⟩ := box1 hb)
    | (go_at_call 18; refine (may_any _ _ _ ha0 ha1 hm).mono ?_; rintro e w2 ⟨rfl, hb2⟩; have hP := later2 ⟨c0, c1, z0⟩ hb2))
  go_ret
  exact ⟨rfl, stp (Below.out1 hb) hb2⟩

set_option maxHeartbeats 4000000 in
theorem halves_in (a l x : Int) (w : World) (ha0 : 0 ≤ a) (ha1 : a < 4294967296) (hx0 : 0 ≤ x) (hx1 : x < 4294967296) (h0 : 0 ≤ l) (h1 : l < 32) (hm : mayB a l = true) (t : Int)
    (ht0 : 0 ≤ a + t) (ht1 : a + t < 4294967296) (hor : bits .or .u32 a t = a + t) (hsh : (2 : Int) ^ (31 - l).toNat % 4294967296 = t)
    (HK : Hid (∀ W, Calls Tryd.prog 12 #[.int .u32 a, .int .i64 (l + 1)] W fun e w' => e = .returned (.tuple #[.agg #[.int .u32 a, .int .i64 (l + 1)], .int .i64 0]) ∧ Below W.heap.size W w'))
    (HR : Hid (∀ W, Calls Tryd.prog 12 #[.int .u32 (a + t), .int .i64 (l + 1)] W fun e w' => e = .returned (.tuple #[.agg #[.int .u32 (a + t), .int .i64 (l + 1)], .int .i64 0]) ∧ Below W.heap.size W w'))
    (f1 : coversB a (l + 1) (a + t) (l + 1) = false) (f2 : coversB (a + t) (l + 1) a (l + 1) = false) (f3 : coversB a l a (l + 1) = true) (f4 : coversB a l (a + t) (l + 1) = true)
    (hv : (hasB a (l + 1) x = true ∧ hasB (a + t) (l + 1) x = false ∧ hasB a l x = true) ∨ (hasB a (l + 1) x = false ∧ hasB (a + t) (l + 1) x = true ∧ hasB a l x = true) ∨ (hasB a (l + 1) x = false ∧ hasB (a + t) (l + 1) x = false ∧ hasB a l x = false)) :
    Calls Tryd.prog 9 #[.agg #[.int .u32 a, .int .i64 l], .int .u32 x] w fun e w' => e = .returned (.bool true) ∧ Below w.heap.size w w' := by
  have hl : (l == 32) = false := by rw [beq_eq_false_iff_ne]; omega
  rcases hv with ⟨g1, g2, g3⟩ | ⟨g1, g2, g3⟩ | ⟨g1, g2, g3⟩
  all_goals
    go_enter Tryd.func9, Tryd.ntmps9
    go_wp2_with (first
      | (go_at_call 11; refine (awake_any _).mono ?_; rintro e w1 ⟨rfl, hb⟩; obtain ⟨c0, c1, z0⟩ := box1 hb; have hB := Below.out1 hb)
      | (go_at_call 18; refine (may_any _ _ _ ha0 ha1 hm).mono ?_; rintro e w2 ⟨rfl, hb2⟩; have hP := later2 ⟨c0, c1, z0⟩ hb2; have hB := stp hB hb2)
      | (go_at_call_of 12 (Value.int IntKind.u32 a); refine (HK.out _).mono ?_; rintro e w3 ⟨rfl, hb3⟩; have hP3 := later2 hP hb3; have hB3 := stp hB hb3)
      | (go_at_call_of 12 (Value.int IntKind.u32 (a + t)); refine (HR.out _).mono ?_; rintro e w4 ⟨rfl, hb4⟩; have hP4 := later2 (alloc2 hP3 (.cells #[.int .u32 a, .int .i64 (l + 1)] 24)) hb4; have hA4 := later2 (new2 w3 (.int .u32 a) (.int .i64 (l + 1)) 24) hb4; have hB4 := stp1 hB3 hb4)
      | (go_at_call 22; refine (covers_any _ _ _ _ _ (by assumption) (by assumption) (by assumption) (by assumption) rfl).mono ?_; rintro e w5 ⟨rfl, hb5⟩
         first
           | (have hBn := stp1 hB4 hb5; have hPn := later2 (alloc2 hP4 (.cells #[.int .u32 (a + t), .int .i64 (l + 1)] 24)) hb5; have hAn := later2 (alloc2 hA4 (.cells #[.int .u32 (a + t), .int .i64 (l + 1)] 24)) hb5; have hNn := later2 (new2 w4 (.int .u32 (a + t)) (.int .i64 (l + 1)) 24) hb5)
           | (have hBn := stp hBn hb5; have hPn := later2 hPn hb5; have hAn := later2 hAn hb5; have hNn := later2 hNn hb5))
      | (go_at_call 20; refine (has_any _ _ _ _ (by assumption) (by assumption) (by assumption) (by assumption) rfl).mono ?_; rintro e w5 ⟨rfl, hb5⟩; have hBn := stp hBn hb5; have hPn := later2 hPn hb5; have hAn := later2 hAn hb5; have hNn := later2 hNn hb5))
    go_ret
    exact ⟨rfl, hBn⟩

theorem law_halves (a l x : Int) (w : World) (ha0 : 0 ≤ a) (ha1 : a < 4294967296) (hx0 : 0 ≤ x) (hx1 : x < 4294967296) :
    Calls Tryd.prog 9 #[.agg #[.int .u32 a, .int .i64 l], .int .u32 x] w fun e w' => e = .returned (.bool true) ∧ Below w.heap.size w w' := by
  cases hm : mayB a l
  · exact halves_no a l x w ha0 ha1 hm
  · have hl := may_len hm
    by_cases h32 : l = 32
    · subst h32
      exact halves_32 a x w ha0 ha1 hm
    · have h1 : l < 32 := by omega
      obtain ⟨e1, e2, e3, e4, e5⟩ := halves ha0 ha1 hl.1 h1 hm
      obtain ⟨f1, f2, f3, f4, f5, f6⟩ := halves_all (x := x) ha0 ha1 hl.1 h1 hm
      have hT := bitT_pos l
      have hsh : (2 : Int) ^ (31 - l).toNat % 4294967296 = bitT l := by
        rw [show (31 - l).toNat = 31 - l.toNat by omega]
        exact bit_shl l.toNat (by omega)
      refine halves_in a l x w ha0 ha1 hx0 hx1 hl.1 h1 hm (bitT l) (by omega) e4 (or_bit ha0 ha1 hl.1 h1 hm) hsh (fun W => ?_) (fun W => ?_) f1 f2 f3 f4 ?_
      · have := make_ok a (l + 1) W ha0 ha1 (by omega) (by omega)
        rw [e1] at this
        exact this.mono fun e w' ⟨he, hw⟩ => ⟨he, hw ▸ below1 _ _⟩
      · have := make_ok (a + bitT l) (l + 1) W (by omega) e4 (by omega) (by omega)
        rw [e2] at this
        exact this.mono fun e w' ⟨he, hw⟩ => ⟨he, hw ▸ below1 _ _⟩
      · rw [f5]
        clear f5
        revert f6
        cases hasB a (l + 1) x <;> cases hasB (a + bitT l) (l + 1) x <;> simp
end Go.Proofs.YtapoajplmejjcaaDoor
