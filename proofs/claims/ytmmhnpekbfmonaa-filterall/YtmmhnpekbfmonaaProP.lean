/- Contracts of the program's prefixes and tags. -/
import Derived.Test.YtmmhnpekbfmonaaFilY
import Derived.Test.YtmmhnpekbfmonaaFilP
import Derived.Test.YtmmhnpekbfmonaaRedT
namespace Go.Proofs.Ytmmhnpekbfmonaa
open Go.RowKit

theorem mask_any (b : Int) (w : World) :
    Calls Try.prog 24 #[.int .i64 b] w fun e w' => e = .returned (.int .u32 (maskV b)) ∧ w' = w := by
  go_enter Try.func24, Try.ntmps24
  go_wp2
  all_goals
    go_ret
    refine ⟨ret_int ?_, rfl⟩
  · exact mask_hi (by omega)
  · exact mask_lo (by omega)
  · exact mask_val (by omega) (by omega)
theorem isLen_any (b : Int) (w : World) {v : Bool} (hv : lenB b = v) :
    Calls Try.prog 23 #[.int .i64 b] w fun e w' => e = .returned (.bool v) ∧ w' = w := by
  subst hv
  by_cases h0 : 0 ≤ b <;> by_cases h1 : b ≤ 32
  all_goals
    go_enter Try.func23, Try.ntmps23
    go_wp2
    go_ret
    exact ⟨ret_bool (by simp [lenB, h0, h1]), rfl⟩
theorem may_in (a l : Int) (w : World) (ha0 : 0 ≤ a) (ha1 : a < 4294967296) (h0 : 0 ≤ l) (h1 : l ≤ 32) :
    Calls Try.prog 18 #[.agg #[.int .u32 a, .int .i64 l]] w fun e w' => e = .returned (.bool (mayB a l)) ∧ Below w.heap.size w w' := by
  have e1 : maskV l = mkI l.toNat := by unfold maskV; rw [cl_of h0 h1]
  have e2 := u32_andM a l.toNat ha0 ha1 (by omega)
  have e3 := lenB_true h0 h1
  have HM : Hid (mayB a l = (andM a l.toNat == a)) := by unfold Hid mayB; rw [Bool.eq_iff_iff]; simp [h0, h1]
  go_enter Try.func18, Try.ntmps18
  go_wp2
  go_quiet ((first
    | (go_at_call 24; exact Calls.quiet_of_same (mask_any _ _))
    | (go_at_call 23; exact Calls.quiet_of_same (isLen_any _ _ e3))))
  go_wp2
  go_ret
  exact ⟨ret_bool HM.out.symm, below_drewN (below1 _ _) _⟩
theorem may_out (a l : Int) (w : World) (h : ¬ (0 ≤ l ∧ l ≤ 32)) :
    Calls Try.prog 18 #[.agg #[.int .u32 a, .int .i64 l]] w fun e w' => e = .returned (.bool (mayB a l)) ∧ Below w.heap.size w w' := by
  have e3 := lenB_false h
  have HM : Hid (mayB a l = false) := by unfold Hid mayB; rw [decide_eq_false_iff_not]; exact fun k => h ⟨k.1, k.2.1⟩
  clear h
  go_enter Try.func18, Try.ntmps18
  go_wp2
  go_quiet ((first
    | (go_at_call 23; exact Calls.quiet_of_same (isLen_any _ _ e3))))
  go_wp2
  go_ret
  exact ⟨ret_bool HM.out.symm, below_drewN (below1 _ _) _⟩
theorem may_any (a l : Int) (w : World) (ha0 : 0 ≤ a) (ha1 : a < 4294967296) {v : Bool} (hv : mayB a l = v) :
    Calls Try.prog 18 #[.agg #[.int .u32 a, .int .i64 l]] w fun e w' => e = .returned (.bool v) ∧ Below w.heap.size w w' := by
  subst hv
  by_cases h : 0 ≤ l ∧ l ≤ 32
  · exact may_in a l w ha0 ha1 h.1 h.2
  · exact may_out a l w h
theorem has_yes (a l x : Int) (w : World) (ha0 : 0 ≤ a) (ha1 : a < 4294967296) (hx0 : 0 ≤ x) (hx1 : x < 4294967296) (hm : mayB a l = true) :
    Calls Try.prog 19 #[.agg #[.int .u32 a, .int .i64 l], .int .u32 x] w fun e w' => e = .returned (.bool (hasB a l x)) ∧ Below w.heap.size w w' := by
  have hl := may_len hm
  have e1 : maskV l = mkI l.toNat := by unfold maskV; rw [cl_of hl.1 hl.2]
  have e2 := u32_andM x l.toNat hx0 hx1 (by omega)
  have HM : Hid (hasB a l x = (andM x l.toNat == a)) := by unfold Hid hasB; rw [hm]; rfl
  go_enter Try.func19, Try.ntmps19
  go_wp2
  go_region_held3 (fun w' => w'.cell? ⟨w.heap.size, 0, none⟩ = some (.int .u32 a) ∧ w'.cell? ⟨w.heap.size, 1, none⟩ = some (.int .i64 l))
    (first | go_keep | (have hk := bcell hb; refine ⟨?_, ?_⟩ <;> simp [hk.1]))
    (first
      | (go_at_call 18; refine (may_any _ _ _ ha0 ha1 hm).mono ?_; rintro e w' ⟨rfl, hb⟩)
      | (go_at_call 24; refine (mask_any _ _).mono ?_; rintro e w' ⟨rfl, rfl⟩))
  go_wp2
  go_ret
  exact ⟨ret_bool HM.out.symm, (below1 _ _).drew.trans (hb.mono (by simp))⟩
theorem has_no (a l x : Int) (w : World) (ha0 : 0 ≤ a) (ha1 : a < 4294967296) (hm : mayB a l = false) :
    Calls Try.prog 19 #[.agg #[.int .u32 a, .int .i64 l], .int .u32 x] w fun e w' => e = .returned (.bool (hasB a l x)) ∧ Below w.heap.size w w' := by
  have HM : Hid (hasB a l x = false) := by unfold Hid hasB; rw [hm]; rfl
  have k0 := cell2_regrown w (.int .u32 a) (.int .i64 l) 25
  obtain ⟨k0, k1⟩ := k0
  go_enter Try.func19, Try.ntmps19
  go_wp2
  refine wp_region_quiet_below (by kernel_rfl) (by kernel_rfl) ?_
  repeat (go_big_quiet_step ((go_at_call 18; exact Calls.regrown_of (may_any _ _ _ ha0 ha1 hm))))
  refine wpQuiet_nil ?_
  intro _ hw'
  obtain ⟨⟨dq, osq⟩, hw''⟩ := hw'
  subst hw''
  go_wp2
  go_ret
  exact ⟨ret_bool HM.out.symm, (below1 _ _).trans ((below_regrown _ dq osq).mono (by simp))⟩
theorem has_any (a l x : Int) (w : World) (ha0 : 0 ≤ a) (ha1 : a < 4294967296) (hx0 : 0 ≤ x) (hx1 : x < 4294967296) {v : Bool} (hv : hasB a l x = v) :
    Calls Try.prog 19 #[.agg #[.int .u32 a, .int .i64 l], .int .u32 x] w fun e w' => e = .returned (.bool v) ∧ Below w.heap.size w w' := by
  subst hv
  cases hm : mayB a l
  · exact has_no a l x w ha0 ha1 hm
  · exact has_yes a l x w ha0 ha1 hx0 hx1 hm
theorem covers_any (a l a' l' : Int) (w : World) (ha0 : 0 ≤ a) (ha1 : a < 4294967296) (hb0 : 0 ≤ a') (hb1 : a' < 4294967296) {v : Bool} (hv : coversB a l a' l' = v) :
    Calls Try.prog 13 #[.agg #[.int .u32 a, .int .i64 l], .agg #[.int .u32 a', .int .i64 l']] w fun e w' => e = .returned (.bool v) ∧ Below w.heap.size w w' := by
  subst hv
  cases hm : mayB a' l'
  · have HM : Hid (coversB a l a' l' = false) := by unfold Hid coversB; rw [hm]; rfl
    go_enter Try.func13, Try.ntmps13
    go_wp2_with (go_at_call 18; refine (may_any _ _ _ hb0 hb1 hm).mono ?_; rintro e w' ⟨rfl, hb⟩)
    go_ret
    exact ⟨ret_bool HM.out.symm, Below.out2 hb⟩
  · by_cases hl : l ≤ l'
    · have HM : Hid (coversB a l a' l' = hasB a l a') := by unfold Hid coversB; rw [hm]; simp [hl]
      have hd : decide (l ≤ l') = true := by simp [hl]
      go_enter Try.func13, Try.ntmps13
      go_wp2_with (first
        | (go_at_call 18; refine (may_any _ _ _ hb0 hb1 hm).mono ?_; rintro e w' ⟨rfl, hb⟩; obtain ⟨hc, hf⟩ := bcell hb)
        | (go_at_call 19; refine (has_any _ _ _ _ ha0 ha1 hb0 hb1 rfl).mono ?_; rintro e w'' ⟨rfl, hb'⟩))
      go_ret
      exact ⟨ret_bool HM.out.symm, (Below.out2 hb).trans (hb'.mono (Below.out2 hb).size)⟩
    · have HM : Hid (coversB a l a' l' = false) := by unfold Hid coversB; simp [hl]
      have hd : decide (l ≤ l') = false := by simpa using hl
      go_enter Try.func13, Try.ntmps13
      go_wp2_with (go_at_call 18; refine (may_any _ _ _ hb0 hb1 hm).mono ?_; rintro e w' ⟨rfl, hb⟩; obtain ⟨hc, hf⟩ := bcell hb)
      go_ret
      exact ⟨ret_bool HM.out.symm, Below.out2 hb⟩
theorem within_any (a b : Nat) (w : World) (ha : a < 65536) (hb : b < 65536) {v : Bool} (hv : wit a b = v) :
    Calls Try.prog 14 #[.int .u16 (a : Int), .int .u16 (b : Int)] w fun e w' => e = .returned (.bool v) ∧ w' = w := by
  have hq : (bits .andNot .u16 (a : Int) (b : Int) == 0) = v := by
    rw [u16_andNot_nat a b ha hb, ← hv, Bool.eq_iff_iff, wit]
    simp
  clear hv
  go_enter Try.func14, Try.ntmps14
  go_wp2
  go_ret
  exact ⟨rfl, rfl⟩
end Go.Proofs.Ytmmhnpekbfmonaa
