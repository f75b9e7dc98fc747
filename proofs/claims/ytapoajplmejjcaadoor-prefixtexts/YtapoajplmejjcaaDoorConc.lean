/- Contracts of Has, Covers, Less and the document's. -/
import Derived.Test.YtapoajplmejjcaaDoorConb
import Derived.Lib.QuietBelow
namespace Go.Proofs.YtapoajplmejjcaaDoor
open Go.RowKit

theorem may_len {a l : Int} (h : mayB a l = true) : 0 ≤ l ∧ l ≤ 32 := by rw [mayB, decide_eq_true_eq] at h; exact ⟨h.1, h.2.1⟩

theorem cell2_regrown (w : World) (a b : Value) (t : TypeId) :
    (∀ d os, (Sort.grow (redrawn (w.alloc (.cells #[a, b] t)) d) os).cell? ⟨w.heap.size, 0, none⟩ = some a) ∧ (∀ d os, (Sort.grow (redrawn (w.alloc (.cells #[a, b] t)) d) os).cell? ⟨w.heap.size, 1, none⟩ = some b) :=
  ⟨cell_regrown (by simp [go_sem]), cell_regrown (by simp [go_sem])⟩

theorem has_yes (a l x : Int) (w : World) (ha0 : 0 ≤ a) (ha1 : a < 4294967296) (hx0 : 0 ≤ x) (hx1 : x < 4294967296) (hm : mayB a l = true) :
    Calls Tryd.prog 20 #[.agg #[.int .u32 a, .int .i64 l], .int .u32 x] w fun e w' => e = .returned (.bool (hasB a l x)) ∧ Below w.heap.size w w' := by
  have hl := may_len hm
  have e1 : maskV l = mkI l.toNat := by unfold maskV; rw [cl_of hl.1 hl.2]
  have e2 := u32_andM x l.toNat hx0 hx1 (by omega)
  have HM : Hid (hasB a l x = (andM x l.toNat == a)) := by unfold Hid hasB; rw [hm]; rfl
  go_enter Tryd.func20, Tryd.ntmps20
  go_wp2
  go_region_held3 (fun w' => w'.cell? ⟨w.heap.size, 0, none⟩ = some (.int .u32 a) ∧ w'.cell? ⟨w.heap.size, 1, none⟩ = some (.int .i64 l))
    (first | go_keep | (have hk := bcell hb; refine ⟨?_, ?_⟩ <;> simp [hk.1]))
    (first
      | (go_at_call 18; refine (may_any _ _ _ ha0 ha1 hm).mono ?_; rintro e w' ⟨rfl, hb⟩)
      | (go_at_call 16; refine (mask_any _ _).mono ?_; rintro e w' ⟨rfl, rfl⟩))
  go_wp2
  go_ret
  exact ⟨ret_bool HM.out.symm, (below1 _ _).drew.trans (hb.mono (by simp))⟩

theorem has_no (a l x : Int) (w : World) (ha0 : 0 ≤ a) (ha1 : a < 4294967296) (hm : mayB a l = false) :
    Calls Tryd.prog 20 #[.agg #[.int .u32 a, .int .i64 l], .int .u32 x] w fun e w' => e = .returned (.bool (hasB a l x)) ∧ Below w.heap.size w w' := by
  have HM : Hid (hasB a l x = false) := by unfold Hid hasB; rw [hm]; rfl
  have k0 := cell2_regrown w (.int .u32 a) (.int .i64 l) 24
  obtain ⟨k0, k1⟩ := k0
  go_enter Tryd.func20, Tryd.ntmps20
  go_wp2
  refine wp_region_quiet_below (by kernel_rfl) (by kernel_rfl) ?_
  repeat (go_big_quiet_step ((go_at_call 18; exact Calls.regrown_of (may_any _ _ _ ha0 ha1 hm))))
  refine wpQuiet_nil ?_
  intro _ hw'
  obtain ⟨⟨dq, osq⟩, hw''⟩ := hw'
  subst hw''
  go_wp2
  go_ret
  exact ⟨ret_bool HM.out.symm, (below1 _ _).trans ((below_regrown _ dq osq).mono (by simp))⟩

theorem has_any (a l x : Int) (w : World) (ha0 : 0 ≤ a) (ha1 : a < 4294967296) (hx0 : 0 ≤ x) (hx1 : x < 4294967296) {v : Bool} (hv : hasB a l x = v) :
    Calls Tryd.prog 20 #[.agg #[.int .u32 a, .int .i64 l], .int .u32 x] w fun e w' => e = .returned (.bool v) ∧ Below w.heap.size w w' := by
  subst hv
  cases hm : mayB a l
  · exact has_no a l x w ha0 ha1 hm
  · exact has_yes a l x w ha0 ha1 hx0 hx1 hm

theorem refHas_any (a l x : Int) (w : World) (ha0 : 0 ≤ a) (ha1 : a < 4294967296) (hx0 : 0 ≤ x) (hx1 : x < 4294967296) (hl0 : -9223372036854775808 ≤ l) (hl1 : l ≤ 9223372036854775807) {v : Bool} (hv : hasB a l x = v) :
    Calls Tryd.prog 21 #[.agg #[.int .u32 a, .int .i64 l], .int .u32 x] w fun e w' => e = .returned (.bool v) ∧ Below w.heap.size w w' := by
  subst hv
  cases hm : mayB a l
  · have HM : Hid (hasB a l x = false) := by unfold Hid hasB; rw [hm]; rfl
    go_enter Tryd.func21, Tryd.ntmps21
    go_wp2_with (go_at_call 19; refine (refMay_any _ _ _ ha0 ha1 hl0 hl1 hm).mono ?_; rintro e w' ⟨rfl, hb⟩)
    go_quiet (fail)
    go_wp2
    go_ret
    exact ⟨ret_bool HM.out.symm, below_drewN ((below1 _ _).trans (hb.mono (by simp))) _⟩
  · have hl := may_len hm
    have e1 : maskV l = mkI l.toNat := by unfold maskV; rw [cl_of hl.1 hl.2]
    have e2 := u32_andM x l.toNat hx0 hx1 (by omega)
    have HM : Hid (hasB a l x = (andM x l.toNat == a)) := by unfold Hid hasB; rw [hm]; rfl
    go_enter Tryd.func21, Tryd.ntmps21
    go_wp2_with (go_at_call 19; refine (refMay_any _ _ _ ha0 ha1 hl0 hl1 hm).mono ?_; rintro e w' ⟨rfl, hb⟩; obtain ⟨hc, hf⟩ := bcell hb)
    go_quiet ((go_at_call 17; exact Calls.quiet_of_same (refMask_any _ _ hl0 hl1)))
    go_wp2
    go_ret
    exact ⟨ret_bool HM.out.symm, below_drewN ((below1 _ _).trans (hb.mono (by simp))) _⟩

theorem less_any (a l a' l' : Int) (w : World) {v : Bool} (hv : lessB a l a' l' = v) :
    Calls Tryd.prog 24 #[.agg #[.int .u32 a, .int .i64 l], .agg #[.int .u32 a', .int .i64 l']] w fun e w' => e = .returned (.bool v) ∧ Below w.heap.size w w' := by
  subst hv
  by_cases h : a = a'
  · have hb : (a != a') = false := by simp [h]
    have HM : Hid (lessB a l a' l' = decide (l < l')) := by unfold Hid lessB; simp [h]
    clear h
    go_enter Tryd.func24, Tryd.ntmps24
    go_wp2
    go_ret
    exact ⟨ret_bool HM.out.symm, below2 _ _ _⟩
  · have hb : (a != a') = true := by simp [h]
    have HM : Hid (lessB a l a' l' = decide (a < a')) := by unfold Hid lessB; simp [h]
    clear h
    go_enter Tryd.func24, Tryd.ntmps24
    go_wp2
    go_ret
    exact ⟨ret_bool HM.out.symm, below2 _ _ _⟩

theorem refLess_any (a l a' l' : Int) (w : World) {v : Bool} (hv : lessB a l a' l' = v) :
    Calls Tryd.prog 25 #[.agg #[.int .u32 a, .int .i64 l], .agg #[.int .u32 a', .int .i64 l']] w fun e w' => e = .returned (.bool v) ∧ Below w.heap.size w w' := by
  subst hv
  by_cases h0 : a < a'
  · have HM : Hid (lessB a l a' l' = true) := by unfold Hid lessB; simp [h0]
    have hd : decide (a < a') = true := by simp [h0]
    go_enter Tryd.func25, Tryd.ntmps25
    go_wp2
    go_ret
    exact ⟨ret_bool HM.out.symm, below2 _ _ _⟩
  · by_cases h : a = a'
    · have hb : (a == a') = true := by simp [h]
      have hd : decide (a < a') = false := by simpa using h0
      have HM : Hid (lessB a l a' l' = decide (l < l')) := by unfold Hid lessB; simp [h]
      clear h
      go_enter Tryd.func25, Tryd.ntmps25
      go_wp2
      go_ret
      exact ⟨ret_bool HM.out.symm, below2 _ _ _⟩
    · have hb : (a == a') = false := by simp [h]
      have hd : decide (a < a') = false := by simpa using h0
      have HM : Hid (lessB a l a' l' = false) := by unfold Hid lessB; simp [h, h0]
      clear h
      go_enter Tryd.func25, Tryd.ntmps25
      go_wp2
      go_ret
      exact ⟨ret_bool HM.out.symm, below2 _ _ _⟩
end Go.Proofs.YtapoajplmejjcaaDoor
