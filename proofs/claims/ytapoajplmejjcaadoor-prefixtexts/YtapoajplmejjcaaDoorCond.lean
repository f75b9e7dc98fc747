/- Contracts of Covers, Make and the document's. -/
import Derived.Test.YtapoajplmejjcaaDoorConc
namespace Go.Proofs.YtapoajplmejjcaaDoor
open Go.RowKit

theorem covers_any (a l a' l' : Int) (w : World) (ha0 : 0 ≤ a) (ha1 : a < 4294967296) (hb0 : 0 ≤ a') (hb1 : a' < 4294967296) {v : Bool} (hv : coversB a l a' l' = v) :
    Calls Tryd.prog 22 #[.agg #[.int .u32 a, .int .i64 l], .agg #[.int .u32 a', .int .i64 l']] w fun e w' => e = .returned (.bool v) ∧ Below w.heap.size w w' := by
  subst hv
  cases hm : mayB a' l'
  · have HM : Hid (coversB a l a' l' = false) := by unfold Hid coversB; rw [hm]; rfl
    go_enter Tryd.func22, Tryd.ntmps22
    go_wp2_with (go_at_call 18; refine (may_any _ _ _ hb0 hb1 hm).mono ?_; rintro e w' ⟨rfl, hb⟩)
    go_ret
    exact ⟨ret_bool HM.out.symm, Below.out2 hb⟩
  · by_cases hl : l ≤ l'
    · have HM : Hid (coversB a l a' l' = hasB a l a') := by unfold Hid coversB; rw [hm]; simp [hl]
      have hd : decide (l ≤ l') = true := by simp [hl]
      go_enter Tryd.func22, Tryd.ntmps22
      go_wp2_with (first
        | (go_at_call 18; refine (may_any _ _ _ hb0 hb1 hm).mono ?_; rintro e w' ⟨rfl, hb⟩; obtain ⟨hc, hf⟩ := bcell hb)
        | (go_at_call 20; refine (has_any _ _ _ _ ha0 ha1 hb0 hb1 rfl).mono ?_; rintro e w'' ⟨rfl, hb'⟩))
      go_ret
      exact ⟨ret_bool HM.out.symm, (Below.out2 hb).trans (hb'.mono (Below.out2 hb).size)⟩
    · have HM : Hid (coversB a l a' l' = false) := by unfold Hid coversB; simp [hl]
      have hd : decide (l ≤ l') = false := by simpa using hl
      go_enter Tryd.func22, Tryd.ntmps22
      go_wp2_with (go_at_call 18; refine (may_any _ _ _ hb0 hb1 hm).mono ?_; rintro e w' ⟨rfl, hb⟩; obtain ⟨hc, hf⟩ := bcell hb)
      go_ret
      exact ⟨ret_bool HM.out.symm, Below.out2 hb⟩

theorem refCovers_any (a l a' l' : Int) (w : World) (ha0 : 0 ≤ a) (ha1 : a < 4294967296) (hb0 : 0 ≤ a') (hb1 : a' < 4294967296) (hl0 : -9223372036854775808 ≤ l) (hl1 : l ≤ 9223372036854775807) (hk0 : -9223372036854775808 ≤ l') (hk1 : l' ≤ 9223372036854775807) {v : Bool} (hv : coversB a l a' l' = v) :
    Calls Tryd.prog 23 #[.agg #[.int .u32 a, .int .i64 l], .agg #[.int .u32 a', .int .i64 l']] w fun e w' => e = .returned (.bool v) ∧ Below w.heap.size w w' := by
  subst hv
  cases hm : mayB a' l'
  all_goals cases hh : hasB a l a'
  all_goals by_cases hl : l ≤ l'
  all_goals
    have HM : Hid (coversB a l a' l' = (mayB a' l' && hasB a l a' && decide (l ≤ l'))) := by unfold Hid coversB; rw [hm, hh]; simp
    rw [hm, hh] at HM
    go_enter Tryd.func23, Tryd.ntmps23
    go_wp2_with (first
      | (go_at_call 19; refine (refMay_any _ _ _ hb0 hb1 hk0 hk1 hm).mono ?_; rintro e w' ⟨rfl, hb⟩; obtain ⟨hc, hf⟩ := bcell hb)
      | (go_at_call 21; refine (refHas_any _ _ _ _ ha0 ha1 hb0 hb1 hl0 hl1 hh).mono ?_; rintro e w'' ⟨rfl, hb'⟩; obtain ⟨hc', hf'⟩ := bcell hb'; have hz : w.heap.size + 1 < w'.heap.size := (by have := hb.size; simp at this; omega); have hz2 : w.heap.size < w'.heap.size := (by omega)))
    go_ret
    exact ⟨ret_bool (by rw [HM.out]; simp [hl]), (Below.out2 hb).trans (hb'.mono (Below.out2 hb).size)⟩

theorem make_no (a b : Int) (w : World) (h : ¬ (0 ≤ b ∧ b ≤ 32)) :
    Calls Tryd.prog 12 #[.int .u32 a, .int .i64 b] w fun e w' => e = .returned (.tuple #[.agg #[.int .u32 0, .int .i64 0], .int .i64 1]) ∧ Below w.heap.size w w' := by
  have e3 := lenB_false h
  clear h
  go_enter Tryd.func12, Tryd.ntmps12
  go_wp2_with (first
    | (go_at_call 30; refine (isLen_any _ _ e3).mono ?_; rintro e w' ⟨rfl, rfl⟩))
  go_returns
  exact ⟨rfl, below1 _ _⟩

theorem refMake_ok (a b : Int) (w : World) (ha0 : 0 ≤ a) (ha1 : a < 4294967296) (h0 : 0 ≤ b) (h1 : b ≤ 32) :
    Calls Tryd.prog 13 #[.int .u32 a, .int .i64 b] w fun e w' => e = .returned (.tuple #[.agg #[.int .u32 (andM a b.toNat), .int .i64 b], .int .i64 0]) ∧ Below w.heap.size w w' := by
  have e1 : maskV b = mkI b.toNat := by unfold maskV; rw [cl_of h0 h1]
  have e2 := u32_andM a b.toNat ha0 ha1 (by omega)
  go_enter Tryd.func13, Tryd.ntmps13
  go_wp2_with (first
    | (go_at_call 17; refine (refMask_any _ _ (by omega) (by omega)).mono ?_; rintro e w' ⟨rfl, rfl⟩))
  go_returns
  exact ⟨rfl, below1 _ _⟩

theorem refMake_no (a b : Int) (w : World) (h : ¬ (0 ≤ b ∧ b ≤ 32)) :
    Calls Tryd.prog 13 #[.int .u32 a, .int .i64 b] w fun e w' => e = .returned (.tuple #[.agg #[.int .u32 0, .int .i64 0], .int .i64 1]) ∧ Below w.heap.size w w' := by
  by_cases h0 : b < 0
  · clear h
    go_enter Tryd.func13, Tryd.ntmps13
    go_wp2
    go_returns
    exact ⟨rfl, below1 _ _⟩
  · have h1 : 32 < b := by omega
    clear h
    go_enter Tryd.func13, Tryd.ntmps13
    go_wp2
    go_returns
    exact ⟨rfl, below1 _ _⟩

/-- Make, and the document's: one answer. -/
def makeA (a b : Int) : Int := if 0 ≤ b ∧ b ≤ 32 then andM a b.toNat else 0
def makeL (b : Int) : Int := if 0 ≤ b ∧ b ≤ 32 then b else 0
def makeE (b : Int) : Int := if 0 ≤ b ∧ b ≤ 32 then 0 else 1
theorem make_any (a b : Int) (w : World) (ha0 : 0 ≤ a) (ha1 : a < 4294967296) :
    Calls Tryd.prog 12 #[.int .u32 a, .int .i64 b] w fun e w' => e = .returned (.tuple #[.agg #[.int .u32 (makeA a b), .int .i64 (makeL b)], .int .i64 (makeE b)]) ∧ Below w.heap.size w w' := by
  by_cases h : 0 ≤ b ∧ b ≤ 32
  · simp only [makeA, makeL, makeE, if_pos h]
    exact (make_ok a b w ha0 ha1 h.1 h.2).mono fun e w' ⟨he, hw⟩ => ⟨he, hw ▸ below1 _ _⟩
  · simp only [makeA, makeL, makeE, if_neg h]
    exact make_no a b w h
theorem refMake_any (a b : Int) (w : World) (ha0 : 0 ≤ a) (ha1 : a < 4294967296) :
    Calls Tryd.prog 13 #[.int .u32 a, .int .i64 b] w fun e w' => e = .returned (.tuple #[.agg #[.int .u32 (makeA a b), .int .i64 (makeL b)], .int .i64 (makeE b)]) ∧ Below w.heap.size w w' := by
  by_cases h : 0 ≤ b ∧ b ≤ 32
  · simp only [makeA, makeL, makeE, if_pos h]
    exact refMake_ok a b w ha0 ha1 h.1 h.2
  · simp only [makeA, makeL, makeE, if_neg h]
    exact refMake_no a b w h
end Go.Proofs.YtapoajplmejjcaaDoor
