/- Contracts of the plain functions of numbers: Newer, Add, and the document's own. -/
import Derived.Test.YtbbnlkcacpbfdaaChecked
import Derived.WalkKit
import Derived.ProofKit
import Derived.OpenShut
import Derived.Laws.BitsAllLaws
namespace Go.Proofs.Ytbbnlkcacpbfdaa

theorem ret_bool {a b : Bool} (h : a = b) : Ending.returned (.bool a) = .returned (.bool b) := by rw [h]
theorem ret_int {k : IntKind} {a b : Int} (h : a = b) : Ending.returned (.int k a) = .returned (.int k b) := by rw [h]

def newerB (a b : Int) : Bool := decide (0 < (a - b) % 65536 ∧ (a - b) % 65536 < 32768)

theorem newer_any (a b : Int) (w : World) :
    Calls Try.prog 21 #[.int .u16 a, .int .u16 b] w fun e w' => e = .returned (.bool (newerB a b)) ∧ w' = w := by
  go_enter Try.func21, Try.ntmps21
  go_wp2
  all_goals
    go_ret
    refine ⟨ret_bool ?_, rfl⟩
    simp only [newerB, IntKind.wrap_u16] at *
    rw [Bool.eq_iff_iff]
    simp; try omega

theorem refNewer_any (a b : Int) (w : World) :
    Calls Try.prog 22 #[.int .u16 a, .int .u16 b] w fun e w' => e = .returned (.bool (newerB a b)) ∧ w' = w := by
  go_enter Try.func22, Try.ntmps22
  go_wp2
  all_goals
    go_ret
    refine ⟨ret_bool ?_, rfl⟩
    simp only [newerB, IntKind.wrap_u16] at *
    rw [Bool.eq_iff_iff]
    simp; try omega

def addI (a b most : Int) : Int := min (max a 0 + max b 0) (max most 0)

theorem add_any (a b most : Int) (w : World) (ha : (Lit.int .i64 a).wf = true) (hb : (Lit.int .i64 b).wf = true) (hm : (Lit.int .i64 most).wf = true) :
    Calls Try.prog 19 #[.int .i64 a, .int .i64 b, .int .i64 most] w fun e w' => e = .returned (.int .i64 (addI a b most)) ∧ w' = w := by
  have ha' := bounds_i64 ha
  have hb' := bounds_i64 hb
  have hm' := bounds_i64 hm
  clear ha hb hm
  obtain ⟨ha0, ha1⟩ := ha'
  obtain ⟨hb0, hb1⟩ := hb'
  obtain ⟨hm0, hm1⟩ := hm'
  by_cases h1 : a < 0 <;> by_cases h2 : b < 0 <;> by_cases h3 : most < 0
  all_goals
    go_enter Try.func19, Try.ntmps19
    go_wp2
    all_goals
      go_ret
      refine ⟨ret_int ?_, rfl⟩
      unfold addI
      omega

theorem refAdd_any (a b most : Int) (w : World) (ha : (Lit.int .i64 a).wf = true) (hb : (Lit.int .i64 b).wf = true) (hm : (Lit.int .i64 most).wf = true) :
    Calls Try.prog 20 #[.int .i64 a, .int .i64 b, .int .i64 most] w fun e w' => e = .returned (.int .i64 (addI a b most)) ∧ w' = w := by
  have ha' := bounds_i64 ha
  have hb' := bounds_i64 hb
  have hm' := bounds_i64 hm
  clear ha hb hm
  obtain ⟨ha0, ha1⟩ := ha'
  obtain ⟨hb0, hb1⟩ := hb'
  obtain ⟨hm0, hm1⟩ := hm'
  by_cases h1 : a < 0 <;> by_cases h2 : b < 0 <;> by_cases h3 : most < 0
  all_goals
    go_enter Try.func20, Try.ntmps20
    go_wp2
    all_goals
      go_ret
      refine ⟨ret_int ?_, rfl⟩
      unfold addI
      omega
end Go.Proofs.Ytbbnlkcacpbfdaa
