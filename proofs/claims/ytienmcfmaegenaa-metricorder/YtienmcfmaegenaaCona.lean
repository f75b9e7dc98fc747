/- Contracts of the sums of numbers, and of what asks a vector: Add, within, Hops, Cost, May, Reached, and the document's own. -/
import Derived.Test.YtienmcfmaegenaaChecked
import Derived.Test.YtienmcfmaegenaaMath
import Derived.WalkKit
import Derived.ProofKit
import Derived.OpenShut
import Derived.Laws.BitsAllLaws
import Derived.WalkLawsBesides
import Derived.Handy
import Derived.Deep.QuietTactic
import Derived.BigQuiet
import Derived.Deep.RegionHeld3
import Derived.Deep.RegionWith
import Derived.Lib.QuietBelow
namespace Go.Proofs.Ytienmcfmaegenaa
open Go.RowKit

theorem ret_bool {a b : Bool} (h : a = b) : Ending.returned (.bool a) = .returned (.bool b) := by rw [h]
theorem ret_int {k : IntKind} {a b : Int} (h : a = b) : Ending.returned (.int k a) = .returned (.int k b) := by rw [h]

def addI (a b most : Int) : Int := min (max a 0 + max b 0) (max most 0)

theorem add_any (a b most : Int) (w : World) (ha0 : -9223372036854775808 ≤ a) (ha1 : a ≤ 9223372036854775807) (hb0 : -9223372036854775808 ≤ b) (hb1 : b ≤ 9223372036854775807) (hm0 : -9223372036854775808 ≤ most) (hm1 : most ≤ 9223372036854775807) {v : Int} (hv : addI a b most = v) :
    Calls Try.prog 27 #[.int .i64 a, .int .i64 b, .int .i64 most] w fun e w' => e = .returned (.int .i64 v) ∧ w' = w := by
  subst hv
  by_cases h1 : a < 0 <;> by_cases h2 : b < 0 <;> by_cases h3 : most < 0
  all_goals
    go_enter Try.func27, Try.ntmps27
    go_wp2
    all_goals
      go_ret
      refine ⟨ret_int ?_, rfl⟩
      unfold addI
      omega

theorem refAdd_any (a b most : Int) (w : World) (ha0 : -9223372036854775808 ≤ a) (ha1 : a ≤ 9223372036854775807) (hb0 : -9223372036854775808 ≤ b) (hb1 : b ≤ 9223372036854775807) (hm0 : -9223372036854775808 ≤ most) (hm1 : most ≤ 9223372036854775807) {v : Int} (hv : addI a b most = v) :
    Calls Try.prog 23 #[.int .i64 a, .int .i64 b, .int .i64 most] w fun e w' => e = .returned (.int .i64 v) ∧ w' = w := by
  subst hv
  by_cases h1 : a < 0 <;> by_cases h2 : b < 0 <;> by_cases h3 : most < 0
  all_goals
    go_enter Try.func23, Try.ntmps23
    go_wp2
    all_goals
      go_ret
      refine ⟨ret_int ?_, rfl⟩
      unfold addI
      omega

theorem hops_any (a b : Int) (w : World) (ha0 : -9223372036854775808 ≤ a) (ha1 : a ≤ 9223372036854775807) (hb0 : -9223372036854775808 ≤ b) (hb1 : b ≤ 9223372036854775807) {v : Int} (hv : addI a b 16 = v) :
    Calls Try.prog 22 #[.int .i64 a, .int .i64 b] w fun e w' => e = .returned (.int .i64 v) ∧ w' = w := by
  go_enter Try.func22, Try.ntmps22
  go_wp2_with (go_at_call 27; refine (add_any _ _ _ _ ha0 ha1 hb0 hb1 (by decide) (by decide) hv).mono ?_; rintro e w' ⟨rfl, rfl⟩)
  go_ret
  exact ⟨rfl, rfl⟩

theorem cost_any (a b : Int) (w : World) (ha0 : -9223372036854775808 ≤ a) (ha1 : a ≤ 9223372036854775807) (hb0 : -9223372036854775808 ≤ b) (hb1 : b ≤ 9223372036854775807) {v : Int} (hv : addI a b 65535 = v) :
    Calls Try.prog 24 #[.int .i64 a, .int .i64 b] w fun e w' => e = .returned (.int .i64 v) ∧ w' = w := by
  go_enter Try.func24, Try.ntmps24
  go_wp2_with (go_at_call 27; refine (add_any _ _ _ _ ha0 ha1 hb0 hb1 (by decide) (by decide) hv).mono ?_; rintro e w' ⟨rfl, rfl⟩)
  go_ret
  exact ⟨rfl, rfl⟩

theorem within_any (a b : Int) (w : World) (ha0 : -9223372036854775808 ≤ a) (ha1 : a ≤ 9223372036854775807) (hb0 : -9223372036854775808 ≤ b) (hb1 : b ≤ 9223372036854775807) {v : Int} (hv : addI a 0 b = v) :
    Calls Try.prog 26 #[.int .i64 a, .int .i64 b] w fun e w' => e = .returned (.int .i64 v) ∧ w' = w := by
  go_enter Try.func26, Try.ntmps26
  go_wp2_with (go_at_call 27; refine (add_any _ _ _ _ ha0 ha1 (by decide) (by decide) hb0 hb1 hv).mono ?_; rintro e w' ⟨rfl, rfl⟩)
  go_ret
  exact ⟨rfl, rfl⟩

theorem bcell {W w1 : World} (hb : Below W.heap.size W w1) : (∀ b o, b < W.heap.size → w1.cell? ⟨b, o, none⟩ = W.cell? ⟨b, o, none⟩) ∧ (∀ b o, b < W.heap.size → w1.frozen? ⟨b, o, none⟩ = W.frozen? ⟨b, o, none⟩) :=
  ⟨fun b o h => hb.cell (p := ⟨b, o, none⟩) h, fun b o h => hb.frozen (p := ⟨b, o, none⟩) h⟩
theorem below_drewN {B : Nat} {a w : World} (h : Below B a w) (n : Nat) : Below B a (w.drewN n) :=
  h.trans ⟨rfl, rfl, rfl, Nat.le_refl _, fun _ _ => rfl⟩
theorem below1 (w : World) (o : Obj) : Below w.heap.size w (w.alloc o) := (Below.refl _ _).alloc (Nat.le_refl _) _
theorem below2 (w : World) (o o' : Obj) : Below w.heap.size w ((w.alloc o).alloc o') := (below1 w o).alloc (by simp) _
theorem below3 (w : World) (o o' o'' : Obj) : Below w.heap.size w (((w.alloc o).alloc o').alloc o'') := (below2 w o o').alloc (by simp; omega) _
/-- What a call left that was handed a world with one block more. -/
theorem Below.out1 {w w' : World} {o : Obj} (h : Below (w.alloc o).heap.size (w.alloc o) w') : Below w.heap.size w w' := (below1 w o).trans (h.mono (by simp))
theorem Below.out2 {w w' : World} {o o' : Obj} (h : Below ((w.alloc o).alloc o').heap.size ((w.alloc o).alloc o') w') : Below w.heap.size w w' := (below2 w o o').trans (h.mono (by simp; omega))
theorem Below.out3 {w w' : World} {o o' o'' : Obj} (h : Below (((w.alloc o).alloc o').alloc o'').heap.size (((w.alloc o).alloc o').alloc o'') w') : Below w.heap.size w w' := (below3 w o o' o'').trans (h.mono (by simp; omega))
theorem stp {w0 wi w' : World} (hB : Below w0.heap.size w0 wi) (hb : Below wi.heap.size wi w') : Below w0.heap.size w0 w' := hB.trans (hb.mono hB.size)
theorem stp1 {w0 wi w' : World} {o : Obj} (hB : Below w0.heap.size w0 wi) (hb : Below (wi.alloc o).heap.size (wi.alloc o) w') : Below w0.heap.size w0 w' := stp (stp hB (below1 wi o)) hb

/-- May a vector be? -/
def mayB (b d h : Int) : Bool := decide (1 ≤ b ∧ b ≤ 10000000 ∧ 0 ≤ d ∧ d ≤ 16777216 ∧ 0 ≤ h ∧ h ≤ 100)
/-- Is it reached? -/
def reachB (b d h : Int) : Bool := decide (1 ≤ b ∧ b ≤ 10000000 ∧ 0 ≤ d ∧ d < 16777216 ∧ 0 ≤ h ∧ h < 100)

theorem may_any (b d h : Int) (w : World) {v : Bool} (hv : mayB b d h = v) :
    Calls Try.prog 14 #[.agg #[.int .i64 b, .int .i64 d, .int .i64 h]] w fun e w' => e = .returned (.bool v) ∧ Below w.heap.size w w' := by
  subst hv
  go_enter Try.func14, Try.ntmps14
  go_wp2
  all_goals
    go_ret
    refine ⟨ret_bool ?_, below1 _ _⟩
    unfold mayB
    rw [Bool.eq_iff_iff]
    simp; try omega

theorem refMay_any (b d h : Int) (w : World) {v : Bool} (hv : mayB b d h = v) :
    Calls Try.prog 15 #[.agg #[.int .i64 b, .int .i64 d, .int .i64 h]] w fun e w' => e = .returned (.bool v) ∧ Below w.heap.size w w' := by
  subst hv
  go_enter Try.func15, Try.ntmps15
  go_wp2
  all_goals
    go_ret
    refine ⟨ret_bool ?_, below1 _ _⟩
    unfold mayB
    rw [Bool.eq_iff_iff]
    simp; try omega
end Go.Proofs.Ytienmcfmaegenaa
