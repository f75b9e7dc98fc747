/- Contracts of Make, May, Has, Covers, Less and the document's. -/
import Derived.Test.YtapoajplmejjcaaDoorCona
import Derived.Handy
import Derived.Deep.QuietTactic
import Derived.BigQuiet
import Derived.Deep.RegionHeld3
import Derived.Deep.RegionWith
namespace Go.Proofs.YtapoajplmejjcaaDoor
open Go.RowKit

def pfx (a l : Int) : Value := .agg #[.int .u32 a, .int .i64 l]

theorem isLen_any (b : Int) (w : World) {v : Bool} (hv : lenB b = v) :
    Calls Tryd.prog 30 #[.int .i64 b] w fun e w' => e = .returned (.bool v) ∧ w' = w := by
  subst hv
  by_cases h0 : 0 ≤ b <;> by_cases h1 : b ≤ 32
  all_goals
    go_enter Tryd.func30, Tryd.ntmps30
    go_wp2
    go_ret
    exact ⟨ret_bool (by simp [lenB, h0, h1]), rfl⟩

theorem make_ok (a b : Int) (w : World) (ha0 : 0 ≤ a) (ha1 : a < 4294967296) (h0 : 0 ≤ b) (h1 : b ≤ 32) :
    Calls Tryd.prog 12 #[.int .u32 a, .int .i64 b] w fun e w' => e = .returned (.tuple #[.agg #[.int .u32 (andM a b.toNat), .int .i64 b], .int .i64 0]) ∧ w' = w.alloc (.cells #[.int .u32 (andM a b.toNat), .int .i64 b] 24) := by
  have e1 : maskV b = mkI b.toNat := by unfold maskV; rw [cl_of h0 h1]
  have e2 := u32_andM a b.toNat ha0 ha1 (by omega)
  have e3 := lenB_true h0 h1
  go_enter Tryd.func12, Tryd.ntmps12
  go_wp2_with (first
    | (go_at_call 16; refine (mask_any _ _).mono ?_; rintro e w' ⟨rfl, rfl⟩)
    | (go_at_call 30; refine (isLen_any _ _ e3).mono ?_; rintro e w' ⟨rfl, rfl⟩))
  go_returns
  exact ⟨rfl, rfl⟩

theorem bcell {W w1 : World} (hb : Below W.heap.size W w1) : (∀ b o, b < W.heap.size → w1.cell? ⟨b, o, none⟩ = W.cell? ⟨b, o, none⟩) ∧ (∀ b o, b < W.heap.size → w1.frozen? ⟨b, o, none⟩ = W.frozen? ⟨b, o, none⟩) :=
  ⟨fun b o h => hb.cell (p := ⟨b, o, none⟩) h, fun b o h => hb.frozen (p := ⟨b, o, none⟩) h⟩
theorem below_drewN {B : Nat} {a w : World} (h : Below B a w) (n : Nat) : Below B a (w.drewN n) :=
  h.trans ⟨rfl, rfl, rfl, Nat.le_refl _, fun _ _ => rfl⟩
theorem below1 (w : World) (o : Obj) : Below w.heap.size w (w.alloc o) := (Below.refl _ _).alloc (Nat.le_refl _) _
theorem below2 (w : World) (o o' : Obj) : Below w.heap.size w ((w.alloc o).alloc o') := (below1 w o).alloc (by simp) _
theorem below3 (w : World) (o o' o'' : Obj) : Below w.heap.size w (((w.alloc o).alloc o').alloc o'') := (below2 w o o').alloc (by simp; omega) _
/-- What a call left that was handed a world with one block more. -/
theorem Below.out1 {w w' : World} {o : Obj} (h : Below (w.alloc o).heap.size (w.alloc o) w') : Below w.heap.size w w' := (below1 w o).trans (h.mono (by simp))
theorem Below.out2 {w w' : World} {o o' : Obj} (h : Below ((w.alloc o).alloc o').heap.size ((w.alloc o).alloc o') w') : Below w.heap.size w w' := (below2 w o o').trans (h.mono (by simp; omega))

theorem may_in (a l : Int) (w : World) (ha0 : 0 ≤ a) (ha1 : a < 4294967296) (h0 : 0 ≤ l) (h1 : l ≤ 32) :
    Calls Tryd.prog 18 #[.agg #[.int .u32 a, .int .i64 l]] w fun e w' => e = .returned (.bool (mayB a l)) ∧ Below w.heap.size w w' := by
  have e1 : maskV l = mkI l.toNat := by unfold maskV; rw [cl_of h0 h1]
  have e2 := u32_andM a l.toNat ha0 ha1 (by omega)
  have e3 := lenB_true h0 h1
  have HM : Hid (mayB a l = (andM a l.toNat == a)) := by unfold Hid mayB; rw [Bool.eq_iff_iff]; simp [h0, h1]
  go_enter Tryd.func18, Tryd.ntmps18
  go_wp2
  go_quiet ((first
    | (go_at_call 16; exact Calls.quiet_of_same (mask_any _ _))
    | (go_at_call 30; exact Calls.quiet_of_same (isLen_any _ _ e3))))
  go_wp2
  go_ret
  exact ⟨ret_bool HM.out.symm, below_drewN (below1 _ _) _⟩

theorem may_out (a l : Int) (w : World) (h : ¬ (0 ≤ l ∧ l ≤ 32)) :
    Calls Tryd.prog 18 #[.agg #[.int .u32 a, .int .i64 l]] w fun e w' => e = .returned (.bool (mayB a l)) ∧ Below w.heap.size w w' := by
  have e3 := lenB_false h
  have HM : Hid (mayB a l = false) := by unfold Hid mayB; rw [decide_eq_false_iff_not]; exact fun k => h ⟨k.1, k.2.1⟩
  clear h
  go_enter Tryd.func18, Tryd.ntmps18
  go_wp2
  go_quiet ((first
    | (go_at_call 30; exact Calls.quiet_of_same (isLen_any _ _ e3))))
  go_wp2
  go_ret
  exact ⟨ret_bool HM.out.symm, below_drewN (below1 _ _) _⟩

theorem may_any (a l : Int) (w : World) (ha0 : 0 ≤ a) (ha1 : a < 4294967296) {v : Bool} (hv : mayB a l = v) :
    Calls Tryd.prog 18 #[.agg #[.int .u32 a, .int .i64 l]] w fun e w' => e = .returned (.bool v) ∧ Below w.heap.size w w' := by
  subst hv
  by_cases h : 0 ≤ l ∧ l ≤ 32
  · exact may_in a l w ha0 ha1 h.1 h.2
  · exact may_out a l w h

theorem refMay_any (a l : Int) (w : World) (ha0 : 0 ≤ a) (ha1 : a < 4294967296) (hl0 : -9223372036854775808 ≤ l) (hl1 : l ≤ 9223372036854775807) {v : Bool} (hv : mayB a l = v) :
    Calls Tryd.prog 19 #[.agg #[.int .u32 a, .int .i64 l]] w fun e w' => e = .returned (.bool v) ∧ Below w.heap.size w w' := by
  subst hv
  by_cases h0 : 0 ≤ l
  · by_cases h1 : l ≤ 32
    · have e1 : maskV l = mkI l.toNat := by unfold maskV; rw [cl_of h0 h1]
      have e2 := u32_andM a l.toNat ha0 ha1 (by omega)
      have HM : Hid (mayB a l = (andM a l.toNat == a)) := by unfold Hid mayB; rw [Bool.eq_iff_iff]; simp [h0, h1]
      go_enter Tryd.func19, Tryd.ntmps19
      go_wp2
      go_quiet ((first
        | (go_at_call 17; exact Calls.quiet_of_same (refMask_any _ _ hl0 hl1))))
      go_wp2
      go_ret
      exact ⟨ret_bool HM.out.symm, below_drewN (below1 _ _) _⟩
    · have h1' : decide (l ≤ 32) = false := by simpa using h1
      have HM : Hid (mayB a l = false) := by unfold Hid mayB; rw [decide_eq_false_iff_not]; exact fun k => h1 k.2.1
      go_enter Tryd.func19, Tryd.ntmps19
      go_wp2
      go_quiet (fail)
      go_wp2
      go_ret
      exact ⟨ret_bool HM.out.symm, below_drewN (below1 _ _) _⟩
  · have h0' : decide (0 ≤ l) = false := by simpa using h0
    have HM : Hid (mayB a l = false) := by unfold Hid mayB; rw [decide_eq_false_iff_not]; exact fun k => h0 k.1
    go_enter Tryd.func19, Tryd.ntmps19
    go_wp2
    go_quiet (fail)
    go_wp2
    go_ret
    exact ⟨ret_bool HM.out.symm, below_drewN (below1 _ _) _⟩
end Go.Proofs.YtapoajplmejjcaaDoor
