/- What is asked of the program's filter; the examples; FilterPermits. -/
import Derived.Test.YtmmhnpekbfmonaaFilP
import Derived.Test.YtmmhnpekbfmonaaFilY
namespace Go.Proofs.Ytmmhnpekbfmonaa
open Go.RowKit

structure FilC : Prop where
  may : ∀ (ad : Option Addr) (n cap : Nat) (L : List Ru) (w : World), RowU w ad n L → Calls Try.prog 11 #[.slice ad n cap] w fun e w' => e = .returned (.bool (mayL L)) ∧ Below w.heap.size w w'
  permits : ∀ (ad : Option Addr) (n cap : Nat) (L : List Ru) (qa ql : Int) (t : Nat) (w : World), RowU w ad n L → n ≤ 1000 → U32 qa → I64 ql → t < 65536 →
    Calls Try.prog 9 #[.slice ad n cap, valX qa ql, .int .u16 (t : Int)] w fun e w' => e = .returned (.tuple #[.bool (perB qa ql t L), .int .i64 (perI qa ql t L)]) ∧ Below w.heap.size w w'
theorem newX1 (w : World) (o : Obj) (a l : Int) {W : World} (hb : Below ((w.alloc o).alloc (objX a l)).heap.size ((w.alloc o).alloc (objX a l)) W) : W.cell? ⟨w.heap.size + 1, 0, none⟩ = some (.int .u32 a) ∧ W.cell? ⟨w.heap.size + 1, 1, none⟩ = some (.int .i64 l) :=
  ⟨cell_later hb (by simp [go_sem]), cell_later hb (by simp [go_sem])⟩
def exU : Ru := ⟨true, 167772160, 8, 8, 24, 0, 2⟩
theorem ex13 : perB 167837696 16 4 [exU] = true ∧ perI 167837696 16 4 [exU] = 0 ∧ perB 167837696 16 2 [exU] = false ∧ perI 167837696 16 2 [exU] = -1 ∧ mayL [exU] = true := by decide +kernel
theorem exU_ok : exU.Ok := by constructor <;> decide
set_option maxRecDepth 100000 in
set_option maxHeartbeats 2000000 in
theorem awake_any (C : FilC) (w : World) : Calls Try.prog 8 #[] w fun e w' => e = .returned (.bool true) ∧ Below w.heap.size w w' := by
  have HC : Hid FilC := C
  have HX : Hid (_) := ex13
  have HR : Hid (RowU (w.alloc (objU true 167772160 8 8 24 0 2)) (some ⟨w.heap.size, 0, none⟩) 1 [exU]) := rowU_one (U7.new w true 167772160 8 8 24 0 2) rfl exU_ok
  clear C
  go_enter Try.func8, Try.ntmps8
  go_wp2_with (first
    | (go_at_call_of 9 (Value.int IntKind.u16 4); refine (HC.out.permits _ _ _ [exU] 167837696 16 4 _ (HR.out.later (below1 _ _)) (by decide) ⟨by decide, by decide⟩ ⟨by decide, by decide⟩ (by decide)).mono ?_; rw [HX.out.1, HX.out.2.1]; rintro e W1 ⟨rfl, hb1⟩; obtain ⟨x0, x1⟩ := newX1 w _ 167837696 16 hb1)
    | (go_at_call_of 9 (Value.int IntKind.u16 2); refine (HC.out.permits _ _ _ [exU] 167837696 16 2 _ ((HR.out.later (below1 _ _)).later hb1) (by decide) ⟨by decide, by decide⟩ ⟨by decide, by decide⟩ (by decide)).mono ?_; rw [HX.out.2.2.1, HX.out.2.2.2.1]; rintro e W2 ⟨rfl, hb2⟩)
    | (go_at_call 11; refine (HC.out.may _ _ _ [exU] _ (((HR.out.later (below1 _ _)).later hb1).later hb2)).mono ?_; rw [HX.out.2.2.2.2]; rintro e W3 ⟨rfl, hb3⟩))
  go_ret
  exact ⟨rfl, stp (stp (Below.out2 hb1) hb2) hb3⟩
set_option maxRecDepth 100000 in
set_option maxHeartbeats 2000000 in
theorem law_permits (C : FilC) (ad : Option Addr) (n cap : Nat) (L : List Ru) (qa ql : Int) (t : Nat) (w : World) (hr : RowU w ad n L) (hqa : U32 qa) (hql : I64 ql) (ht : t < 65536) :
    Calls Try.prog 3 #[.slice ad n cap, valX qa ql, .int .u16 (t : Int)] w fun e w' => e = .returned (.bool true) ∧ Below w.heap.size w w' := by
  have HC : Hid FilC := C
  have HR : Hid (RowU (w.alloc (objX qa ql)) ad n L) := hr.later (below1 _ _)
  have HQ : Hid (U32 qa ∧ I64 ql) := ⟨hqa, hql⟩
  obtain ⟨b, hb⟩ : ∃ b, perB qa ql t L = b := ⟨_, rfl⟩
  obtain ⟨i, hi⟩ : ∃ b, perI qa ql t L = b := ⟨_, rfl⟩
  obtain ⟨m, hm⟩ : ∃ b, mayL L = b := ⟨_, rfl⟩
  have HX : Hid (perB qa ql t L = b ∧ perI qa ql t L = i ∧ mayL L = m) := ⟨hb, hi, hm⟩
  clear C hr hqa hql hb hi hm
  by_cases hn : n ≤ 100
  case neg =>
    have hn' : (n : Int) > 100 := by omega
    go_enter Try.func3, Try.ntmps3
    go_wp2_with (go_at_call 8; refine (awake_any HC.out _).mono ?_; rintro e W1 ⟨rfl, hb1⟩)
    go_ret
    exact ⟨rfl, Below.out1 hb1⟩
  have hn' : ¬ (n : Int) > 100 := by omega
  go_enter Try.func3, Try.ntmps3
  go_wp2_with (first
    | (go_at_call 8; refine (awake_any HC.out _).mono ?_; rintro e W1 ⟨rfl, hb1⟩; obtain ⟨x0, x1⟩ := newX w qa ql hb1; have HR1 := HR.out.later hb1; have HB : Hid (Below w.heap.size w W1) := Below.out1 hb1; clear hb1)
    | (go_at_call 9; refine (HC.out.permits _ _ _ L qa ql t _ HR1 (by omega) HQ.out.1 HQ.out.2 ht).mono ?_; rw [HX.out.1, HX.out.2.1]; rintro e W2 ⟨rfl, hb2⟩; have x0 := cell_later hb2 x0; have x1 := cell_later hb2 x1; have HR2 := HR1.later hb2; have HB2 : Hid (Below w.heap.size w W2) := stp HB.out hb2; clear hb2)
    | (go_at_call 10; refine (refPermits_any _ _ _ L qa ql t _ HR2 HQ.out.1 HQ.out.2 ht (by omega) HX.out.1 HX.out.2.1).mono ?_; rintro e W3 ⟨rfl, hb3⟩; have HR3 := HR2.later hb3; have HB3 : Hid (Below w.heap.size w W3) := stp HB2.out hb3; clear hb3)
    | (go_at_call 11; refine (HC.out.may _ _ _ L _ HR3).mono ?_; rw [HX.out.2.2]; rintro e W4 ⟨rfl, hb4⟩; have HR4 := HR3.later hb4; have HB4 : Hid (Below w.heap.size w W4) := stp HB3.out hb4; clear hb4)
    | (go_at_call 12; refine (refMayL_any _ _ _ L _ HR4 HX.out.2.2).mono ?_; rintro e W5 ⟨rfl, hb5⟩; have HB5 : Hid (Below w.heap.size w W5) := stp HB4.out hb5; clear hb5))
  go_ret
  exact ⟨rfl, HB5.out⟩
end Go.Proofs.Ytmmhnpekbfmonaa
