/- What is asked of the program's translation; the examples; TransTells. -/
import Derived.Test.YtlpfbmeelacgaaaTraA
namespace Go.Proofs.Ytlpfbmeelacgaaa
open Go.RowKit

structure TraC : Prop where
  may : ∀ (ad : Option Addr) (n cap : Nat) (L : List Ba) (w : World), RowB w ad n L → n ≤ 1000 → Calls Try.prog 10 #[.slice ad n cap] w fun e w' => e = .returned (.bool (bandsB L)) ∧ Below w.heap.size w w'
  to : ∀ (ad : Option Addr) (n cap : Nat) (L : List Ba) (s x : Int) (w : World), RowB w ad n L → n ≤ 1000 → I64 s → I64 x →
    Calls Try.prog 8 #[.slice ad n cap, .int .i64 s, .int .i64 x] w fun e w' => e = .returned (.tuple #[.int .i64 (toV L s x), .bool (toK L s x)]) ∧ Below w.heap.size w w'
def exB : List Ba := [⟨10, 1⟩, ⟨100, 5⟩]
theorem ex14 : toV exB 0 10 = 1 ∧ toK exB 0 10 = true ∧ toV exB 0 11 = 5 ∧ toK exB 0 11 = true ∧ toK exB 0 101 = false ∧ bandsB exB = true := by decide +kernel
theorem exB_ok : Bas exB := fun p hp => by
  simp only [exB, List.mem_cons, List.not_mem_nil, or_false] at hp
  rcases hp with rfl | rfl <;> constructor <;> decide
theorem rowB_ex (w : World) : RowB (w.alloc (.cells #[.int .i64 10, .int .i64 1, .int .i64 100, .int .i64 5] 30)) (some ⟨w.heap.size, 0, none⟩) 2 exB :=
  ⟨rfl, exB_ok, fun i p hp => by
    match i, hp with
    | 0, hp => simp [exB] at hp; subst hp; exact ⟨_, _, rfl, by simp [go_sem], by simp [go_sem]⟩
    | 1, hp => simp [exB] at hp; subst hp; exact ⟨_, _, rfl, by simp [go_sem], by simp [go_sem]⟩
    | i + 2, hp => simp [exB] at hp⟩
set_option maxRecDepth 100000 in
set_option maxHeartbeats 2000000 in
theorem awake_any (C : TraC) (w : World) : Calls Try.prog 7 #[] w fun e w' => e = .returned (.bool true) ∧ Below w.heap.size w w' := by
  have HC : Hid TraC := C
  have HX : Hid (_) := ex14
  have HR : Hid (RowB (w.alloc (.cells #[.int .i64 10, .int .i64 1, .int .i64 100, .int .i64 5] 30)) (some ⟨w.heap.size, 0, none⟩) 2 exB) := rowB_ex w
  clear C
  go_enter Try.func7, Try.ntmps7
  go_wp2_with (first
    | (go_at_call_of 8 (Value.int IntKind.i64 10); refine (HC.out.to _ _ _ exB 0 10 _ HR.out (by decide) ⟨by decide, by decide⟩ ⟨by decide, by decide⟩).mono ?_; rw [HX.out.1, HX.out.2.1]; rintro e W1 ⟨rfl, hb1⟩)
    | (go_at_call_of 8 (Value.int IntKind.i64 11); refine (HC.out.to _ _ _ exB 0 11 _ (HR.out.later hb1) (by decide) ⟨by decide, by decide⟩ ⟨by decide, by decide⟩).mono ?_; rw [HX.out.2.2.1, HX.out.2.2.2.1]; rintro e W2 ⟨rfl, hb2⟩)
    | (go_at_call_of 8 (Value.int IntKind.i64 101); refine (HC.out.to _ _ _ exB 0 101 _ ((HR.out.later hb1).later hb2) (by decide) ⟨by decide, by decide⟩ ⟨by decide, by decide⟩).mono ?_; rw [HX.out.2.2.2.2.1]; rintro e W3 ⟨rfl, hb3⟩)
    | (go_at_call 10; refine (HC.out.may _ _ _ exB _ (((HR.out.later hb1).later hb2).later hb3) (by decide)).mono ?_; rw [HX.out.2.2.2.2.2]; rintro e W4 ⟨rfl, hb4⟩))
  go_ret
  exact ⟨rfl, stp (stp (stp (Below.out1 hb1) hb2) hb3) hb4⟩
set_option maxRecDepth 100000 in
set_option maxHeartbeats 2000000 in
theorem law_tells (C : TraC) (ad : Option Addr) (n cap : Nat) (L : List Ba) (s x : Int) (w : World) (hr : RowB w ad n L) (hs : I64 s) (hx : I64 x) :
    Calls Try.prog 3 #[.slice ad n cap, .int .i64 s, .int .i64 x] w fun e w' => e = .returned (.bool true) ∧ Below w.heap.size w w' := by
  have HC : Hid TraC := C
  have HR : Hid (RowB w ad n L) := hr
  have HS : Hid (I64 s ∧ I64 x) := ⟨hs, hx⟩
  obtain ⟨v, hv⟩ : ∃ v, toV L s x = v := ⟨_, rfl⟩
  obtain ⟨k, hk⟩ : ∃ k, toK L s x = k := ⟨_, rfl⟩
  obtain ⟨m, hm⟩ : ∃ m, bandsB L = m := ⟨_, rfl⟩
  have HX : Hid (toV L s x = v ∧ toK L s x = k ∧ bandsB L = m) := ⟨hv, hk, hm⟩
  clear C hr hs hx hv hk hm
  by_cases hn : n ≤ 100
  case neg =>
    have hn' : (n : Int) > 100 := by omega
    go_enter Try.func3, Try.ntmps3
    go_wp2_with (go_at_call 7; refine (awake_any HC.out _).mono ?_; rintro e W1 ⟨rfl, hb1⟩)
    go_ret
    exact ⟨rfl, hb1⟩
  have hn' : ¬ (n : Int) > 100 := by omega
  go_enter Try.func3, Try.ntmps3
  go_wp2_with (first
    | (go_at_call 7; refine (awake_any HC.out _).mono ?_; rintro e W1 ⟨rfl, hb1⟩; have HR1 := HR.out.later hb1; have HB : Hid (Below w.heap.size w W1) := hb1; clear hb1)
    | (go_at_call 8; refine (HC.out.to _ _ _ L s x _ HR1 (by omega) HS.out.1 HS.out.2).mono ?_; rw [HX.out.1, HX.out.2.1]; rintro e W2 ⟨rfl, hb2⟩; have HR2 := HR1.later hb2; have HB2 : Hid (Below w.heap.size w W2) := stp HB.out hb2; clear hb2)
    | (go_at_call 9; refine (refTo_any _ _ _ L s x _ HR2 (by omega)).mono ?_; rw [HX.out.1, HX.out.2.1]; rintro e W3 ⟨rfl, rfl⟩)
    | (go_at_call 10; refine (HC.out.may _ _ _ L _ HR2 (by omega)).mono ?_; rw [HX.out.2.2]; rintro e W4 ⟨rfl, hb4⟩; have HR4 := HR2.later hb4; have HB4 : Hid (Below w.heap.size w W4) := stp HB2.out hb4; clear hb4)
    | (go_at_call 11; refine (refMayB_any _ _ _ L _ HR4 (by omega) HX.out.2.2).mono ?_; rintro e W5 ⟨rfl, hb5⟩; have HB5 : Hid (Below w.heap.size w W5) := stp HB4.out hb5; clear hb5))
  go_ret
  exact ⟨rfl, HB5.out⟩
end Go.Proofs.Ytlpfbmeelacgaaa
