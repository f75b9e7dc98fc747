/- What is asked of the program's table; the example; the laws RibBetter, RibOrder and RibDepths over it. -/
import Derived.Test.YtcabeclbdjfoaaaRibI
namespace Go.Proofs.Ytcabeclbdjfoaaa
open Go.RowKit

/-- What a call that changes the program's table leaves. -/
def DoneC (RB : World → (Nat → Prop) → Addr → Int → List Rt → Int → Nat → Prop) (w : World) (B : Nat → Prop) (p : Addr) (most : Int) (L : List Rt) (full : Int) (m : Nat) (x : Int) (e : Ending) (w' : World) : Prop :=
  ∃ B', e = .returned (.int .i64 x) ∧ RB w' B' p most L full m ∧ (∀ k, B' k → B k ∨ w.heap.size ≤ k) ∧ Keep B w w'
/-- The program's table at p, with the blocks B of its own, of most, has L; full were refused; m calls have changed it. -/
structure RibC (RB : World → (Nat → Prop) → Addr → Int → List Rt → Int → Nat → Prop) : Prop where
  keep : ∀ {w w' : World} {B C : Nat → Prop} {p : Addr} {most : Int} {L : List Rt} {full : Int} {m : Nat}, RB w B p most L full m → Keep C w w' → (∀ k, B k → ¬ C k) → RB w' B p most L full m
  up : ∀ {w : World} {B : Nat → Prop} {p : Addr} {most : Int} {L : List Rt} {full : Int} {m : Nat}, RB w B p most L full m → RB w B p most L full (m + 1)
  lt : ∀ {w : World} {B : Nat → Prop} {p : Addr} {most : Int} {L : List Rt} {full : Int} {m : Nat}, RB w B p most L full m → ∀ k, B k → k < w.heap.size
  good : ∀ {w : World} {B : Nat → Prop} {p : Addr} {most : Int} {L : List Rt} {full : Int} {m : Nat}, RB w B p most L full m → GoodR L ∧ Rts L ∧ L.length ≤ m ∧ (L.length : Int) ≤ max most 0 ∧ 0 ≤ full ∧ full ≤ (m : Int)
  better : ∀ (x y : Rt) (w : World), x.Ok → y.Ok → Calls Try.prog 13 #[valRt x, valRt y] w fun e w' => e = .returned (.bool (bet x y)) ∧ Below w.heap.size w w'
  new : ∀ (most : Int) (w : World), -9223372036854775808 ≤ most → most ≤ 9223372036854775807 → Calls Try.prog 15 #[.int .i64 most] w fun e w' => ∃ p B, e = .returned (.pointer (some p)) ∧ RB w' B p (min most 64) [] 0 0 ∧ (∀ k, B k → w.heap.size ≤ k) ∧ Below w.heap.size w w'
  put : ∀ {w : World} {B : Nat → Prop} {p : Addr} {most : Int} {L : List Rt} {full : Int} {m : Nat} (x : Rt), RB w B p most L full m → m ≤ 1000 → x.Ok → Calls Try.prog 17 #[.pointer (some p), valRt x] w (DoneC RB w B p most (putR most L x) (fullR most L x full) (m + 1) (putRX most L x))
  take : ∀ {w : World} {B : Nat → Prop} {p : Addr} {most : Int} {L : List Rt} {full : Int} {m : Nat} (a l d : Int), RB w B p most L full m → m ≤ 1000 → 0 ≤ a → a < 4294967296 → -9223372036854775808 ≤ l → l ≤ 9223372036854775807 → -9223372036854775808 ≤ d → d ≤ 9223372036854775807 → Calls Try.prog 19 #[.pointer (some p), valP a l, .int .i64 d] w (DoneC RB w B p most (takeR L ⟨a, l, d⟩) full (m + 1) (takeRX L ⟨a, l, d⟩))
  best : ∀ {w : World} {B : Nat → Prop} {p : Addr} {most : Int} {L : List Rt} {full : Int} {m : Nat} (a l : Int), RB w B p most L full m → m ≤ 2000 → 0 ≤ a → a < 4294967296 → -9223372036854775808 ≤ l → l ≤ 9223372036854775807 → Calls Try.prog 23 #[.pointer (some p), valP a l] w fun e w' => e = .returned (ansR (bestR a l L none)) ∧ Below w.heap.size w w'
  find : ∀ {w : World} {B : Nat → Prop} {p : Addr} {most : Int} {L : List Rt} {full : Int} {m : Nat} (x : Int), RB w B p most L full m → m ≤ 2000 → 0 ≤ x → x < 4294967296 → Calls Try.prog 25 #[.pointer (some p), .int .u32 x] w fun e w' => e = .returned (ansR (findR x L)) ∧ Below w.heap.size w w'
  all : ∀ {w : World} {B : Nat → Prop} {p : Addr} {most : Int} {L : List Rt} {full : Int} {m : Nat}, RB w B p most L full m → m ≤ 2000 → Calls Try.prog 22 #[.pointer (some p)] w fun e w' => ∃ ad n cap, e = .returned (.slice ad n cap) ∧ OwnR w' w.heap.size (.slice ad n cap) n L ∧ Below w.heap.size w w'
  refused : ∀ {w : World} {B : Nat → Prop} {p : Addr} {most : Int} {L : List Rt} {full : Int} {m : Nat}, RB w B p most L full m → m ≤ 2000 → Calls Try.prog 27 #[.pointer (some p)] w fun e w' => e = .returned (.int .i64 full) ∧ Below w.heap.size w w'

set_option maxRecDepth 10000 in
theorem run_nilP (p : Addr) (W : World) : (binOp .eql 32 (.pointer (some p)) (.pointer none)).run Try.prog W = .ok (.bool false) W := rfl
set_option maxRecDepth 10000 in
theorem run_nilN (p : Addr) (W : World) : (binOp .neq 32 (.pointer (some p)) (.pointer none)).run Try.prog W = .ok (.bool true) W := rfl
section
variable {RB : World → (Nat → Prop) → Addr → Int → List Rt → Int → Nat → Prop}
theorem RibC.later (C : RibC RB) {w w' : World} {B : Nat → Prop} {p : Addr} {most : Int} {L : List Rt} {full : Int} {m : Nat} (h : RB w B p most L full m) (hb : Below w.heap.size w w') : RB w' B p most L full m := C.keep (C := fun _ => False) h (keep_of hb) (fun _ _ h => h)
def ex1 : Rt := ⟨0, 0, 0, 120, 5, 0, 0⟩
def ex2 : Rt := ⟨0, 0, 1, 1, 1, 0, 4⟩
theorem ex_put1 : putR 5 [] ex1 = [ex1] ∧ putRX 5 [] ex1 = 0 ∧ fullR 5 [] ex1 0 = 0 := by decide
theorem ex_put2 : putR 5 [ex1] ex2 = [ex1, ex2] ∧ putRX 5 [ex1] ex2 = 0 ∧ fullR 5 [ex1] ex2 0 = 0 := by decide
theorem ex_best : bestR 0 0 [ex1, ex2] none = some ex1 := by decide
theorem ex1_ok : ex1.Ok := ⟨by decide, by decide, by decide, by decide, by decide, by decide, by decide, by decide, by decide, by decide, by decide, by decide, by decide, by decide⟩
theorem ex2_ok : ex2.Ok := ⟨by decide, by decide, by decide, by decide, by decide, by decide, by decide, by decide, by decide, by decide, by decide, by decide, by decide, by decide⟩
set_option maxHeartbeats 1000000 in
theorem awake_any (C : RibC RB) (w : World) : Calls Try.prog 11 #[] w fun e w' => e = .returned (.bool true) ∧ Below w.heap.size w w' := by
  have HC : Hid (RibC RB) := C
  clear C
  have HA : Hid (ansR (bestR 0 0 [ex1, ex2] none) = .tuple #[valR 0 0 0 120 5 0 0, .bool true]) := by unfold Hid; rw [ex_best]; rfl
  have HP1 : Hid (putR 5 [] ex1 = [ex1] ∧ putRX 5 [] ex1 = 0 ∧ fullR 5 [] ex1 0 = 0) := ex_put1
  have HP2 : Hid (putR 5 [ex1] ex2 = [ex1, ex2] ∧ putRX 5 [ex1] ex2 = 0 ∧ fullR 5 [ex1] ex2 0 = 0) := ex_put2
  have HM : Hid ((min (5 : Int) 64) = 5) := by unfold Hid; decide
  have HMk : Hid True := trivial
  go_enter Try.func11, Try.ntmps11
  go_wp2_with (first
    | (go_at_call 15; refine (HC.out.new 5 _ (by decide) (by decide)).mono ?_; rw [HM.out]; rintro e W1 ⟨p, B, rfl, T1, hB, hb1⟩; have he : ∀ W : World, (binOp .eql 32 (.pointer (some p)) (.pointer none)).run Try.prog W = .ok (.bool false) W := run_nilP _)
    | (go_at_call 17; have HMk' := HMk; clear HMk HMk'; refine (HC.out.put ex1 T1 (by decide) ex1_ok).mono ?_; rw [HP1.out.1, HP1.out.2.1, HP1.out.2.2]; rintro e W2 ⟨B2, rfl, T2, hB2, K2⟩)
    | (go_at_call 17; refine (HC.out.put ex2 T2 (by decide) ex2_ok).mono ?_; rw [HP2.out.1, HP2.out.2.1, HP2.out.2.2]; rintro e W3 ⟨B3, rfl, T3, hB3, K3⟩)
    | (go_at_call 23; refine (HC.out.best 0 0 T3 (by decide) (by decide) (by decide) (by decide) (by decide)).mono ?_; rw [HA.out]; rintro e W4 ⟨rfl, hb4⟩; have T4 := HC.out.later T3 hb4)
    | (go_at_call 22; refine (HC.out.all (HC.out.later T4 (below1 _ _)) (by decide)).mono ?_; rintro e W5 ⟨a5, n5, c5, rfl, own5, hb5⟩; obtain rfl : n5 = 2 := own5.len.symm))
  go_ret
  have b2 : Below w.heap.size w W2 := hb1.trans (K2.below (fun i _ h => hB i h) hb1.size)
  have b3 : Below w.heap.size w W3 := b2.trans (K3.below (fun i _ h => by rcases hB2 i h with h | h; exact hB i h; exact Nat.le_trans hb1.size h) b2.size)
  exact ⟨rfl, stp1 (stp b3 hb4) hb5⟩
end
end Go.Proofs.Ytcabeclbdjfoaaa
