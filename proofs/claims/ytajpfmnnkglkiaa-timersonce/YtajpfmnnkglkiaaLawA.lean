/- What is asked of the program's timers; the example; the law TimersMoved over it. -/
import Derived.Test.YtajpfmnnkglkiaaTimQ
import Derived.Test.YtajpfmnnkglkiaaTimD
namespace Go.Proofs.Ytajpfmnnkglkiaa
open Go.RowKit

/-- What a call that changes the program's timers leaves. -/
def DoneK (TM : World → (Nat → Prop) → Addr → List Tm → Nat → Prop) (w : World) (B : Nat → Prop) (p : Addr) (L : List Tm) (m : Nat) (x : Int) (e : Ending) (w' : World) : Prop :=
  ∃ B', e = .returned (.int .i64 x) ∧ TM w' B' p L m ∧ (∀ k, B' k → B k ∨ w.heap.size ≤ k) ∧ Keep B w w'
/-- What Due leaves: a row of one's own, of which the timers have no block. -/
def DueK (TM : World → (Nat → Prop) → Addr → List Tm → Nat → Prop) (w : World) (B : Nat → Prop) (p : Addr) (L : List Tm) (m : Nat) (now : Int) (e : Ending) (w' : World) : Prop :=
  ∃ B' ad k cap, e = .returned (.slice ad k cap) ∧ OwnT w' w.heap.size (.slice ad k cap) k (dueL now L) ∧ TM w' B' p (dueR now L) m ∧ (∀ k, B' k → B k ∨ w.heap.size ≤ k) ∧ (∀ k', B' k' → (Value.slice ad k cap).ownBlock ≠ some k') ∧ Keep B w w'
/-- The program's timers at p, with the blocks B of their own, are L; m calls have changed them. -/
structure TimC (TM : World → (Nat → Prop) → Addr → List Tm → Nat → Prop) : Prop where
  keep : ∀ {w w' : World} {B C : Nat → Prop} {p : Addr} {L : List Tm} {m : Nat}, TM w B p L m → Keep C w w' → (∀ k, B k → ¬ C k) → TM w' B p L m
  up : ∀ {w : World} {B : Nat → Prop} {p : Addr} {L : List Tm} {m : Nat}, TM w B p L m → TM w B p L (m + 1)
  lt : ∀ {w : World} {B : Nat → Prop} {p : Addr} {L : List Tm} {m : Nat}, TM w B p L m → ∀ k, B k → k < w.heap.size
  good : ∀ {w : World} {B : Nat → Prop} {p : Addr} {L : List Tm} {m : Nat}, TM w B p L m → GoodT L ∧ Tms L ∧ L.length ≤ m ∧ L.length ≤ 256
  new : ∀ (w : World), Calls Try.prog 9 #[] w fun e w' => ∃ p B, e = .returned (.pointer (some p)) ∧ TM w' B p [] 0 ∧ (∀ k, B k → w.heap.size ≤ k) ∧ Below w.heap.size w w'
  set : ∀ {w : World} {B : Nat → Prop} {p : Addr} {L : List Tm} {m : Nat} (i a : Int), TM w B p L m → m ≤ 2000 → Tm.Ok ⟨i, a⟩ → Calls Try.prog 10 #[.pointer (some p), .int .i64 i, .int .i64 a] w (DoneK TM w B p (setT L i a) (m + 1) (setTX L i a))
  stop : ∀ {w : World} {B : Nat → Prop} {p : Addr} {L : List Tm} {m : Nat} (i : Int), TM w B p L m → m ≤ 2000 → -9223372036854775808 ≤ i → i ≤ 9223372036854775807 → Calls Try.prog 12 #[.pointer (some p), .int .i64 i] w (DoneK TM w B p (stopT L i) (m + 1) (stopTX L i))
  due : ∀ {w : World} {B : Nat → Prop} {p : Addr} {L : List Tm} {m : Nat} (now : Int), TM w B p L m → m ≤ 2000 → -9223372036854775808 ≤ now → now ≤ 9223372036854775807 → Calls Try.prog 15 #[.pointer (some p), .int .i64 now] w (DueK TM w B p L (m + 1) now)
  next : ∀ {w : World} {B : Nat → Prop} {p : Addr} {L : List Tm} {m : Nat}, TM w B p L m → m ≤ 2001 → Calls Try.prog 17 #[.pointer (some p)] w fun e w' => e = .returned (.tuple #[.int .i64 (nextT L), .bool (nextB L)]) ∧ Below w.heap.size w w'
  len : ∀ {w : World} {B : Nat → Prop} {p : Addr} {L : List Tm} {m : Nat}, TM w B p L m → m ≤ 2001 → Calls Try.prog 18 #[.pointer (some p)] w fun e w' => e = .returned (.int .i64 (L.length : Int)) ∧ Below w.heap.size w w'

theorem run_eqT (x y : Tm) (v : Bool) (h : decide (x = y) = v) (W : World) : Sem.run Try.prog (binOp .eql 41 (.agg #[.int .i64 x.i, .int .i64 x.a]) (.agg #[.int .i64 y.i, .int .i64 y.a])) W = .ok (.bool v) W := by
  obtain ⟨i, a⟩ := x
  obtain ⟨j, c⟩ := y
  subst h
  by_cases h1 : i = j
  · subst h1
    by_cases h2 : a = c
    · subst h2; go_simp
    · have h2' : (a == c) = false := beq_eq_false_iff_ne.2 h2
      go_simp
  · have h1' : (i == j) = false := beq_eq_false_iff_ne.2 h1
    go_simp
set_option maxRecDepth 10000 in
theorem run_nilP (p : Addr) (W : World) : (binOp .eql 24 (.pointer (some p)) (.pointer none)).run Try.prog W = .ok (.bool false) W := rfl
set_option maxRecDepth 10000 in
theorem run_nilN (p : Addr) (W : World) : (binOp .neq 24 (.pointer (some p)) (.pointer none)).run Try.prog W = .ok (.bool true) W := rfl
section
variable {TM : World → (Nat → Prop) → Addr → List Tm → Nat → Prop}
theorem TimC.later (C : TimC TM) {w w' : World} {B : Nat → Prop} {p : Addr} {L : List Tm} {m : Nat} (h : TM w B p L m) (hb : Below w.heap.size w w') : TM w' B p L m := C.keep (C := fun _ => False) h (keep_of hb) (fun _ _ h => h)
/-- The program's timers, all of whose blocks are new. -/
structure OneK (TM : World → (Nat → Prop) → Addr → List Tm → Nat → Prop) (w : World) (p : Addr) (L : List Tm) (m : Nat) (B : Nat → Prop) (W : World) : Prop where
  t : TM W B p L m
  d : ∀ k, B k → w.heap.size ≤ k
  b : Below w.heap.size w W
variable {w : World} {p : Addr} {L L2 : List Tm} {m m2 : Nat} {B : Nat → Prop} {W W1 : World} {x : Int} {e : Ending}
theorem OneK.later (C : TimC TM) (h : OneK TM w p L m B W) (hb : Below W.heap.size W W1) : OneK TM w p L m B W1 := ⟨C.later h.t hb, h.d, stp h.b hb⟩
theorem OneK.step (h : OneK TM w p L m B W) (hd : DoneK TM W B p L2 m2 x e W1) : e = .returned (.int .i64 x) ∧ ∃ B1, OneK TM w p L2 m2 B1 W1 := by
  obtain ⟨B1, rfl, h1, h2, h3⟩ := hd
  refine ⟨rfl, B1, h1, fun k hk => ?_, h.b.trans (h3.below (fun i _ hi => h.d i hi) h.b.size)⟩
  rcases h2 k hk with hk | hk
  · exact h.d k hk
  · exact Nat.le_trans h.b.size hk
theorem OneK.dued {now : Int} (h : OneK TM w p L m B W) (hd : DueK TM W B p L m2 now e W1) : ∃ B1 ad k cap, e = .returned (.slice ad k cap) ∧ OneK TM w p (dueR now L) m2 B1 W1 ∧ OwnT W1 W.heap.size (.slice ad k cap) k (dueL now L) ∧ ∀ k', B1 k' → (Value.slice ad k cap).ownBlock ≠ some k' := by
  obtain ⟨B1, ad, k, cap, rfl, own, h1, h2, h4, h3⟩ := hd
  refine ⟨B1, ad, k, cap, rfl, ⟨h1, fun k hk => ?_, h.b.trans (h3.below (fun i _ hi => h.d i hi) h.b.size)⟩, own, h4⟩
  rcases h2 k hk with hk | hk
  · exact h.d k hk
  · exact Nat.le_trans h.b.size hk
theorem OneK.new (h : TM W1 B p [] 0) (hB : ∀ k, B k → W.heap.size ≤ k) (h0 : Below w.heap.size w W) (hb : Below W.heap.size W W1) : OneK TM w p [] 0 B W1 := ⟨h, fun k hk => Nat.le_trans h0.size (hB k hk), stp h0 hb⟩
theorem ex10 : setT [] 1 10 = [⟨1, 10⟩] ∧ setTX [] 1 10 = 0 ∧ setT [⟨1, 10⟩] 2 5 = [⟨2, 5⟩, ⟨1, 10⟩] ∧ setTX [⟨1, 10⟩] 2 5 = 0 ∧ setT [⟨2, 5⟩, ⟨1, 10⟩] 3 10 = [⟨2, 5⟩, ⟨1, 10⟩, ⟨3, 10⟩] ∧ setTX [⟨2, 5⟩, ⟨1, 10⟩] 3 10 = 0 ∧
    dueL 10 [⟨2, 5⟩, ⟨1, 10⟩, ⟨3, 10⟩] = [⟨2, 5⟩, ⟨1, 10⟩, ⟨3, 10⟩] ∧ dueR 10 [⟨2, 5⟩, ⟨1, 10⟩, ⟨3, 10⟩] = [] := by decide
theorem ok10 {i a : Int} (h : -9223372036854775808 ≤ i ∧ i ≤ 9223372036854775807 ∧ -9223372036854775808 ≤ a ∧ a ≤ 9223372036854775807) : Tm.Ok ⟨i, a⟩ := ⟨h.1, h.2.1, h.2.2.1, h.2.2.2⟩
theorem row_of {W : World} {base n cap : Nat} {ad : Option Addr} {L : List Tm} (h : OwnT W base (.slice ad n cap) n L) (hT : Tms L) (h0 : 0 < n) : ∃ g, ad = some ⟨g, 0, none⟩ ∧ ∀ k p, L[k]? = some p → T2 W g (k * 2) p := by
  rcases due_nil_own h with ⟨-, h1, -⟩ | ⟨g, rfl⟩
  · omega
  · refine ⟨g, rfl, fun k p hp => ?_⟩
    obtain ⟨b, off, e, q⟩ := (h.row hT).2.2 k p hp
    simp only [Option.some.injEq, Addr.mk.injEq, and_true] at e
    obtain ⟨rfl, rfl⟩ := e
    simpa using q
set_option maxRecDepth 100000 in
set_option maxHeartbeats 2000000 in
theorem awake_any (C : TimC TM) (w : World) : Calls Try.prog 8 #[] w fun e w' => e = .returned (.bool true) ∧ Below w.heap.size w w' := by
  have HC : Hid (TimC TM) := C
  have HX : Hid (_) := ex10
  have heq := run_eqT ⟨2, 5⟩ ⟨2, 5⟩ true (by decide)
  have HT3 : Hid (Tms [⟨2, 5⟩, ⟨1, 10⟩, ⟨3, 10⟩]) := fun p hp => by
    simp only [List.mem_cons, List.not_mem_nil, or_false] at hp
    rcases hp with rfl | rfl | rfl <;> exact ⟨by decide, by decide, by decide, by decide⟩
  clear C
  go_enter Try.func8, Try.ntmps8
  go_wp2_with (first
    | (go_at_call 9; refine (HC.out.new _).mono ?_; rintro e W1 ⟨p, B, rfl, T1, hB, hb1⟩; have hO := OneK.new (w := w) T1 hB (Below.refl _ _) hb1; have he : ∀ W : World, (binOp .eql 24 (.pointer (some p)) (.pointer none)).run Try.prog W = .ok (.bool false) W := run_nilP _; clear T1 hB hb1)
    | (go_at_call_of 10 (Value.int IntKind.i64 1); refine (HC.out.set 1 10 hO.t (by decide) (ok10 (by decide))).mono ?_; rw [HX.out.1, HX.out.2.1]; intro e W2 hd; obtain ⟨rfl, B2, hO2⟩ := hO.step hd)
    | (go_at_call_of 10 (Value.int IntKind.i64 2); refine (HC.out.set 2 5 hO2.t (by decide) (ok10 (by decide))).mono ?_; rw [HX.out.2.2.1, HX.out.2.2.2.1]; intro e W3 hd; obtain ⟨rfl, B3, hO3⟩ := hO2.step hd)
    | (go_at_call_of 10 (Value.int IntKind.i64 3); refine (HC.out.set 3 10 hO3.t (by decide) (ok10 (by decide))).mono ?_; rw [HX.out.2.2.2.2.1, HX.out.2.2.2.2.2.1]; intro e W4 hd; obtain ⟨rfl, B4, hO4⟩ := hO3.step hd)
    | (go_at_call 15; refine (HC.out.due 10 hO4.t (by decide) (by decide) (by decide)).mono ?_; intro e W5 hd; obtain ⟨B5, ad, k, cap, rfl, hO5, own, -⟩ := hO4.dued hd; rw [HX.out.2.2.2.2.2.2.2] at hO5; rw [HX.out.2.2.2.2.2.2.1] at own; obtain rfl : k = 3 := own.len.symm; obtain ⟨g, rfl, hq⟩ := row_of own HT3.out (by decide); obtain ⟨d0, d1⟩ := hq 0 _ rfl; obtain ⟨f0, f1⟩ := hq 2 _ rfl; simp only [Nat.zero_mul, Nat.zero_add, Nat.reduceMul, Nat.reduceAdd] at d0 d1 f0 f1)
    | (go_at_call 18; refine (HC.out.len hO5.t (by decide)).mono ?_; rintro e W6 ⟨rfl, hb6⟩; have hO6 := hO5.later HC.out hb6))
  go_ret
  exact ⟨rfl, hO6.b⟩
end
end Go.Proofs.Ytajpfmnnkglkiaa
