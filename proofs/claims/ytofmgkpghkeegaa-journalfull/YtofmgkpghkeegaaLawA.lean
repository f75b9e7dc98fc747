/- What is asked of the program's journal; the example. -/
import Derived.Test.YtofmgkpghkeegaaJouB
import Derived.Test.YtofmgkpghkeegaaJouP
namespace Go.Proofs.Ytofmgkpghkeegaa
open Go.RowKit

/-- What a call that changes the program's journal leaves. -/
def DoneJ (JM : World → (Nat → Prop) → Addr → Int → List Fc → Nat → Nat → Prop) (w : World) (B : Nat → Prop) (p : Addr) (room : Int) (L : List Fc) (K m : Nat) (e0 : Ending) (e : Ending) (w' : World) : Prop :=
  ∃ B', e = e0 ∧ JM w' B' p room L K m ∧ (∀ k, B' k → B k ∨ w.heap.size ≤ k) ∧ Keep B w w'
def I64 (x : Int) : Prop := -9223372036854775808 ≤ x ∧ x ≤ 9223372036854775807
/-- The program's journal at p, with the blocks B of its own: L is written, the first K are kept; m calls have changed it. -/
structure JouC (JM : World → (Nat → Prop) → Addr → Int → List Fc → Nat → Nat → Prop) : Prop where
  keep : ∀ {w w' : World} {B C : Nat → Prop} {p : Addr} {room : Int} {L : List Fc} {K m : Nat}, JM w B p room L K m → Keep C w w' → (∀ k, B k → ¬ C k) → JM w' B p room L K m
  up : ∀ {w : World} {B : Nat → Prop} {p : Addr} {room : Int} {L : List Fc} {K m : Nat}, JM w B p room L K m → JM w B p room L K (m + 1)
  lt : ∀ {w : World} {B : Nat → Prop} {p : Addr} {room : Int} {L : List Fc} {K m : Nat}, JM w B p room L K m → ∀ k, B k → k < w.heap.size
  good : ∀ {w : World} {B : Nat → Prop} {p : Addr} {room : Int} {L : List Fc} {K m : Nat}, JM w B p room L K m → Fcs L ∧ (∀ f ∈ L, MayF f) ∧ K ≤ L.length ∧ L.length ≤ m ∧ (L.length = 0 ∨ (L.length : Int) ≤ room)
  new : ∀ (w : World) (room : Int), I64 room → Calls Try.prog 10 #[.int .i64 room] w fun e w' => ∃ p B, e = .returned (.pointer (some p)) ∧ JM w' B p room [] 0 0 ∧ (∀ k, B k → w.heap.size ≤ k) ∧ Below w.heap.size w w'
  put : ∀ {w : World} {B : Nat → Prop} {p : Addr} {room : Int} {L : List Fc} {K m : Nat} (k y n : Int), JM w B p room L K m → m ≤ 2000 → Fc.Ok ⟨k, y, n⟩ → Calls Try.prog 11 #[.pointer (some p), .agg #[.int .i64 k, .int .u32 y, .int .u32 n]] w (DoneJ JM w B p room (putJ room L ⟨k, y, n⟩) K (m + 1) (.returned (.int .i64 (putX room L ⟨k, y, n⟩))))
  sync : ∀ {w : World} {B : Nat → Prop} {p : Addr} {room : Int} {L : List Fc} {K m : Nat}, JM w B p room L K m → m ≤ 2000 → Calls Try.prog 13 #[.pointer (some p)] w (DoneJ JM w B p room L L.length (m + 1) (.returned (.tuple #[])))
  crash : ∀ {w : World} {B : Nat → Prop} {p : Addr} {room : Int} {L : List Fc} {K m : Nat} (keep : Int), JM w B p room L K m → m ≤ 2000 → I64 keep → Calls Try.prog 15 #[.pointer (some p), .int .i64 keep] w (DoneJ JM w B p room (crJ L K keep) (crJ L K keep).length (m + 1) (.returned (.tuple #[])))
  pack : ∀ {w : World} {B : Nat → Prop} {p : Addr} {room : Int} {L : List Fc} {K m : Nat}, JM w B p room L K m → m ≤ 2000 → Calls Try.prog 17 #[.pointer (some p)] w (DoneJ JM w B p room (factsJ L) (factsJ L).length (m + 1) (.returned (.tuple #[])))
  get : ∀ {w : World} {B : Nat → Prop} {p : Addr} {room : Int} {L : List Fc} {K m : Nat} (k y : Int), JM w B p room L K m → m ≤ 2001 → I64 k → 0 ≤ y ∧ y ≤ 4294967295 → Calls Try.prog 19 #[.pointer (some p), .int .i64 k, .int .u32 y] w fun e w' => e = .returned (.tuple #[.int .u32 (numF k y L), .bool (isF k y L)]) ∧ Below w.heap.size w w'
  facts : ∀ {w : World} {B : Nat → Prop} {p : Addr} {room : Int} {L : List Fc} {K m : Nat}, JM w B p room L K m → m ≤ 2001 → Calls Try.prog 22 #[.pointer (some p)] w fun e w' => ∃ ad k cap, e = .returned (.slice ad k cap) ∧ OwnF w' w.heap.size (.slice ad k cap) k (factsJ L) ∧ Below w.heap.size w w'
  len : ∀ {w : World} {B : Nat → Prop} {p : Addr} {room : Int} {L : List Fc} {K m : Nat}, JM w B p room L K m → m ≤ 2001 → Calls Try.prog 24 #[.pointer (some p)] w fun e w' => e = .returned (.int .i64 (L.length : Int)) ∧ Below w.heap.size w w'
  bytes : ∀ {w : World} {B : Nat → Prop} {p : Addr} {room : Int} {L : List Fc} {K m : Nat}, JM w B p room L K m → m ≤ 2001 → Calls Try.prog 25 #[.pointer (some p)] w fun e w' => ∃ ad k cap, e = .returned (.slice ad k cap) ∧ Row8 w' ad k (bytesJ L) ∧ Below w.heap.size w w'

set_option maxRecDepth 10000 in
theorem run_nilP (p : Addr) (W : World) : (binOp .eql 24 (.pointer (some p)) (.pointer none)).run Try.prog W = .ok (.bool false) W := rfl
set_option maxRecDepth 10000 in
theorem run_nilN (p : Addr) (W : World) : (binOp .neq 24 (.pointer (some p)) (.pointer none)).run Try.prog W = .ok (.bool true) W := rfl
section
variable {JM : World → (Nat → Prop) → Addr → Int → List Fc → Nat → Nat → Prop}
theorem JouC.later (C : JouC JM) {w w' : World} {B : Nat → Prop} {p : Addr} {room : Int} {L : List Fc} {K m : Nat} (h : JM w B p room L K m) (hb : Below w.heap.size w w') : JM w' B p room L K m := C.keep (C := fun _ => False) h (keep_of hb) (fun _ _ h => h)
/-- The program's journal, all of whose blocks are new. -/
structure OneJ (JM : World → (Nat → Prop) → Addr → Int → List Fc → Nat → Nat → Prop) (w : World) (p : Addr) (room : Int) (L : List Fc) (K m : Nat) (B : Nat → Prop) (W : World) : Prop where
  t : JM W B p room L K m
  d : ∀ k, B k → w.heap.size ≤ k
  b : Below w.heap.size w W
variable {w : World} {p : Addr} {room : Int} {L L2 : List Fc} {K K2 m m2 : Nat} {B : Nat → Prop} {W W1 : World} {e e0 : Ending}
theorem OneJ.later (C : JouC JM) (h : OneJ JM w p room L K m B W) (hb : Below W.heap.size W W1) : OneJ JM w p room L K m B W1 := ⟨C.later h.t hb, h.d, stp h.b hb⟩
theorem OneJ.step (h : OneJ JM w p room L K m B W) (hd : DoneJ JM W B p room L2 K2 m2 e0 e W1) : e = e0 ∧ ∃ B1, OneJ JM w p room L2 K2 m2 B1 W1 := by
  obtain ⟨B1, rfl, h1, h2, h3⟩ := hd
  refine ⟨rfl, B1, h1, fun k hk => ?_, h.b.trans (h3.below (fun i _ hi => h.d i hi) h.b.size)⟩
  rcases h2 k hk with hk | hk
  · exact h.d k hk
  · exact Nat.le_trans h.b.size hk
theorem OneJ.new (h : JM W1 B p room [] 0 0) (hB : ∀ k, B k → W.heap.size ≤ k) (h0 : Below w.heap.size w W) (hb : Below W.heap.size W W1) : OneJ JM w p room [] 0 0 B W1 := ⟨h, fun k hk => Nat.le_trans h0.size (hB k hk), stp h0 hb⟩
theorem OneJ.up (C : JouC JM) (h : OneJ JM w p room L K m B W) : OneJ JM w p room L K (m + 1) B W := ⟨C.up h.t, h.d, h.b⟩
theorem OneJ.upto (C : JouC JM) (h : OneJ JM w p room L K m B W) (hle : m ≤ m2) : OneJ JM w p room L K m2 B W := by
  obtain ⟨d, rfl⟩ : ∃ d, m2 = m + d := ⟨m2 - m, by omega⟩
  clear hle
  induction d with
  | zero => exact h
  | succ d ih => exact ih.up C
theorem ex12 : putX 10 [] ⟨1, 5, 7⟩ = 0 ∧ putJ 10 [] ⟨1, 5, 7⟩ = [⟨1, 5, 7⟩] ∧ putX 10 [⟨1, 5, 7⟩] ⟨1, 5, 9⟩ = 0 ∧ putJ 10 [⟨1, 5, 7⟩] ⟨1, 5, 9⟩ = [⟨1, 5, 7⟩, ⟨1, 5, 9⟩] ∧ crJ [⟨1, 5, 7⟩, ⟨1, 5, 9⟩] 1 11 = [⟨1, 5, 7⟩] ∧ numF 1 5 [⟨1, 5, 7⟩] = 7 ∧ isF 1 5 [⟨1, 5, 7⟩] = true := by decide
theorem ok12 {k y n : Int} (h : I64 k ∧ (0 ≤ y ∧ y ≤ 4294967295) ∧ (0 ≤ n ∧ n ≤ 4294967295)) : Fc.Ok ⟨k, y, n⟩ := ⟨h.1.1, h.1.2, h.2.1.1, h.2.1.2, h.2.2.1, h.2.2.2⟩
theorem i64_of {x : Int} (h : -9223372036854775808 ≤ x ∧ x ≤ 9223372036854775807) : I64 x := h
instance (x : Int) : Decidable (I64 x) := by unfold I64; infer_instance
set_option maxRecDepth 100000 in
set_option maxHeartbeats 2000000 in
theorem awake_any (C : JouC JM) (w : World) : Calls Try.prog 9 #[] w fun e w' => e = .returned (.bool true) ∧ Below w.heap.size w w' := by
  have HC : Hid (JouC JM) := C
  have HX : Hid (_) := ex12
  clear C
  go_enter Try.func9, Try.ntmps9
  go_wp2_with (first
    | (go_at_call 10; refine (HC.out.new _ 10 (by decide)).mono ?_; rintro e W1 ⟨p, B, rfl, T1, hB, hb1⟩; have hO := OneJ.new (w := w) T1 hB (Below.refl _ _) hb1; have he : ∀ W : World, (binOp .eql 24 (.pointer (some p)) (.pointer none)).run Try.prog W = .ok (.bool false) W := run_nilP _; clear T1 hB hb1)
    | (go_at_call_of 11 (Value.int IntKind.u32 7); refine (HC.out.put 1 5 7 hO.t (by decide) (ok12 (by decide))).mono ?_; rw [HX.out.1, HX.out.2.1]; intro e W2 hd; obtain ⟨rfl, B2, hO2⟩ := hO.step hd)
    | (go_at_call 13; refine (HC.out.sync hO2.t (by decide)).mono ?_; intro e W3 hd; obtain ⟨rfl, B3, hO3⟩ := hO2.step hd)
    | (go_at_call_of 11 (Value.int IntKind.u32 9); refine (HC.out.put 1 5 9 hO3.t (by decide) (ok12 (by decide))).mono ?_; rw [HX.out.2.2.1, HX.out.2.2.2.1]; intro e W4 hd; obtain ⟨rfl, B4, hO4⟩ := hO3.step hd)
    | (go_at_call 15; refine (HC.out.crash 11 hO4.t (by decide) (by decide)).mono ?_; rw [show ([⟨1, 5, 7⟩] : List Fc).length = 1 from rfl, HX.out.2.2.2.2.1]; intro e W5 hd; obtain ⟨rfl, B5, hO5⟩ := hO4.step hd)
    | (go_at_call 19; refine (HC.out.get 1 5 hO5.t (by decide) (by decide) (by decide)).mono ?_; rw [HX.out.2.2.2.2.2.1, HX.out.2.2.2.2.2.2]; rintro e W6 ⟨rfl, hb6⟩; have hO6 := hO5.later HC.out hb6)
    | (go_at_call 24; refine (HC.out.len hO6.t (by decide)).mono ?_; rintro e W7 ⟨rfl, hb7⟩; have hO7 := hO6.later HC.out hb7))
  go_ret
  exact ⟨rfl, hO7.b⟩
end
end Go.Proofs.Ytofmgkpghkeegaa
