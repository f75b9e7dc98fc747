/- What is asked of the program's neighbour; the example. -/
import Derived.Test.YtenkghcdhanciaaNegH
namespace Go.Proofs.Ytenkghcdhanciaa
open Go.RowKit

/-- What a call that changes the program's neighbour leaves. -/
def DoneG (TM : World → (Nat → Prop) → Addr → Nh → Prop) (w : World) (B : Nat → Prop) (p : Addr) (s : Nh) (e : Ending) (w' : World) : Prop :=
  ∃ B', e = .returned (.tuple #[]) ∧ TM w' B' p s ∧ (∀ k, B' k → B k ∨ w.heap.size ≤ k) ∧ Keep B w w'
/-- The program's neighbour at p, with the blocks B of its own, is s. -/
structure NegC (TM : World → (Nat → Prop) → Addr → Nh → Prop) : Prop where
  keep : ∀ {w w' : World} {B C : Nat → Prop} {p : Addr} {s : Nh}, TM w B p s → Keep C w w' → (∀ k, B k → ¬ C k) → TM w' B p s
  lt : ∀ {w : World} {B : Nat → Prop} {p : Addr} {s : Nh}, TM w B p s → ∀ k, B k → k < w.heap.size
  good : ∀ {w : World} {B : Nat → Prop} {p : Addr} {s : Nh}, TM w B p s → GoodN s
  new : ∀ (w : World), Calls Try.prog 10 #[] w fun e w' => ∃ p B, e = .returned (.pointer (some p)) ∧ TM w' B p newN ∧ (∀ k, B k → w.heap.size ≤ k) ∧ Below w.heap.size w w'
  hello : ∀ {w : World} {B : Nat → Prop} {p : Addr} {s : Nh} (q : Int), TM w B p s → 0 ≤ q → q < 65536 → Calls Try.prog 12 #[.pointer (some p), .int .u16 q] w (DoneG TM w B p (helloN s q))
  miss : ∀ {w : World} {B : Nat → Prop} {p : Addr} {s : Nh}, TM w B p s → Calls Try.prog 14 #[.pointer (some p)] w (DoneG TM w B p (missN s))
  ihu : ∀ {w : World} {B : Nat → Prop} {p : Addr} {s : Nh} (c : Int), TM w B p s → -9223372036854775808 ≤ c → c ≤ 9223372036854775807 → Calls Try.prog 16 #[.pointer (some p), .int .i64 c] w (DoneG TM w B p (ihuN s c))
  hist : ∀ {w : World} {B : Nat → Prop} {p : Addr} {s : Nh}, TM w B p s → Calls Try.prog 18 #[.pointer (some p)] w fun e w' => e = .returned (.int .u16 (numN s.h)) ∧ Below w.heap.size w w'
  rx : ∀ {w : World} {B : Nat → Prop} {p : Addr} {s : Nh}, TM w B p s → Calls Try.prog 20 #[.pointer (some p)] w fun e w' => e = .returned (.int .i64 (rxN s)) ∧ Below w.heap.size w w'
  cost : ∀ {w : World} {B : Nat → Prop} {p : Addr} {s : Nh}, TM w B p s → Calls Try.prog 22 #[.pointer (some p)] w fun e w' => e = .returned (.int .i64 (costN s)) ∧ Below w.heap.size w w'

set_option maxRecDepth 10000 in
theorem run_nilP (p : Addr) (W : World) : (binOp .eql 24 (.pointer (some p)) (.pointer none)).run Try.prog W = .ok (.bool false) W := rfl
set_option maxRecDepth 10000 in
theorem run_nilN (p : Addr) (W : World) : (binOp .neq 24 (.pointer (some p)) (.pointer none)).run Try.prog W = .ok (.bool true) W := rfl
section
variable {TM : World → (Nat → Prop) → Addr → Nh → Prop}
theorem NegC.later (C : NegC TM) {w w' : World} {B : Nat → Prop} {p : Addr} {s : Nh} (h : TM w B p s) (hb : Below w.heap.size w w') : TM w' B p s := C.keep (C := fun _ => False) h (keep_of hb) (fun _ _ h => h)
/-- The program's neighbour, all of whose blocks are new. -/
structure OneG (TM : World → (Nat → Prop) → Addr → Nh → Prop) (w : World) (p : Addr) (s : Nh) (B : Nat → Prop) (W : World) : Prop where
  t : TM W B p s
  d : ∀ k, B k → w.heap.size ≤ k
  b : Below w.heap.size w W
variable {w : World} {p : Addr} {s s2 : Nh} {B : Nat → Prop} {W W1 : World} {e : Ending}
theorem OneG.later (C : NegC TM) (h : OneG TM w p s B W) (hb : Below W.heap.size W W1) : OneG TM w p s B W1 := ⟨C.later h.t hb, h.d, stp h.b hb⟩
theorem OneG.step (h : OneG TM w p s B W) (hd : DoneG TM W B p s2 e W1) : e = .returned (.tuple #[]) ∧ ∃ B1, OneG TM w p s2 B1 W1 := by
  obtain ⟨B1, rfl, h1, h2, h3⟩ := hd
  refine ⟨rfl, B1, h1, fun k hk => ?_, h.b.trans (h3.below (fun i _ hi => h.d i hi) h.b.size)⟩
  rcases h2 k hk with hk | hk
  · exact h.d k hk
  · exact Nat.le_trans h.b.size hk
theorem OneG.new (h : TM W1 B p newN) (hB : ∀ k, B k → W.heap.size ≤ k) (h0 : Below w.heap.size w W) (hb : Below W.heap.size W W1) : OneG TM w p newN B W1 := ⟨h, fun k hk => Nat.le_trans h0.size (hB k hk), stp h0 hb⟩
def exA : Nh := ihuN (helloN (helloN newN 5) 6) 96
def exB : Nh := missN (missN exA)
theorem ex11 : costN newN = 65535 ∧ costN exA = 96 ∧ numN exA.h = 49152 ∧ costN exB = 65535 ∧ numN exB.h = 12288 := by decide
set_option maxRecDepth 100000 in
set_option maxHeartbeats 2000000 in
theorem awake_any (C : NegC TM) (w : World) : Calls Try.prog 9 #[] w fun e w' => e = .returned (.bool true) ∧ Below w.heap.size w w' := by
  have HC : Hid (NegC TM) := C
  have HX : Hid (_) := ex11
  have HMk : Hid True := trivial
  have HMk2 : Hid True := trivial
  have HMk3 : Hid True := trivial
  clear C
  go_enter Try.func9, Try.ntmps9
  go_wp2_with (first
    | (go_at_call 10; refine (HC.out.new _).mono ?_; rintro e W1 ⟨p, B, rfl, T1, hB, hb1⟩; have hO := OneG.new (w := w) T1 hB (Below.refl _ _) hb1; have he : ∀ W : World, (binOp .eql 24 (.pointer (some p)) (.pointer none)).run Try.prog W = .ok (.bool false) W := run_nilP _; clear T1 hB hb1)
    | (go_at_call 22; have HMk' := HMk; clear HMk HMk'; refine (HC.out.cost hO.t).mono ?_; rw [HX.out.1]; rintro e W2 ⟨rfl, hb2⟩; have hO2 := hO.later HC.out hb2; clear hb2 hO)
    | (go_at_call_of 12 (Value.int IntKind.u16 5); refine (HC.out.hello 5 hO2.t (by decide) (by decide)).mono ?_; intro e W3 hd; obtain ⟨rfl, B3, hO3⟩ := hO2.step hd; clear hd hO2)
    | (go_at_call_of 12 (Value.int IntKind.u16 6); refine (HC.out.hello 6 hO3.t (by decide) (by decide)).mono ?_; intro e W4 hd; obtain ⟨rfl, B4, hO4⟩ := hO3.step hd; clear hd hO3)
    | (go_at_call 16; refine (HC.out.ihu 96 hO4.t (by decide) (by decide)).mono ?_; intro e W5 hd; obtain ⟨rfl, B5, hO5'⟩ := hO4.step hd; have hO5 : OneG TM w p exA B5 W5 := hO5'; clear hd hO4 hO5')
    | (go_at_call 22; refine (HC.out.cost hO5.t).mono ?_; rw [HX.out.2.1]; rintro e W6 ⟨rfl, hb6⟩; have hO6 := hO5.later HC.out hb6; clear hb6 hO5)
    | (go_at_call 18; refine (HC.out.hist hO6.t).mono ?_; rw [HX.out.2.2.1]; rintro e W7 ⟨rfl, hb7⟩; have hO7 := hO6.later HC.out hb7; clear hb7 hO6)
    | (go_at_call 14; refine (HC.out.miss hO7.t).mono ?_; intro e W8 hd; obtain ⟨rfl, B8, hO8⟩ := hO7.step hd; clear hd hO7)
    | (go_at_call 14; refine (HC.out.miss hO8.t).mono ?_; intro e W9 hd; obtain ⟨rfl, B9, hO9'⟩ := hO8.step hd; have hO9 : OneG TM w p exB B9 W9 := hO9'; clear hd hO8 hO9')
    | (go_at_call 22; refine (HC.out.cost hO9.t).mono ?_; rw [HX.out.2.2.2.1]; rintro e W10 ⟨rfl, hb10⟩; have hO10 := hO9.later HC.out hb10; clear hb10 hO9)
    | (go_at_call 18; refine (HC.out.hist hO10.t).mono ?_; rw [HX.out.2.2.2.2]; rintro e W11 ⟨rfl, hb11⟩; have hO11 := hO10.later HC.out hb11; clear hb11))
  go_ret
  exact ⟨rfl, hO11.b⟩
end
theorem u16_wrap (c : Int) : IntKind.u16.wrap c = c % 65536 := by simp [IntKind.wrap, IntKind.signed, IntKind.bits]
theorem ops_tail {W : World} {b o : Nat} {k a : Int} (h : P2 W b o ⟨k, a⟩) : W.cell? ⟨b, o, none⟩ = some (.int .i64 k) ∧ W.cell? ⟨b, o + 1, none⟩ = some (.int .i64 a) := h
section
variable {TM : World → (Nat → Prop) → Addr → Nh → Prop}
set_option maxRecDepth 100000 in
set_option maxHeartbeats 2000000 in
theorem law_twice (C : NegC TM) (ad : Option Addr) (n cap : Nat) (cs : List Op) (seq : Int) (w : World) (hr : RowP w ad n cs) (s0 : 0 ≤ seq) (s1 : seq < 65536) :
    Calls Try.prog 6 #[.slice ad n cap, .int .u16 seq] w fun e w' => e = .returned (.bool true) ∧ Below w.heap.size w w' := by
  have HC : Hid (NegC TM) := C
  have HR : Hid (RowP w ad n cs) := hr
  have HS : Hid (0 ≤ seq ∧ seq < 65536) := ⟨s0, s1⟩
  clear C hr s0 s1
  by_cases hn : n ≤ 200
  case neg =>
    have hn' : (200 : Int) < (n : Int) := by omega
    go_enter Try.func6, Try.ntmps6
    go_wp2_with (first
      | (go_at_call 9; refine (awake_any HC.out _).mono ?_; rintro e W1 ⟨rfl, hb1⟩)
      | (go_at_call 10; refine (HC.out.new _).mono ?_; rintro e W2 ⟨p, B, rfl, T2, hB2, hb2⟩; have he : ∀ W : World, (binOp .eql 24 (.pointer (some p)) (.pointer none)).run Try.prog W = .ok (.bool false) W := run_nilP _; have he' : ∀ W : World, (binOp .neq 24 (.pointer (some p)) (.pointer none)).run Try.prog W = .ok (.bool true) W := run_nilN _))
    go_ret
    exact ⟨rfl, stp hb1 hb2⟩
  have hn' : ¬ (200 : Int) < (n : Int) := by omega
  go_enter Try.func6, Try.ntmps6
  go_wp2_with (first
    | (go_at_call 9; refine (awake_any HC.out _).mono ?_; rintro e W1 ⟨rfl, hb1⟩)
    | (go_at_call 10; refine (HC.out.new _).mono ?_; rintro e W2 ⟨p, B, rfl, T2, hB2, hb2⟩; have hO := OneG.new (w := w) T2 hB2 hb1 hb2; have he : ∀ W : World, (binOp .eql 24 (.pointer (some p)) (.pointer none)).run Try.prog W = .ok (.bool false) W := run_nilP _; clear T2 hB2 hb1 hb2))
  clear he
  go_loopw [7] (fun i_ W => ∃ (j : Nat) (s : Nh) (B : Nat → Prop), j ≤ n ∧ i_ = .int .i64 j ∧ Hid (OneG TM w p s B W)) (fun i_ _ => n - (intOf i_).toNat)
  case atStart => exact ⟨0, _, B, Nat.zero_le _, rfl, hO⟩
  case round =>
    clear hO
    obtain ⟨j, s, B, hj, rfl, HB⟩ := hrel
    by_cases hlt : j < n
    · have hlt' : (j : Int) < (n : Int) := by omega
      obtain ⟨⟨ck, ca⟩, b, off, he, hok, rfl, q5⟩ := HR.out.at hlt
      obtain ⟨d0, d1⟩ := ops_tail (q5.later HB.out.b)
      obtain ⟨q, hq⟩ : ∃ q, ca % 65536 = q := ⟨_, rfl⟩
      have hw : IntKind.u16.wrap ca = q := by rw [u16_wrap]; exact hq
      have HQ : Hid (0 ≤ q ∧ q < 65536) := by unfold Hid; omega
      clear hok q5 he hq
      by_cases hk1 : ck = 1
      · subst hk1
        go_wp2_with (go_at_call 14; refine (HC.out.miss HB.out.t).mono ?_; intro e W3 hd; obtain ⟨rfl, B3, hO3⟩ := HB.out.step hd)
        go_roundw
        case rel => exact ⟨j + 1, _, B3, by omega, by go_num, hO3⟩
        case measure => simp [intOf]; omega
      · have hk1' : (ck == 1) = false := by simpa using hk1
        go_wp2_with (go_at_call 12; refine (HC.out.hello q HB.out.t HQ.out.1 HQ.out.2).mono ?_; intro e W3 hd; obtain ⟨rfl, B3, hO3⟩ := HB.out.step hd)
        go_roundw
        case rel => exact ⟨j + 1, _, B3, by omega, by go_num, hO3⟩
        case measure => simp [intOf]; omega
    · have hlt' : ¬ (j : Int) < (n : Int) := by omega
      have HT : Hid (_) := hello_twice (HC.out.good HB.out.t) seq
      obtain ⟨x, hx⟩ : ∃ x, numN (helloN s seq).h = x := ⟨_, rfl⟩
      have HX : Hid (numN (helloN s seq).h = x) := hx
      have HX2 : Hid (numN (helloN (helloN s seq) seq).h = x) := by unfold Hid; rw [HT.out]; exact hx
      have HMk : Hid True := trivial
      clear hx HT
      go_wp2_with (first
        | (go_at_call 12; have HMk' := HMk; clear HMk HMk'; refine (HC.out.hello seq HB.out.t HS.out.1 HS.out.2).mono ?_; intro e W3 hd; obtain ⟨rfl, B3, hO3⟩ := HB.out.step hd; clear hd)
        | (go_at_call 18; refine (HC.out.hist hO3.t).mono ?_; rw [HX.out]; rintro e W4 ⟨rfl, hb4⟩; have hO4 := hO3.later HC.out hb4; clear hb4 hO3)
        | (go_at_call 12; refine (HC.out.hello seq hO4.t HS.out.1 HS.out.2).mono ?_; intro e W5 hd; obtain ⟨rfl, B5, hO5⟩ := hO4.step hd; clear hd hO4)
        | (go_at_call 18; refine (HC.out.hist hO5.t).mono ?_; rw [HX2.out]; rintro e W6 ⟨rfl, hb6⟩; have hO6 := hO5.later HC.out hb6; clear hb6))
      go_ret
      exact ⟨rfl, hO6.b⟩
end
end Go.Proofs.Ytenkghcdhanciaa
