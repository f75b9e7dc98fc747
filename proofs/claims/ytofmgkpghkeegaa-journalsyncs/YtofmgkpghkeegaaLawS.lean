/- The law JournalSyncs over what is asked of the program's journal. -/
import Derived.Test.YtofmgkpghkeegaaLawA
namespace Go.Proofs.Ytofmgkpghkeegaa
open Go.RowKit

section
variable {JM : World → (Nat → Prop) → Addr → Int → List Fc → Nat → Nat → Prop}
set_option maxRecDepth 100000 in
set_option maxHeartbeats 4000000 in
theorem law_syncs (C : JouC JM) (ad : Option Addr) (n cap : Nat) (l : List Fc) (one two : Int) (w : World) (hr : RowF w ad n l) (h1 : I64 one) (h2 : I64 two) :
    Calls Try.prog 8 #[.slice ad n cap, .int .i64 one, .int .i64 two] w fun e w' => e = .returned (.bool true) ∧ Below w.heap.size w w' := by
  have HC : Hid (JouC JM) := C
  have HR : Hid (RowF w ad n l) := hr
  have H1 : Hid (I64 one) := h1
  have H2 : Hid (I64 two) := h2
  clear C hr h1 h2
  by_cases hn : n ≤ 150
  case neg =>
    have hn' : (150 : Int) < (n : Int) := by omega
    go_enter Try.func8, Try.ntmps8
    go_wp2_with (first
      | (go_at_call 9; refine (awake_any HC.out _).mono ?_; rintro e W1 ⟨rfl, hb1⟩)
      | (go_at_call 10; refine (HC.out.new _ 1000 (by decide)).mono ?_; rintro e W2 ⟨p, B, rfl, T2, hB2, hb2⟩; have he : ∀ W : World, (binOp .eql 24 (.pointer (some p)) (.pointer none)).run Try.prog W = .ok (.bool false) W := run_nilP _; have he' : ∀ W : World, (binOp .neq 24 (.pointer (some p)) (.pointer none)).run Try.prog W = .ok (.bool true) W := run_nilN _))
    go_ret
    exact ⟨rfl, stp hb1 hb2⟩
  have hn' : ¬ (150 : Int) < (n : Int) := by omega
  go_enter Try.func8, Try.ntmps8
  go_wp2_with (first
    | (go_at_call 9; refine (awake_any HC.out _).mono ?_; rintro e W1 ⟨rfl, hb1⟩)
    | (go_at_call 10; refine (HC.out.new _ 1000 (by decide)).mono ?_; rintro e W2 ⟨p, B, rfl, T2, hB2, hb2⟩; have HO0 : Hid (OneJ JM w p 1000 [] 0 0 B W2) := OneJ.new T2 hB2 hb1 hb2; have he : ∀ W : World, (binOp .eql 24 (.pointer (some p)) (.pointer none)).run Try.prog W = .ok (.bool false) W := run_nilP _; clear T2 hB2 hb1 hb2))
  clear he
  go_loopw [9] (fun i_ W => ∃ (j : Nat) (L : List Fc) (B : Nat → Prop), j ≤ n ∧ i_ = .int .i64 j ∧ Hid (OneJ JM w p 1000 L 0 j B W)) (fun i_ _ => n - (intOf i_).toNat)
  case atStart => exact ⟨0, [], B, Nat.zero_le _, rfl, HO0⟩
  case round =>
    clear HO0
    obtain ⟨j, L, B, hj, rfl, HO⟩ := hrel
    by_cases hlt : j < n
    · have hlt' : (j : Int) < (n : Int) := by omega
      obtain ⟨⟨pk, py, pn⟩, b, off, -, hok, rfl, q⟩ := (HR.out.later HO.out.b).at hlt
      obtain ⟨q0, q1, q2⟩ := q
      simp only at q0 q1 q2
      have HK : Hid (Fc.Ok ⟨pk, py, pn⟩) := hok
      clear hok
      go_wp2_with (go_at_call 11; refine (HC.out.put pk py pn HO.out.t (by omega) HK.out).mono ?_; intro e W3 hd; obtain ⟨rfl, B3, hO3⟩ := HO.out.step hd; have HO3 : Hid (OneJ JM w p 1000 (putJ 1000 L ⟨pk, py, pn⟩) 0 (j + 1) B3 W3) := hO3; clear hd hO3)
      go_roundw
      case rel => exact ⟨j + 1, _, B3, by omega, by go_num, HO3⟩
      case measure => simp [intOf]; omega
    · have hlt' : ¬ (j : Int) < (n : Int) := by omega
      obtain ⟨S, hS⟩ : ∃ S, strOfNums (bytesJ L) = S := ⟨_, rfl⟩
      have HS : Hid (strOfNums (bytesJ L) = S) := hS
      clear hS
      have HM : Hid (L.length = L.length) := rfl
      go_wp2_with (first
        | (go_at_call 13; refine (HC.out.sync HO4.out.t (by omega)).mono ?_; intro e W5 hd; obtain ⟨rfl, B5, hO5⟩ := HO4.out.step hd; have HO5 : Hid (OneJ JM w p 1000 L L.length (j + 1) B5 W5) := hO5; clear hd hO5)
        | (go_at_call_of 15 (Value.int IntKind.i64 one); refine (HC.out.crash one HO5.out.t (by omega) H1.out).mono ?_; rw [crJ_all]; intro e W6 hd; obtain ⟨rfl, B6, hO6⟩ := HO5.out.step hd; have HO6 : Hid (OneJ JM w p 1000 L L.length (j + 1 + 1) B6 W6) := hO6; have HM6 := HM; clear HM hd hO6)
        | (go_at_call 25; refine (HC.out.bytes HO8.out.t (by omega)).mono ?_; rintro e W9 ⟨b9, k9, c9, rfl, row9, hb9⟩; have HO9 : Hid (OneJ JM w p 1000 L L.length (j + 1 + 1 + 1) B8 W9) := HO8.out.later HC.out hb9; have hcv9 := conv_any c9 row9; rw [HS.out] at hcv9; clear row9 hb9)
        | (go_at_call 25; refine (HC.out.bytes HO6.out.t (by omega)).mono ?_; rintro e W7 ⟨b7, k7, c7, rfl, row7, hb7⟩; have HO7 : Hid (OneJ JM w p 1000 L L.length (j + 1 + 1) B6 W7) := HO6.out.later HC.out hb7; have hcv7 := conv_any c7 row7; rw [HS.out] at hcv7; clear row7 hb7)
        | (go_at_call 25; refine (HC.out.bytes HO.out.t (by omega)).mono ?_; rintro e W4 ⟨b4', k4, c4, rfl, row4, hb4⟩; have HO4 : Hid (OneJ JM w p 1000 L 0 j B W4) := HO.out.later HC.out hb4; have hcv4 := conv_any c4 row4; rw [HS.out] at hcv4; clear row4 hb4)
        | (go_at_call 15; refine (HC.out.crash two HO7.out.t (by omega) H2.out).mono ?_; rw [crJ_all]; intro e W8 hd; obtain ⟨rfl, B8, hO8⟩ := HO7.out.step hd; have HO8 : Hid (OneJ JM w p 1000 L L.length (j + 1 + 1 + 1) B8 W8) := hO8; clear hd hO8))
      go_ret
      exact ⟨rfl, HO9.out.b⟩
end
end Go.Proofs.Ytofmgkpghkeegaa
