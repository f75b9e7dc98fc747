/- The law TimersMoved over what is asked of the program's timers. -/
import Derived.Test.YtajpfmnnkglkiaaLawA
namespace Go.Proofs.Ytajpfmnnkglkiaa
open Go.RowKit

theorem one_set {i a c : Int} (ha : 0 ≤ a ∧ a ≤ 1000000) (hc : 0 ≤ c ∧ c ≤ 1000000) : setT [] i a = [⟨i, a⟩] ∧ setTX [] i a = 0 ∧ setT [⟨i, a⟩] i c = [⟨i, c⟩] ∧ setTX [⟨i, a⟩] i c = 0 ∧ stopT [⟨i, c⟩] i = [] ∧ stopTX [⟨i, c⟩] i = 0 := by
  have h1 : ¬ (a < 0 ∨ 1099511627776 < a) := by omega
  have h2 : ¬ (c < 0 ∨ 1099511627776 < c) := by omega
  refine ⟨?_, ?_, ?_, ?_, ?_, ?_⟩ <;> simp [setT, setTX, hasI, stopT, stopTX, insT, h1, h2]
theorem one_due (i a now : Int) : (now < a → dueL now [⟨i, a⟩] = [] ∧ dueR now [⟨i, a⟩] = [⟨i, a⟩]) ∧ (¬ now < a → dueL now [⟨i, a⟩] = [⟨i, a⟩] ∧ dueR now [⟨i, a⟩] = []) := by
  constructor <;> intro h
  · have : ¬ a ≤ now := by omega
    simp [dueL, dueR, this]
  · have : a ≤ now := by omega
    simp [dueL, dueR, this]
section
variable {TM : World → (Nat → Prop) → Addr → List Tm → Nat → Prop}
set_option maxHeartbeats 2000000 in
theorem law_moved (C : TimC TM) (id one two now : Int) (stop : Bool) (w : World) (hi : -9223372036854775808 ≤ id ∧ id ≤ 9223372036854775807) (h1 : -9223372036854775808 ≤ one ∧ one ≤ 9223372036854775807) (h2 : -9223372036854775808 ≤ two ∧ two ≤ 9223372036854775807) (hn : -9223372036854775808 ≤ now ∧ now ≤ 9223372036854775807) :
    Calls Try.prog 6 #[.int .i64 id, .int .i64 one, .int .i64 two, .int .i64 now, .bool stop] w fun e w' => e = .returned (.bool true) ∧ Below w.heap.size w w' := by
  have HC : Hid (TimC TM) := C
  clear C
  by_cases hr : one < 0 ∨ ¬ one < 0 ∧ 1000000 < one ∨ ¬ one < 0 ∧ ¬ 1000000 < one ∧ two < 0 ∨ ¬ one < 0 ∧ ¬ 1000000 < one ∧ ¬ two < 0 ∧ 1000000 < two
  · have HR : Hid (_) := hr
    clear hr
    rcases HR.out with r1 | ⟨r1, r2⟩ | ⟨r1, r2, r3⟩ | ⟨r1, r2, r3, r4⟩
    all_goals
      clear HR
      go_enter Try.func6, Try.ntmps6
      go_wp2_with (first
        | (go_at_call 8; refine (awake_any HC.out _).mono ?_; rintro e W1 ⟨rfl, hb1⟩)
        | (go_at_call 9; refine (HC.out.new _).mono ?_; rintro e W2 ⟨p, B, rfl, T2, hB2, hb2⟩; have he : ∀ W : World, (binOp .eql 24 (.pointer (some p)) (.pointer none)).run Try.prog W = .ok (.bool false) W := run_nilP _; have he' : ∀ W : World, (binOp .neq 24 (.pointer (some p)) (.pointer none)).run Try.prog W = .ok (.bool true) W := run_nilN _))
      go_ret
      exact ⟨rfl, stp hb1 hb2⟩
  have r1 : ¬ one < 0 := by omega
  have r2 : ¬ 1000000 < one := by omega
  have r3 : ¬ two < 0 := by omega
  have r4 : ¬ 1000000 < two := by omega
  have HX : Hid (_) := one_set (i := id) (a := one) (c := two) ⟨by omega, by omega⟩ ⟨by omega, by omega⟩
  have HO1 : Hid (Tm.Ok ⟨id, one⟩) := ok10 ⟨hi.1, hi.2, h1.1, h1.2⟩
  have HO2 : Hid (Tm.Ok ⟨id, two⟩) := ok10 ⟨hi.1, hi.2, h2.1, h2.2⟩
  have HI : Hid (_) := hi
  have HN : Hid (_) := hn
  clear hr hi h1 h2 hn
  cases stop
  case true =>
    have HD : Hid (dueL now [] = [] ∧ dueR now [] = []) := ⟨rfl, rfl⟩
    go_enter Try.func6, Try.ntmps6
    go_wp2_with (first
      | (go_at_call 8; refine (awake_any HC.out _).mono ?_; rintro e W1 ⟨rfl, hb1⟩)
      | (go_at_call 9; refine (HC.out.new _).mono ?_; rintro e W2 ⟨p, B, rfl, T2, hB2, hb2⟩; have hO := OneK.new (w := w) T2 hB2 hb1 hb2; have he : ∀ W : World, (binOp .eql 24 (.pointer (some p)) (.pointer none)).run Try.prog W = .ok (.bool false) W := run_nilP _; clear T2 hB2 hb1 hb2)
      | (go_at_call 10; refine (HC.out.set id two hO3.t (by decide) HO2.out).mono ?_; rw [HX.out.2.2.1, HX.out.2.2.2.1]; intro e W4 hd; obtain ⟨rfl, B4, hO4⟩ := hO3.step hd)
      | (go_at_call 10; refine (HC.out.set id one hO.t (by decide) HO1.out).mono ?_; rw [HX.out.1, HX.out.2.1]; intro e W3 hd; obtain ⟨rfl, B3, hO3⟩ := hO.step hd)
      | (go_at_call 12; refine (HC.out.stop id hO4.t (by decide) HI.out.1 HI.out.2).mono ?_; rw [HX.out.2.2.2.2.1, HX.out.2.2.2.2.2]; intro e W5 hd; obtain ⟨rfl, B5, hO5⟩ := hO4.step hd)
      | (go_at_call 15; refine (HC.out.due now hO5.t (by decide) HN.out.1 HN.out.2).mono ?_; intro e W6 hd; obtain ⟨B6, ad, k, cap, rfl, hO6, own, -⟩ := hO5.dued hd; rw [HD.out.1] at own; obtain rfl : k = 0 := own.len.symm))
    go_ret
    exact ⟨rfl, hO6.b⟩
  case false =>
    by_cases hlt : now < two
    · have HD : Hid (dueL now [⟨id, two⟩] = [] ∧ dueR now [⟨id, two⟩] = [⟨id, two⟩]) := (one_due id two now).1 hlt
      go_enter Try.func6, Try.ntmps6
      go_wp2_with (first
        | (go_at_call 8; refine (awake_any HC.out _).mono ?_; rintro e W1 ⟨rfl, hb1⟩)
        | (go_at_call 9; refine (HC.out.new _).mono ?_; rintro e W2 ⟨p, B, rfl, T2, hB2, hb2⟩; have hO := OneK.new (w := w) T2 hB2 hb1 hb2; have he : ∀ W : World, (binOp .eql 24 (.pointer (some p)) (.pointer none)).run Try.prog W = .ok (.bool false) W := run_nilP _; clear T2 hB2 hb1 hb2)
        | (go_at_call 10; refine (HC.out.set id two hO3.t (by decide) HO2.out).mono ?_; rw [HX.out.2.2.1, HX.out.2.2.2.1]; intro e W4 hd; obtain ⟨rfl, B4, hO4⟩ := hO3.step hd)
        | (go_at_call 10; refine (HC.out.set id one hO.t (by decide) HO1.out).mono ?_; rw [HX.out.1, HX.out.2.1]; intro e W3 hd; obtain ⟨rfl, B3, hO3⟩ := hO.step hd)
        | (go_at_call 15; refine (HC.out.due now hO4.t (by decide) HN.out.1 HN.out.2).mono ?_; intro e W6 hd; obtain ⟨B6, ad, k, cap, rfl, hO6, own, -⟩ := hO4.dued hd; rw [HD.out.1] at own; obtain rfl : k = 0 := own.len.symm))
      go_ret
      exact ⟨rfl, hO6.b⟩
    · have HD : Hid (dueL now [⟨id, two⟩] = [⟨id, two⟩] ∧ dueR now [⟨id, two⟩] = []) := (one_due id two now).2 hlt
      have HT : Hid (Tms [⟨id, two⟩]) := by
        intro p hp
        rw [List.mem_singleton] at hp
        subst hp
        exact HO2.out
      go_enter Try.func6, Try.ntmps6
      go_wp2_with (first
        | (go_at_call 8; refine (awake_any HC.out _).mono ?_; rintro e W1 ⟨rfl, hb1⟩)
        | (go_at_call 9; refine (HC.out.new _).mono ?_; rintro e W2 ⟨p, B, rfl, T2, hB2, hb2⟩; have hO := OneK.new (w := w) T2 hB2 hb1 hb2; have he : ∀ W : World, (binOp .eql 24 (.pointer (some p)) (.pointer none)).run Try.prog W = .ok (.bool false) W := run_nilP _; clear T2 hB2 hb1 hb2)
        | (go_at_call 10; refine (HC.out.set id two hO3.t (by decide) HO2.out).mono ?_; rw [HX.out.2.2.1, HX.out.2.2.2.1]; intro e W4 hd; obtain ⟨rfl, B4, hO4⟩ := hO3.step hd)
        | (go_at_call 10; refine (HC.out.set id one hO.t (by decide) HO1.out).mono ?_; rw [HX.out.1, HX.out.2.1]; intro e W3 hd; obtain ⟨rfl, B3, hO3⟩ := hO.step hd)
        | (go_at_call 15; refine (HC.out.due now hO4.t (by decide) HN.out.1 HN.out.2).mono ?_; intro e W6 hd; obtain ⟨B6, ad, k, cap, rfl, hO6, own, -⟩ := hO4.dued hd; rw [HD.out.1] at own; obtain rfl : k = 1 := own.len.symm; obtain ⟨g, rfl, hq⟩ := row_of own HT.out (by decide); obtain ⟨d0, d1⟩ := hq 0 _ rfl; simp only [Nat.zero_mul, Nat.zero_add] at d0 d1))
      go_ret
      exact ⟨rfl, hO6.b⟩
end
end Go.Proofs.Ytajpfmnnkglkiaa
