/- The program's filter: May and Permits. -/
import Derived.Test.YtmmhnpekbfmonaaProP
namespace Go.Proofs.Ytmmhnpekbfmonaa
open Go.RowKit

theorem newU (w : World) (m : Bool) (a l g e h n : Int) {W : World} (hb : Below (w.alloc (objU m a l g e h n)).heap.size (w.alloc (objU m a l g e h n)) W) : U7 W w.heap.size 0 ⟨m, a, l, g, e, h, n⟩ := (U7.new w m a l g e h n).later hb
set_option maxHeartbeats 2000000 in
theorem mayRule_any (m : Bool) (a l g e h n : Int) (w : World) (ha : U32 a) {v : Bool} (hv : mayU ⟨m, a, l, g, e, h, n⟩ = v) :
    Calls Try.prog 16 #[valU m a l g e h n] w fun e w' => e = .returned (.bool v) ∧ Below w.heap.size w w' := by
  obtain ⟨c, hc⟩ : ∃ c, mayB a l = c := ⟨_, rfl⟩
  have HV : Hid ((c && decide (l ≤ g ∧ g ≤ e ∧ e ≤ 32)) = v) := by unfold Hid; rw [← hv, ← hc]; rfl
  clear hv
  cases c
  · obtain rfl : v = false := by rw [← HV.out]; rfl
    go_enter Try.func16, Try.ntmps16
    go_wp2_with (go_at_call 18; refine (may_any _ _ _ ha.1 ha.2 hc).mono ?_; rintro e' W1 ⟨rfl, hb⟩; obtain ⟨c0, c1, c2, c3, c4, c5, c6⟩ := newU w m a l g e h n hb; have HB : Hid (Below w.heap.size w W1) := Below.out1 hb; clear hb)
    go_ret
    exact ⟨rfl, HB.out⟩
  · have hway : (l ≤ g ∧ g ≤ e ∧ e ≤ 32) ∨ ¬ l ≤ g ∨ (l ≤ g ∧ ¬ g ≤ e) ∨ (l ≤ g ∧ g ≤ e ∧ ¬ e ≤ 32) := by omega
    rcases hway with ⟨k1, k2, k3⟩ | k1 | ⟨k1, k2⟩ | ⟨k1, k2, k3⟩
    · obtain rfl : v = true := by rw [← HV.out, decide_eq_true ⟨k1, k2, k3⟩]; rfl
      have d1 : decide (l ≤ g) = true := decide_eq_true k1
      have d2 : decide (g ≤ e) = true := decide_eq_true k2
      have d3 : decide (e ≤ 32) = true := decide_eq_true k3
      go_enter Try.func16, Try.ntmps16
      go_wp2_with (go_at_call 18; refine (may_any _ _ _ ha.1 ha.2 hc).mono ?_; rintro e' W1 ⟨rfl, hb⟩; obtain ⟨c0, c1, c2, c3, c4, c5, c6⟩ := newU w m a l g e h n hb; have HB : Hid (Below w.heap.size w W1) := Below.out1 hb; clear hb)
      go_ret
      exact ⟨rfl, HB.out⟩
    · obtain rfl : v = false := by rw [← HV.out, decide_eq_false (fun h => k1 h.1)]; rfl
      have d1 : decide (l ≤ g) = false := decide_eq_false k1
      go_enter Try.func16, Try.ntmps16
      go_wp2_with (go_at_call 18; refine (may_any _ _ _ ha.1 ha.2 hc).mono ?_; rintro e' W1 ⟨rfl, hb⟩; obtain ⟨c0, c1, c2, c3, c4, c5, c6⟩ := newU w m a l g e h n hb; have HB : Hid (Below w.heap.size w W1) := Below.out1 hb; clear hb)
      go_ret
      exact ⟨rfl, HB.out⟩
    · obtain rfl : v = false := by rw [← HV.out, decide_eq_false (fun h => k2 h.2.1)]; rfl
      have d1 : decide (l ≤ g) = true := decide_eq_true k1
      have d2 : decide (g ≤ e) = false := decide_eq_false k2
      go_enter Try.func16, Try.ntmps16
      go_wp2_with (go_at_call 18; refine (may_any _ _ _ ha.1 ha.2 hc).mono ?_; rintro e' W1 ⟨rfl, hb⟩; obtain ⟨c0, c1, c2, c3, c4, c5, c6⟩ := newU w m a l g e h n hb; have HB : Hid (Below w.heap.size w W1) := Below.out1 hb; clear hb)
      go_ret
      exact ⟨rfl, HB.out⟩
    · obtain rfl : v = false := by rw [← HV.out, decide_eq_false (fun h => k3 h.2.2)]; rfl
      have d1 : decide (l ≤ g) = true := decide_eq_true k1
      have d2 : decide (g ≤ e) = true := decide_eq_true k2
      have d3 : decide (e ≤ 32) = false := decide_eq_false k3
      go_enter Try.func16, Try.ntmps16
      go_wp2_with (go_at_call 18; refine (may_any _ _ _ ha.1 ha.2 hc).mono ?_; rintro e' W1 ⟨rfl, hb⟩; obtain ⟨c0, c1, c2, c3, c4, c5, c6⟩ := newU w m a l g e h n hb; have HB : Hid (Below w.heap.size w W1) := Below.out1 hb; clear hb)
      go_ret
      exact ⟨rfl, HB.out⟩
set_option maxHeartbeats 4000000 in
theorem may_filter (ad : Option Addr) (n cap : Nat) (L : List Ru) (w : World) (hr : RowU w ad n L) {b : Bool} (hb : mayL L = b) :
    Calls Try.prog 11 #[.slice ad n cap] w fun e w' => e = .returned (.bool b) ∧ Below w.heap.size w w' := by
  have HRow : Hid (RowU w ad n L) := hr
  have HN : Hid (L.length = n) := hr.1
  have HV : Hid (mayL L = b) := hb
  clear hr hb
  by_cases h32 : n ≤ 32
  · have h32' : ¬ (n : Int) > 32 := by omega
    go_enter Try.func11, Try.ntmps11
    go_wp2
    go_loopw [10] (fun i_ W => ∃ (j : Nat), j ≤ n ∧ i_ = .int .i64 j ∧ Hid (∀ i, i < j → ∀ q, L[i]? = some q → mayU q = true) ∧ Below w.heap.size w W) (fun i_ _ => n - (intOf i_).toNat)
    case atStart => exact ⟨0, Nat.zero_le _, rfl, fun i hi => by omega, Below.refl _ _⟩
    case round =>
      obtain ⟨j, hj, rfl, HJ, hB⟩ := hrel
      have HB : Hid (Below w.heap.size w wr) := hB
      by_cases hlt : j < n
      · have hlt' : (j : Int) < (n : Int) := by omega
        obtain ⟨⟨m, a, l, g, e, h, nn⟩, bk, off, he, hok, rfl, q7⟩ := (HRow.out.later hB).at hlt
        have HE : Hid (L[j]? = some ⟨m, a, l, g, e, h, nn⟩) := he
        have HO : Hid (Ru.Ok ⟨m, a, l, g, e, h, nn⟩) := hok
        clear he hok hB
        obtain ⟨c, hc⟩ : ∃ c, mayU ⟨m, a, l, g, e, h, nn⟩ = c := ⟨_, rfl⟩
        have HU : Hid (mayU ⟨m, a, l, g, e, h, nn⟩ = c) := hc
        clear hc
        obtain ⟨c0, c1, c2, c3, c4, c5, c6⟩ := q7
        simp only at c0 c1 c2 c3 c4 c5 c6
        cases c
        · have HP : Hid (false = b) := by
            unfold Hid
            rw [← HV.out, may_no HE.out HU.out]
          go_wp2_with (go_at_call 16; refine (mayRule_any m a l g e h nn _ ⟨HO.out.a0, HO.out.a1⟩ HU.out).mono ?_; rintro e' W1 ⟨rfl, hb⟩)
          go_ret
          exact ⟨ret_bool HP.out, stp HB.out (Below.out1 hb)⟩
        · have HJ' : Hid (∀ i, i < j + 1 → ∀ q, L[i]? = some q → mayU q = true) := fun i hi q hq => by
            by_cases hij : i = j
            · subst hij; rw [HE.out] at hq; simp only [Option.some.injEq] at hq; subst hq; exact HU.out
            · exact HJ.out i (by omega) q hq
          go_wp2_with (go_at_call 16; refine (mayRule_any m a l g e h nn _ ⟨HO.out.a0, HO.out.a1⟩ HU.out).mono ?_; rintro e' W1 ⟨rfl, hb⟩)
          go_roundw
          case rel => exact ⟨j + 1, by omega, by go_num, HJ', stp HB.out (Below.out1 hb)⟩
          case measure => simp [intOf]; omega
      · have hlt' : ¬ (j : Int) < (n : Int) := by omega
        obtain rfl : j = n := by omega
        have HP : Hid (true = b) := by
          unfold Hid; rw [← HV.out, may_all (by rw [HN.out]; exact h32) (by rw [HN.out]; exact HJ.out)]
        go_wp2
        go_ret
        exact ⟨ret_bool HP.out, HB.out⟩
  · have h32' : (n : Int) > 32 := by omega
    have HP : Hid (false = b) := by
      unfold Hid; rw [← HV.out, may_long (by rw [HN.out]; omega)]
    go_enter Try.func11, Try.ntmps11
    go_wp2
    go_ret
    exact ⟨ret_bool HP.out, Below.refl _ _⟩
end Go.Proofs.Ytmmhnpekbfmonaa
