/- The contract of isFramed. -/
import Derived.Test.YtabpillcpnnidaaConA
namespace Go.Proofs.Ytabpillcpnnidaa
open Go.RowKit

theorem wrap_in {x : Int} (h0 : -9223372036854775808 ≤ x) (h1 : x ≤ 9223372036854775807) : IntKind.i64.wrap x = x := by
  simp [IntKind.wrap, IntKind.signed, IntKind.bits]; omega
theorem framed_short {l : List Int} (h : l.length < 4) : framed l = false := by
  unfold framed; rw [decide_eq_false (by omega)]; rfl
theorem framed_odd {l : List Int} (h : (l.length - 4) % 20 ≠ 0) : framed l = false := by
  unfold framed; rw [decide_eq_false h]; simp
theorem framed_cmd {l : List Int} (h : cmdB (l[0]?.getD 0) = false) : framed l = false := by
  unfold framed; unfold cmdB at h; rw [h]; simp
theorem framed_run {l : List Int} (h4 : 4 ≤ l.length) (hr : (l.length - 4) % 20 = 0) (h : cmdB (l[0]?.getD 0) = true) : framed l = decide (l.take 4 = [l[0]?.getD 0, 2, 0, 0]) := by
  unfold framed; unfold cmdB at h; rw [h, decide_eq_true h4, decide_eq_true hr]
  match l, h4 with
  | a :: b :: c :: d :: r, _ => rw [Bool.eq_iff_iff]; simp [and_assoc]
theorem Row8.take {w : World} {a : Option Addr} {n : Nat} {l : List Int} (h : Row8 w a n l) (k : Nat) (hk : k ≤ n) : Row8 w a k (l.take k) := by
  refine ⟨by rw [List.length_take, h.1]; omega, by have := h.2.1; omega, fun x hx => h.2.2.1 x (List.mem_of_mem_take hx), fun i hi => ?_⟩
  obtain ⟨b, off, e, hc⟩ := h.2.2.2 i (by omega)
  refine ⟨b, off, e, ?_⟩
  rw [hc, List.getElem?_take_of_lt hi]
theorem Row8.drop {w : World} {b off n : Nat} {l : List Int} (h : Row8 w (some ⟨b, off, none⟩) n l) (k : Nat) (hk : k ≤ n) : Row8 w (some ⟨b, off + k, none⟩) (n - k) (l.drop k) := by
  refine ⟨by rw [List.length_drop, h.1], by have := h.2.1; omega, fun x hx => h.2.2.1 x (List.mem_of_mem_drop hx), fun i hi => ?_⟩
  obtain ⟨b', off', e, hc⟩ := h.2.2.2 (k + i) (by omega)
  simp only [Option.some.injEq, Addr.mk.injEq, and_true] at e
  obtain ⟨rfl, rfl⟩ := e
  refine ⟨b, off + k, rfl, ?_⟩
  rw [List.getElem?_drop, Nat.add_assoc, hc]

set_option maxHeartbeats 1000000 in
theorem isFramed_any (a : Option Addr) (n cap : Nat) (l : List Int) (w : World) (hr : Row8 w a n l) (hn : n ≤ 3000) (hc1 : n ≤ cap) {v : Bool} (hv : framed l = v) :
    Calls Try.prog 24 #[.slice a n cap] w fun e w' => e = .returned (.bool v) ∧ Below w.heap.size w w' := by
  subst hv
  have HL : Hid (l.length = n) := hr.1
  have HR : Hid (Row8 w a n l) := hr
  clear hr
  by_cases h4 : n < 4
  · have HF : Hid (framed l = false) := framed_short (by rw [HL.out]; exact h4)
    have e1 : decide (4 ≤ (n : Int)) = false := by rw [decide_eq_false_iff_not]; omega
    clear h4 hc1
    go_enter Try.func24, Try.ntmps24
    go_wp2
    go_quiet (fail)
    go_wp2
    go_ret
    exact ⟨ret_bool HF.out.symm, below_drewN (Below.refl _ _) _⟩
  have e1 : decide (4 ≤ (n : Int)) = true := by rw [decide_eq_true_eq]; omega
  have h4' : 4 ≤ n := by omega
  by_cases ho : (n - 4) % 20 = 0
  · have e2 : ((n : Int) - 4) % 20 = 0 := by omega
    have ew : IntKind.i64.wrap ((n : Int) - 4) = (n : Int) - 4 := wrap_in (by omega) (by omega)
    have et : ((n : Int) - 4).tmod 20 = 0 := by rw [Int.tmod_eq_emod_of_nonneg (by omega)]; exact e2
    obtain ⟨b, off, rfl, hcell⟩ := HR.out.at (by omega)
    have d0 := hcell 0 (by omega)
    rw [Nat.add_zero] at d0
    have hb0 := HR.out.2.2.1.at 0
    generalize hx : l[0]?.getD 0 = x at d0 hb0
    clear hcell h4
    obtain ⟨hx0, hx1⟩ := hb0
    cases hcm : cmdB x
    · have HF : Hid (framed l = false) := framed_cmd (by rw [hx]; exact hcm)
      clear hc1 hx
      go_enter Try.func24, Try.ntmps24
      go_wp2
      go_quiet ((go_at_call 28; exact Calls.quiet_of_same (isCommand_any _ _ hcm)))
      go_wp2
      go_ret
      exact ⟨ret_bool HF.out.symm, below_drewN (Below.refl _ _) _⟩
    · have HF : Hid (framed l = decide (l.take 4 = [x, 2, 0, 0])) := by unfold Hid; rw [framed_run (by rw [HL.out]; exact h4') (by rw [HL.out]; exact ho) (by rw [hx]; exact hcm), hx]
      have HT : Hid (Row8 w (some ⟨b, off, none⟩) 4 (l.take 4)) := HR.out.take 4 h4'
      have i0 : 0 < n := by omega
      have ex : IntKind.i64.wrap x = x := wrap_in (by omega) (by omega)
      have i1 : (4 : Int) ≤ (cap : Int) := by omega
      have i2 : (4 : Int) ≤ (n : Int) := by omega
      clear hx ho
      go_enter Try.func24, Try.ntmps24
      go_wp2
      go_region_held3 (fun w' => w'.cell? ⟨b, off, none⟩ = some (.int .u8 x)) (go_keep)
        (first
          | (go_at_call 28; refine (isCommand_any _ _ hcm).mono ?_; rintro e w' ⟨rfl, rfl⟩)
          | (go_at_call 17; refine (head_any _ _ hx0 hx1).mono ?_; rintro e w' ⟨rfl, rfl⟩)
          | (go_at_call 25; refine (equal_any _ _ _ _ _ _ (l.take 4) [x, 2, 0, 0] _ (HT.out.later ((below1 w (hdO x)).drew)) ((row8_at w _ rfl [x, 2, 0, 0] 5 4 rfl (hd_bytes hx0 hx1) (by simp)).drew) rfl).mono ?_; rintro e w' ⟨rfl, rfl⟩))
      all_goals
        go_wp2
        go_ret
        exact ⟨ret_bool HF.out.symm, (below1 _ _).drew⟩
  · have HF : Hid (framed l = false) := framed_odd (by rw [HL.out]; exact ho)
    have e2 : (((n : Int) - 4) % 20 == 0) = false := by rw [beq_eq_false_iff_ne]; omega
    clear h4 hc1 ho
    go_enter Try.func24, Try.ntmps24
    go_wp2
    go_quiet (fail)
    go_wp2
    go_ret
    exact ⟨ret_bool HF.out.symm, below_drewN (Below.refl _ _) _⟩
end Go.Proofs.Ytabpillcpnnidaa
