/- The law BabelpktDecodes, walked. -/
import Derived.Test.YtakikkigkmcffaaLaw1
import Derived.Test.YtakikkigkmcffaaCDZ
import Derived.Test.YtakikkigkmcffaaCRZ
import Derived.Test.YtakikkigkmcffaaCS1
namespace Go.Proofs.Ytakikkigkmcffaa
open Go.RowKit

set_option maxHeartbeats 1000000 in
theorem law_decodes (a : Option Addr) (n cap : Nat) (l : List Int) (w : World) (hr : n ≤ 3000 → Row8 w a n l) (hc : n ≤ cap) :
    Calls Try.prog 4 #[.slice a n cap] w fun e w' => e = .returned (.bool true) ∧ Below w.heap.size w w' := by
  by_cases hn : n ≤ 3000
  · have HR : Hid (Row8 w a n l) := hr hn
    obtain ⟨ts, x, hd⟩ : ∃ ts x, dec l = (ts, x) := ⟨_, _, rfl⟩
    have HLn : Hid (ts.length ≤ 40) := by have := (dec_all HR.out.2.2.1).2.1; rw [hd] at this; exact this
    have HD : Hid (dec l = (ts, x)) := hd
    have hn' : ¬ (3000 : Int) < (n : Int) := by omega
    clear hr hd
    go_enter Try.func4, Try.ntmps4
    go_wp2_with (first
      | (go_at_call 11; refine (awake_any _).mono ?_; rintro e W1 ⟨rfl, hb1⟩)
      | (go_at_call 16; refine (decode_any _ _ _ l _ (HR.out.later hb1) hn hc).mono ?_; rintro e W2 ⟨ad2, k2, cp2, rfl, row2, hb2⟩; rw [HD.out] at row2 ⊢; have hB2 := stp hb1 hb2; have hk2 : k2 ≤ 40 := by { have h1 := row2.1; have h2 := HLn.out; simp only at h1; omega })
      | (go_at_call 17; refine (refDecode_any _ _ _ l _ (HR.out.later hB2) hn hc).mono ?_; rintro e W3 ⟨ad3, k3, cp3, rfl, row3, hb3⟩; rw [HD.out] at row3 ⊢; have hB3 := stp hB2 hb3)
      | (go_at_call 18; refine (same_any _ _ _ ts _ _ _ ts _ (row2.later hb3) row3 (by omega) (decide_eq_true rfl)).mono ?_; rintro e W4 ⟨rfl, hb4⟩; have hB4 := stp hB3 hb4))
    go_ret
    exact ⟨rfl, hB4⟩
  · have hn' : (3000 : Int) < (n : Int) := by omega
    clear hr hc
    go_enter Try.func4, Try.ntmps4
    go_wp2_with (first
      | (go_at_call 11; refine (awake_any _).mono ?_; rintro e W1 ⟨rfl, hb1⟩))
    go_ret
    exact ⟨rfl, hb1⟩
end Go.Proofs.Ytakikkigkmcffaa
