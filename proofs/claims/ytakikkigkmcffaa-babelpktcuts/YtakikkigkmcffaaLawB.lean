/- The laws BabelpktBack and BabelpktAgain, walked. -/
import Derived.Test.YtakikkigkmcffaaLaw1
import Derived.Test.YtakikkigkmcffaaCDZ
import Derived.Test.YtakikkigkmcffaaCS1
namespace Go.Proofs.Ytakikkigkmcffaa
open Go.RowKit

theorem Own8.cap_le {w : World} {base : Nat} {e : TypeId} {a : Option Addr} {k n cp : Nat} {l : List Int} (h : Own8 w base e (.slice a k cp) n l) : n ≤ cp := by
  rcases h.2 with ⟨_, h0⟩ | ⟨g, c, cur, hv, _, _, hle, _⟩
  · omega
  · simp only [Value.slice.injEq] at hv
    rw [hv.2.2]; exact hle
set_option maxHeartbeats 1000000 in
theorem law_back (a : Option Addr) (n cap : Nat) (ts : List Tlv) (w : World) (hr : RowT w a n ts) :
    Calls Try.prog 5 #[.slice a n cap] w fun e w' => e = .returned (.bool true) ∧ Below w.heap.size w w' := by
  have HR : Hid (RowT w a n ts) := hr
  have HBy : Hid (Bytes (encB ts)) := encB_bytes hr.2.1
  have HSh : Hid ((encB ts).length ≤ 1284) := encB_short _
  have HTs : Hid (Tlvs ts) := hr.2.1
  clear hr
  by_cases hn : n ≤ 60
  · have hn' : ¬ (60 : Int) < (n : Int) := by omega
    by_cases hx : encX ts = 0
    · have HX : Hid (encX ts = 0) := hx
      have HD : Hid (dec (encB ts) = (ts, 0)) := dec_enc HTs.out hx
      clear hx
      go_enter Try.func5, Try.ntmps5
      go_wp2_with (first
        | (go_at_call 11; refine (awake_any _).mono ?_; rintro e W1 ⟨rfl, hb1⟩)
        | (go_at_call 12; refine (encode_any _ _ _ ts _ (HR.out.later hb1) (by omega)).mono ?_; rintro e W2 ⟨ad2, k2, cp2, rfl, own2, hb2⟩; have hB2 := stp hb1 hb2; rw [HX.out]; have hk2 : k2 ≤ 1284 := by { have h1 := own2.len; have h2 := HSh.out; omega })
        | (go_at_call 16; refine (decode_any _ _ _ (encB ts) _ (own2.row HBy.out (by omega)) (by omega) own2.cap_le).mono ?_; rintro e W3 ⟨ad3, k3, cp3, rfl, row3, hb3⟩; rw [HD.out] at row3 ⊢; have hB3 := stp hB2 hb3)
        | (go_at_call 18; refine (same_any _ _ _ ts _ _ _ ts _ row3 (HR.out.later hB3) (by have := row3.1; have := (HR.out).1; omega) (decide_eq_true rfl)).mono ?_; rintro e W4 ⟨rfl, hb4⟩; have hB4 := stp hB3 hb4))
      go_ret
      exact ⟨rfl, hB4⟩
    · obtain ⟨x, hx'⟩ : ∃ x, encX ts = x := ⟨_, rfl⟩
      have HX : Hid (encX ts = x) := hx'
      have e0 : (x == 0) = false := by rw [← hx']; simpa using hx
      have HE : Hid (encB ts = []) := encB_bad hx
      obtain ⟨v, hv⟩ : ∃ v, decide (([] : List Tlv) = ts) = v := ⟨_, rfl⟩
      have HV : Hid (decide (([] : List Tlv) = ts) = v) := hv
      clear hx hx' hv
      go_enter Try.func5, Try.ntmps5
      go_wp2_with (first
        | (go_at_call 11; refine (awake_any _).mono ?_; rintro e W1 ⟨rfl, hb1⟩)
        | (go_at_call 12; refine (encode_any _ _ _ ts _ (HR.out.later hb1) (by omega)).mono ?_; rintro e W2 ⟨ad2, k2, cp2, rfl, own2, hb2⟩; have hB2 := stp hb1 hb2; rw [HX.out]; rw [HE.out] at own2; have hk2 : 0 = k2 := own2.len; subst hk2)
        | (go_at_call 16; refine (decode_any _ _ _ [] _ (own2.row (fun x h => by cases h) (by omega)) (by omega) own2.cap_le).mono ?_; rintro e W3 ⟨ad3, k3, cp3, rfl, row3, hb3⟩; rw [dec_nil] at row3 ⊢; have hB3 := stp hB2 hb3)
        | (go_at_call 18; refine (same_any _ _ _ [] _ _ _ ts _ row3 (HR.out.later hB3) (by have h0 : 0 = k3 := row3.1; omega) HV.out).mono ?_; rintro e W4 ⟨rfl, hb4⟩; have hB4 := stp hB3 hb4))
      go_ret
      exact ⟨rfl, hB4⟩
  · have hn' : (60 : Int) < (n : Int) := by omega
    go_enter Try.func5, Try.ntmps5
    go_wp2_with (first
      | (go_at_call 11; refine (awake_any _).mono ?_; rintro e W1 ⟨rfl, hb1⟩))
    go_ret
    exact ⟨rfl, hb1⟩
set_option maxHeartbeats 1000000 in
theorem law_again (a : Option Addr) (n cap : Nat) (l : List Int) (w : World) (hr : n ≤ 3000 → Row8 w a n l) (hc : n ≤ cap) :
    Calls Try.prog 7 #[.slice a n cap] w fun e w' => e = .returned (.bool true) ∧ Below w.heap.size w w' := by
  by_cases hn : n ≤ 3000
  · have hr := hr hn
    have HR : Hid (Row8 w a n l) := hr
    obtain ⟨h1, h2, h3, h4, h5⟩ := dec_all hr.2.2.1
    obtain ⟨ts, x, hd⟩ : ∃ ts x, dec l = (ts, x) := ⟨_, _, rfl⟩
    rw [hd] at h1 h2 h3 h4 h5
    simp only at h1 h2 h3 h4 h5
    have HD : Hid (dec l = (ts, x)) := hd
    have HTs : Hid (Tlvs ts) := h1
    have HLn : Hid (ts.length ≤ 40) := h2
    clear hr hd h1 h2
    have hn' : ¬ (3000 : Int) < (n : Int) := by omega
    by_cases hx : x = 0
    · have HX : Hid (encX ts = 0) := h5 hx
      have HBy : Hid (Bytes (encB ts)) := encB_bytes HTs.out
      have HSh : Hid ((encB ts).length ≤ 1284) := encB_short _
      have HDE : Hid (dec (encB ts) = (ts, 0)) := dec_enc HTs.out (h5 hx)
      subst hx
      clear h3 h4 h5
      go_enter Try.func7, Try.ntmps7
      go_wp2_with (first
        | (go_at_call 11; refine (awake_any _).mono ?_; rintro e W1 ⟨rfl, hb1⟩)
        | (go_at_call_of 16 (Value.slice a n cap); refine (decode_any _ _ _ l _ (HR.out.later hb1) hn hc).mono ?_; rintro e W2 ⟨ad2, k2, cp2, rfl, row2, hb2⟩; rw [HD.out] at row2 ⊢; have hB2 := stp hb1 hb2; have hk2 : k2 ≤ 40 := by { have h1 := row2.1; have h2 := HLn.out; simp only at h1; omega })
        | (go_at_call 12; refine (encode_any _ _ _ ts _ row2 (by omega)).mono ?_; rintro e W3 ⟨ad3, k3, cp3, rfl, own3, hb3⟩; rw [HX.out]; have hB3 := stp hB2 hb3; have hk3 : k3 ≤ 1284 := by { have h1 := own3.len; have h2 := HSh.out; omega })
        | (go_at_call 16; refine (decode_any _ _ _ (encB ts) _ (own3.row HBy.out (by omega)) (by omega) own3.cap_le).mono ?_; rintro e W4 ⟨ad4, k4, cp4, rfl, row4, hb4⟩; rw [HDE.out] at row4 ⊢; have hB4 := stp hB3 hb4)
        | (go_at_call 18; refine (same_any _ _ _ ts _ _ _ ts _ ((row2.later hb3).later hb4) row4 (by omega) (decide_eq_true rfl)).mono ?_; rintro e W5 ⟨rfl, hb5⟩; have hB5 := stp hB4 hb5))
      go_ret
      exact ⟨rfl, hB5⟩
    · have e0 : (x == 0) = false := by simpa using hx
      have HE : Hid (ts = []) := h4 hx
      clear h3 h4 h5 hx
      go_enter Try.func7, Try.ntmps7
      go_wp2_with (first
        | (go_at_call 11; refine (awake_any _).mono ?_; rintro e W1 ⟨rfl, hb1⟩)
        | (go_at_call_of 16 (Value.slice a n cap); refine (decode_any _ _ _ l _ (HR.out.later hb1) hn hc).mono ?_; rintro e W2 ⟨ad2, k2, cp2, rfl, row2, hb2⟩; rw [HD.out] at row2 ⊢; have hB2 := stp hb1 hb2; have hk2 : 0 = k2 := by { have h1 := row2.1; rw [HE.out] at h1; exact h1 }; subst hk2))
      go_ret
      exact ⟨rfl, hB2⟩
  · have hn' : (3000 : Int) < (n : Int) := by omega
    clear hr hc
    go_enter Try.func7, Try.ntmps7
    go_wp2_with (first
      | (go_at_call 11; refine (awake_any _).mono ?_; rintro e W1 ⟨rfl, hb1⟩))
    go_ret
    exact ⟨rfl, hb1⟩
end Go.Proofs.Ytakikkigkmcffaa
