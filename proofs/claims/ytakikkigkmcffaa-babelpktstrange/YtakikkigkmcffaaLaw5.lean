/- The law BabelpktCuts, walked. -/
import Derived.Test.YtakikkigkmcffaaLawB
namespace Go.Proofs.Ytakikkigkmcffaa
open Go.RowKit

theorem enc_framed {ts : List Tlv} (h : encX ts = 0) : framed (encB ts) = true := by
  obtain ⟨h1, h2⟩ := encX_zero h
  have hl := body_len (K := kn0) h2
  rw [encB_good h]
  exact (framed_pack _ (by omega)).1
set_option maxHeartbeats 2000000 in
theorem law_cuts (a : Option Addr) (n cap : Nat) (ts : List Tlv) (ct : Int) (a3 : Option Addr) (m cap3 : Nat) (l3 : List Int) (w : World) (hr : RowT w a n ts) (hr3 : m ≤ 3000 → Row8 w a3 m l3) :
    Calls Try.prog 6 #[.slice a n cap, .int .i64 ct, .slice a3 m cap3] w fun e w' => e = .returned (.bool true) ∧ Below w.heap.size w w' := by
  have HR : Hid (RowT w a n ts) := hr
  have HBy : Hid (Bytes (encB ts)) := encB_bytes hr.2.1
  have HSh : Hid ((encB ts).length ≤ 1284) := encB_short _
  have out : ∀ (_ : (40 : Int) < (n : Int) ∨ ¬ (40 : Int) < (n : Int) ∧ ((m : Int) < 1 ∨ ¬ (m : Int) < 1 ∧ ((100 : Int) < (m : Int) ∨ ¬ (100 : Int) < (m : Int) ∧ ct < 0))), Calls Try.prog 6 #[.slice a n cap, .int .i64 ct, .slice a3 m cap3] w fun e w' => e = .returned (.bool true) ∧ Below w.heap.size w w' := by
    intro h
    clear hr hr3
    rcases h with h1 | ⟨h1, h2 | ⟨h2, h3 | ⟨h3, h4⟩⟩⟩
    all_goals
      go_enter Try.func6, Try.ntmps6
      go_wp2_with (go_at_call 11; refine (awake_any _).mono ?_; rintro e W1 ⟨rfl, hb1⟩)
      go_ret
      exact ⟨rfl, hb1⟩
  by_cases h1 : (40 : Int) < (n : Int)
  · exact out (.inl h1)
  by_cases h2 : (m : Int) < 1
  · exact out (.inr ⟨h1, .inl h2⟩)
  by_cases h3 : (100 : Int) < (m : Int)
  · exact out (.inr ⟨h1, .inr ⟨h2, .inl h3⟩⟩)
  by_cases h4 : ct < 0
  · exact out (.inr ⟨h1, .inr ⟨h2, .inr ⟨h3, h4⟩⟩⟩)
  clear out
  have HR3 : Hid (Row8 w a3 m l3) := hr3 (by omega)
  clear hr hr3
  by_cases hx : encX ts = 0
  · obtain ⟨j, rfl⟩ : ∃ j : Nat, ct = (j : Int) := ⟨ct.toNat, by omega⟩
    obtain ⟨q, hq⟩ : ∃ q, (encB ts).length = q := ⟨_, rfl⟩
    have HXX : Hid (encX ts = 0) := hx
    have HQ : Hid ((encB ts).length = q) := hq
    have hq4 : q ≤ 1284 := by rw [← hq]; exact HSh.out
    have HD1 : Hid (dec (encB ts ++ l3) = ([], 2)) := dec_odd (framed_more (enc_framed hx) (by rw [HR3.out.1]; omega))
    have HB2 : Hid (Bytes (encB ts ++ l3)) := HBy.out.append HR3.out.2.2.1
    by_cases hj : (q : Int) ≤ (j : Int)
    · clear hx hq
      go_enter Try.func6, Try.ntmps6
      go_wp2_with (first
        | (go_at_call 11; refine (awake_any _).mono ?_; rintro e W1 ⟨rfl, hb1⟩)
        | (go_at_call 12; refine (encode_any _ _ _ ts _ (HR.out.later hb1) (by omega)).mono ?_; rintro e W2 ⟨ad2, k2, cp2, rfl, own2, hb2⟩; have hB2 := stp hb1 hb2; rw [HXX.out]; have hk2 : q = k2 := by { have h1 := own2.len; have h2 := HQ.out; omega }; subst hk2))
      go_ret
      exact ⟨rfl, hB2⟩
    · have HD2 : Hid (dec ((encB ts).take j) = ([], 2)) := dec_odd (framed_less (enc_framed hx) (by rw [hq]; omega))
      obtain ⟨k5, hk5⟩ : ∃ k5, q + m = k5 := ⟨_, rfl⟩
      have HK5 : Hid (q + m = k5) := hk5
      have hk5b : k5 ≤ 3000 := by omega
      have hjq : (j : Int) ≤ (q : Int) := by omega
      have hjn : j ≤ q := by omega
      clear hx hq hk5
      go_enter Try.func6, Try.ntmps6
      go_wp2_with (first
        | (go_at_call 11; refine (awake_any _).mono ?_; rintro e W1 ⟨rfl, hb1⟩)
        | (go_at_call 12; refine (encode_any _ _ _ ts _ (HR.out.later hb1) (by omega)).mono ?_; rintro e W2 ⟨ad2, k2, cp2, rfl, own2, hb2⟩; have hB2 := stp hb1 hb2; rw [HXX.out]; have hk2 : q = k2 := by { have h1 := own2.len; have h2 := HQ.out; omega }; subst hk2; have hkc := own2.cap_le; have R2 := own2.row HBy.out (by omega); have hjc : (j : Int) ≤ (cp2 : Int) := by omega)
        | (at_builtin; refine wpList_app8 _ rfl (.const (.slice none 0 0)) (.tmp 51) 25 5 rfl W2.heap.size Try.underlying25 info5 _ 0 [] rfl (own8_nil _ _ _) _ _ _ _ rfl R2 q (by omega) _ rfl (by omega) (Nat.le_refl _) ?_; intro a4 c4 W4 own4 hb4; have hB4 := stp hB2 hb4)
        | (at_builtin; refine wpList_app8 _ rfl (.tmp 52) (.tmp 53) 25 5 rfl W2.heap.size Try.underlying25 info5 _ _ _ rfl own4 _ _ _ l3 rfl (HR3.out.later hB4) k5 HK5.out _ rfl (by omega) hb4.size ?_; intro a5 c5 W5 own5 hb5; have hB5 := stp hB2 (hb4.trans hb5); have hb25 := hb4.trans hb5; rw [List.nil_append] at own5)
        | (go_at_call_of 16 (Value.slice a5 k5 c5); refine (decode_any _ _ _ _ _ (own5.row HB2.out (by omega)) (by omega) own5.cap_le).mono ?_; rw [HD1.out]; rintro e W6 ⟨ad6, k6, cp6, rfl, R6, hb6⟩; have hB6 := stp hB5 hb6)
        | (go_at_call 16; refine (decode_any _ _ _ _ _ (((R2.take j hjn).later hb25).later hb6) (by omega) (by omega)).mono ?_; rw [HD2.out]; rintro e W7 ⟨ad7, k7, cp7, rfl, R7, hb7⟩; have hB7 := stp hB6 hb7))
      go_ret
      exact ⟨rfl, hB7⟩
  · obtain ⟨xx, hxx⟩ : ∃ xx, encX ts = xx := ⟨_, rfl⟩
    have e1 : (xx != 0) = true := by rw [bne_iff_ne, ← hxx]; exact hx
    have HXX : Hid (encX ts = xx) := hxx
    clear hx hxx
    go_enter Try.func6, Try.ntmps6
    go_wp2_with (first
      | (go_at_call 11; refine (awake_any _).mono ?_; rintro e W1 ⟨rfl, hb1⟩)
      | (go_at_call 12; refine (encode_any _ _ _ ts _ (HR.out.later hb1) (by omega)).mono ?_; rintro e W2 ⟨ad2, k2, cp2, rfl, own2, hb2⟩; have hB2 := stp hb1 hb2; rw [HXX.out]))
    go_ret
    exact ⟨rfl, hB2⟩
end Go.Proofs.Ytakikkigkmcffaa
