/- The laws RippktEncodes and RippktOnce, walked. -/
import Derived.Test.YtabpillcpnnidaaCon9
import Derived.Test.YtabpillcpnnidaaConG
namespace Go.Proofs.Ytabpillcpnnidaa
open Go.RowKit

set_option maxHeartbeats 1000000 in
theorem law_encodes (c : Int) (wh : Bool) (a : Option Addr) (n cap : Nat) (es : List Ent) (w : World) (hr : RowE w a n es) :
    Calls Try.prog 3 #[.agg #[.int .i64 c, .bool wh, .slice a n cap]] w fun e w' => e = .returned (.bool true) ∧ Below w.heap.size w w' := by
  have HR : Hid (RowE w a n es) := hr
  have HBy : Hid (Bytes (encB c wh es)) := encB_bytes hr.2.1
  have HSh : Hid ((encB c wh es).length ≤ 504) := encB_short _ _ _
  clear hr
  by_cases hn : n ≤ 100
  · go_enter Try.func3, Try.ntmps3
    go_wp2_with (first
      | (go_at_call 10; refine (awake_any _).mono ?_; rintro e W1 ⟨rfl, hb1⟩; obtain ⟨p0, p1, p2, pz⟩ := (P3.new w c wh a n cap).later hb1; have hB1 := Below.out1 hb1)
      | (go_at_call 11; refine (encode_any _ _ _ _ _ es _ (HR.out.later hB1) hn).mono ?_; rintro e W2 ⟨ad2, k2, cp2, rfl, own2, hb2⟩; obtain ⟨p0, p1, p2, pz⟩ := P3.later ⟨p0, p1, p2, pz⟩ hb2; have hB2 := stp hB1 hb2)
      | (go_at_call 12; refine (refEncode_any _ _ _ _ _ es _ (HR.out.later hB2) hn).mono ?_; rintro e W3 ⟨ad3, k3, cp3, rfl, own3, hb3⟩; have hB3 := stp hB2 hb3; have hk2 : k2 ≤ 100000 := by { have h1 := own2.1; have h2 := HSh.out; simp at h1; omega }; have hk3 : k3 ≤ 100000 := by { have h1 := own3.1; have h2 := HSh.out; simp at h1; omega }; have v2 := conv_any cp2 ((own2.row HBy.out hk2).later hb3); have v3 := conv_any cp3 (own3.row HBy.out hk3); clear hk2 hk3))
    go_ret
    exact ⟨rfl, hB3⟩
  · go_enter Try.func3, Try.ntmps3
    go_wp2_with (first
      | (go_at_call 10; refine (awake_any _).mono ?_; rintro e W1 ⟨rfl, hb1⟩; obtain ⟨p0, p1, p2, pz⟩ := (P3.new w c wh a n cap).later hb1; have hB1 := Below.out1 hb1))
    go_ret
    exact ⟨rfl, hB1⟩

set_option maxHeartbeats 1000000 in
theorem law_once (a : Option Addr) (n cap : Nat) (l : List Int) (w : World) (hr : n ≤ 3000 → Row8 w a n l) (hc : n ≤ cap) :
    Calls Try.prog 6 #[.slice a n cap] w fun e w' => e = .returned (.bool true) ∧ Below w.heap.size w w' := by
  by_cases hn : n ≤ 3000
  · have HR : Hid (Row8 w a n l) := hr hn
    clear hr
    obtain ⟨pk, hpk⟩ : ∃ pk, dec l = pk := ⟨_, rfl⟩
    have hall := dec_all HR.out.2.2.1
    have hdec := fun W => decode_any a n cap l W
    rw [hpk] at hall
    simp only [hpk] at hdec
    obtain ⟨pc, pw, pes, px⟩ := pk
    simp only at hall
    obtain ⟨h1, h2, h3, h4, h5, h6, h7⟩ := hall
    have HES : Hid (Ents pes) := h1
    have HD : Hid (∀ W, Row8 W a n l → n ≤ 3000 → n ≤ cap → Calls Try.prog 13 #[.slice a n cap] W (Decoded W ⟨pc, pw, pes, px⟩)) := hdec
    have HH : Hid (px = 0 → encX pc pw pes = 0 ∧ encB pc pw pes = l) := h7
    have HZ : Hid (px ≠ 0 → pes = []) := fun h => (h4 h).2.2
    have HL : Hid (pes.length ≤ 25) := h2
    clear h1 h3 h4 h5 h6 h7 hdec hpk h2
    by_cases hx : px = 0
    · subst hx
      obtain ⟨hX, hE⟩ := HH.out rfl
      have HX : Hid (encX pc pw pes = 0) := hX
      have HE : Hid (encB pc pw pes = l) := hE
      clear hX hE HH HZ
      go_enter Try.func6, Try.ntmps6
      go_wp2_with (first
        | (go_at_call 10; refine (awake_any _).mono ?_; rintro e W1 ⟨rfl, hb1⟩)
        | (go_at_call 13; refine (HD.out _ (HR.out.later hb1) hn hc).mono ?_; rintro e W2 ⟨ad, k, cp, rfl, R2, hb2⟩; have hB2 := stp hb1 hb2; have hk : k ≤ 100 := by { have h1 := R2.1; have h2 := HL.out; simp only at h1; omega })
        | (go_at_call 11; refine (encode_any _ _ _ _ _ pes _ (R2.later (below1 _ _)) hk).mono ?_; rintro e W3 ⟨ad3, k3, cp3, rfl, own3, hb3⟩; have hB3 := stp1 hB2 hb3; rw [HX.out]; rw [HE.out] at own3; have hk3 : k3 ≤ 100000 := by { have h1 := own3.1; have h2 := HR.out.1; simp at h1; omega }; have v2 := conv_any cap (HR.out.later hB3); have v3 := conv_any cp3 (own3.row HR.out.2.2.1 hk3); clear hk3))
      go_ret
      exact ⟨rfl, hB3⟩
    · have HE : Hid (pes = []) := HZ.out hx
      have e1 : (px != 0) = true := by rw [bne_iff_ne]; exact hx
      clear hx HH HZ
      go_enter Try.func6, Try.ntmps6
      go_wp2_with (first
        | (go_at_call 10; refine (awake_any _).mono ?_; rintro e W1 ⟨rfl, hb1⟩)
        | (go_at_call 13; refine (HD.out _ (HR.out.later hb1) hn hc).mono ?_; rintro e W2 ⟨ad, k, cp, rfl, R2, hb2⟩; have hB2 := stp hb1 hb2; have hk : 0 = k := by { have h1 := R2.1; rw [HE.out] at h1; exact h1 }; subst hk))
      go_ret
      exact ⟨rfl, stp hB2 (below1 _ _)⟩
  · clear hr
    go_enter Try.func6, Try.ntmps6
    go_wp2_with (first
      | (go_at_call 10; refine (awake_any _).mono ?_; rintro e W1 ⟨rfl, hb1⟩))
    go_ret
    exact ⟨rfl, hb1⟩
end Go.Proofs.Ytabpillcpnnidaa
