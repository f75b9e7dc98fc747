/- The laws RippktDecodes, RippktBack and RippktWhole, walked. -/
import Derived.Test.YtabpillcpnnidaaConJ
import Derived.Test.YtabpillcpnnidaaLaw1
namespace Go.Proofs.Ytabpillcpnnidaa
open Go.RowKit

theorem Own8.cap_le {w : World} {base : Nat} {e : TypeId} {a : Option Addr} {k n cp : Nat} {l : List Int} (h : Own8 w base e (.slice a k cp) n l) : n ≤ cp := by
  rcases h.2 with ⟨_, h0⟩ | ⟨g, c, cur, hv, _, _, hle, _⟩
  · omega
  · simp only [Value.slice.injEq] at hv
    rw [hv.2.2]; exact hle
theorem same_self (c : Int) (wh : Bool) (es : List Ent) : sameB c wh es c wh es = true := by unfold sameB; simp

set_option maxHeartbeats 1000000 in
theorem law_decodes (a : Option Addr) (n cap : Nat) (l : List Int) (w : World) (hr : n ≤ 3000 → Row8 w a n l) (hc : n ≤ cap) :
    Calls Try.prog 4 #[.slice a n cap] w fun e w' => e = .returned (.bool true) ∧ Below w.heap.size w w' := by
  by_cases hn : n ≤ 3000
  · have HR : Hid (Row8 w a n l) := hr hn
    clear hr
    obtain ⟨pk, hpk⟩ : ∃ pk, dec l = pk := ⟨_, rfl⟩
    have hall := dec_all HR.out.2.2.1
    have hdec := fun W => decode_any a n cap l W
    have href := fun W => refDecode_any a n cap l W
    rw [hpk] at hall
    simp only [hpk] at hdec href
    obtain ⟨pc, pw, pes, px⟩ := pk
    simp only at hall
    have HD : Hid (∀ W, Row8 W a n l → n ≤ 3000 → n ≤ cap → Calls Try.prog 13 #[.slice a n cap] W (Decoded W ⟨pc, pw, pes, px⟩)) := hdec
    have HF : Hid (∀ W, Row8 W a n l → n ≤ 3000 → n ≤ cap → Calls Try.prog 14 #[.slice a n cap] W (Decoded W ⟨pc, pw, pes, px⟩)) := href
    have HL : Hid (pes.length ≤ 25) := hall.2.1
    clear hall hdec href hpk
    go_enter Try.func4, Try.ntmps4
    go_wp2_with (first
      | (go_at_call 10; refine (awake_any _).mono ?_; rintro e W1 ⟨rfl, hb1⟩)
      | (go_at_call 13; refine (HD.out _ (HR.out.later hb1) hn hc).mono ?_; rintro e W2 ⟨ad, k, cp, rfl, R2, hb2⟩; have hB2 := stp hb1 hb2; have hk : k ≤ 100 := by { have h1 := R2.1; have h2 := HL.out; simp only at h1; omega }; simp only at R2)
      | (go_at_call 14; refine (HF.out _ (HR.out.later (stp hB2 (below1 _ _))) hn hc).mono ?_; rintro e W3 ⟨ad3, k3, cp3, rfl, R3, hb3⟩; have hB3 := stp1 hB2 hb3; have hk3 : k3 ≤ 100 := by { have h1 := R3.1; have h2 := HL.out; simp only at h1; omega }; simp only at R3; obtain ⟨p0, p1, p2, pz⟩ := (P3.new W2 pc pw ad k cp).later hb3; have R2' := (R2.later (below1 W2 (objP pc pw ad k cp))).later hb3)
      | (go_at_call 15; refine (same_any _ _ _ _ _ _ _ _ _ _ pes pes _ (R2'.later (below1 _ _)) (R3.later (below1 _ _)) hk hk3 (same_self _ _ _)).mono ?_; rintro e W4 ⟨rfl, hb4⟩; have hB4 := stp1 hB3 hb4))
    go_ret
    exact ⟨rfl, hB4⟩
  · clear hr
    go_enter Try.func4, Try.ntmps4
    go_wp2_with (first
      | (go_at_call 10; refine (awake_any _).mono ?_; rintro e W1 ⟨rfl, hb1⟩))
    go_ret
    exact ⟨rfl, hb1⟩

set_option maxHeartbeats 1000000 in
theorem law_back (c : Int) (wh : Bool) (a : Option Addr) (n cap : Nat) (es : List Ent) (w : World) (hr : RowE w a n es) :
    Calls Try.prog 5 #[.agg #[.int .i64 c, .bool wh, .slice a n cap]] w fun e w' => e = .returned (.bool true) ∧ Below w.heap.size w w' := by
  have HR : Hid (RowE w a n es) := hr
  have HBy : Hid (Bytes (encB c wh es)) := encB_bytes hr.2.1
  have HSh : Hid ((encB c wh es).length ≤ 504) := encB_short _ _ _
  have HX : encX c wh es = 0 → dec (encB c wh es) = ⟨c, wh, es, 0⟩ := fun h => dec_encB hr.2.1 h
  have HN : encX c wh es ≠ 0 → encB c wh es = [] := fun h => encB_bad h
  clear hr
  by_cases hn : n ≤ 100
  · by_cases hx : encX c wh es = 0
    · have HD : Hid (dec (encB c wh es) = ⟨c, wh, es, 0⟩) := HX hx
      have HXX : Hid (encX c wh es = 0) := hx
      clear HX HN hx
      go_enter Try.func5, Try.ntmps5
      go_wp2_with (first
        | (go_at_call 10; refine (awake_any _).mono ?_; rintro e W1 ⟨rfl, hb1⟩; obtain ⟨p0, p1, p2, pz⟩ := (P3.new w c wh a n cap).later hb1; have hB1 := Below.out1 hb1)
        | (go_at_call 11; refine (encode_any _ _ _ _ _ es _ (HR.out.later hB1) hn).mono ?_; rintro e W2 ⟨ad2, k2, cp2, rfl, own2, hb2⟩; obtain ⟨p0, p1, p2, pz⟩ := P3.later ⟨p0, p1, p2, pz⟩ hb2; have hB2 := stp hB1 hb2; rw [HXX.out]; have hk2 : k2 ≤ 504 := by { have h1 := own2.1; have h2 := HSh.out; simp at h1; omega }; have hkc := own2.cap_le)
        | (go_at_call 13; refine (decode_any _ _ _ _ _ (own2.row HBy.out (by omega)) (by omega) hkc).mono ?_; rw [HD.out]; rintro e W3 ⟨ad3, k3, cp3, rfl, R3, hb3⟩; have hB3 := stp hB2 hb3; obtain ⟨p0, p1, p2, pz⟩ := P3.later ⟨p0, p1, p2, pz⟩ hb3; have hk3 : k3 ≤ 100 := by { have h1 := R3.1; have h2 := HR.out.1; simp only at h1; omega }; simp only at R3)
        | (go_at_call 15; refine (same_any _ _ _ _ _ _ _ _ _ _ es es _ ((HR.out.later hB3).later (below1 _ _)) (R3.later (below1 _ _)) hn hk3 (same_self _ _ _)).mono ?_; rintro e W4 ⟨rfl, hb4⟩; have hB4 := stp1 hB3 hb4))
      go_ret
      exact ⟨ret_bool (decide_eq_true (by omega)), hB4⟩
    · have HB : Hid (encB c wh es = []) := HN hx
      have e1 : (encX c wh es != 0) = true := by rw [bne_iff_ne]; exact hx
      obtain ⟨xx, hxx⟩ : ∃ xx, encX c wh es = xx := ⟨_, rfl⟩
      rw [hxx] at e1
      have HXX : Hid (encX c wh es = xx) := hxx
      clear HX HN hx hxx
      obtain ⟨v, hv⟩ : ∃ v, sameB c wh es 0 false [] = v := ⟨_, rfl⟩
      have HV : Hid (sameB c wh es 0 false [] = v) := hv
      clear hv
      go_enter Try.func5, Try.ntmps5
      go_wp2_with (first
        | (go_at_call 10; refine (awake_any _).mono ?_; rintro e W1 ⟨rfl, hb1⟩; obtain ⟨p0, p1, p2, pz⟩ := (P3.new w c wh a n cap).later hb1; have hB1 := Below.out1 hb1)
        | (go_at_call 11; refine (encode_any _ _ _ _ _ es _ (HR.out.later hB1) hn).mono ?_; rintro e W2 ⟨ad2, k2, cp2, rfl, own2, hb2⟩; obtain ⟨p0, p1, p2, pz⟩ := P3.later ⟨p0, p1, p2, pz⟩ hb2; have hB2 := stp hB1 hb2; rw [HXX.out]; have hk2 : 0 = k2 := by { have h1 := own2.1; rw [HB.out] at h1; simpa using h1 }; subst hk2; have hkc := own2.cap_le)
        | (go_at_call 13; refine (decode_any _ _ _ _ _ (own2.row HBy.out (by omega)) (by omega) hkc).mono ?_; rw [HB.out, dec_nil]; rintro e W3 ⟨ad3, k3, cp3, rfl, R3, hb3⟩; have hB3 := stp hB2 hb3; obtain ⟨p0, p1, p2, pz⟩ := P3.later ⟨p0, p1, p2, pz⟩ hb3; have hk3 : 0 = k3 := R3.1; subst hk3; simp only at R3)
        | (go_at_call 15; refine (same_any _ _ _ _ _ _ _ _ _ _ es [] _ ((HR.out.later hB3).later (below1 _ _)) (R3.later (below1 _ _)) hn (by omega) HV.out).mono ?_; rintro e W4 ⟨rfl, hb4⟩; have hB4 := stp1 hB3 hb4))
      go_ret
      exact ⟨rfl, hB4⟩
  · clear HX HN
    go_enter Try.func5, Try.ntmps5
    go_wp2_with (first
      | (go_at_call 10; refine (awake_any _).mono ?_; rintro e W1 ⟨rfl, hb1⟩; obtain ⟨p0, p1, p2, pz⟩ := (P3.new w c wh a n cap).later hb1; have hB1 := Below.out1 hb1))
    go_ret
    exact ⟨rfl, hB1⟩

set_option maxHeartbeats 1000000 in
theorem law_whole (a : Option Addr) (n cap : Nat) (l : List Int) (w : World) (hr : n ≤ 3000 → Row8 w a n l) (hc : n ≤ cap) :
    Calls Try.prog 9 #[.slice a n cap] w fun e w' => e = .returned (.bool true) ∧ Below w.heap.size w w' := by
  by_cases hn : n ≤ 3000
  · have HR : Hid (Row8 w a n l) := hr hn
    clear hr
    obtain ⟨pk, hpk⟩ : ∃ pk, dec l = pk := ⟨_, rfl⟩
    have hall := dec_all HR.out.2.2.1
    have hdec := fun W => decode_any a n cap l W
    have hwh := dec_whole (l := l)
    rw [hpk] at hall hwh
    simp only [hpk] at hdec
    obtain ⟨pc, pw, pes, px⟩ := pk
    simp only at hall hwh
    obtain ⟨h1, h2, h3, h4, h5, h6, h7⟩ := hall
    have HD : Hid (∀ W, Row8 W a n l → n ≤ 3000 → n ≤ cap → Calls Try.prog 13 #[.slice a n cap] W (Decoded W ⟨pc, pw, pes, px⟩)) := hdec
    obtain ⟨T1, hT1⟩ : ∃ T1, strOfNums l = T1 := ⟨_, rfl⟩
    obtain ⟨T2, hT2⟩ : ∃ T2, strOfNums ([1, 2, 0, 0] ++ wholeL) = T2 := ⟨_, rfl⟩
    have HT1 : Hid (strOfNums l = T1) := hT1
    have HT2 : Hid (strOfNums ([1, 2, 0, 0] ++ wholeL) = T2) := hT2
    have hq : (T1.toList == T2.toList) = decide (l = [1, 2, 0, 0] ++ wholeL) := by rw [← hT1, ← hT2]; exact strOf_eq HR.out.2.2.1 encW_bytes
    have key : (px = 0 ∧ pw = true ∧ pes = [] ∧ (T1.toList == T2.toList) = true) ∨ (px = 0 ∧ pw = false ∧ (T1.toList == T2.toList) = false) ∨ ((px == 0) = false ∧ pw = false ∧ (T1.toList == T2.toList) = false) := by
      rw [hq]
      by_cases hx : px = 0
      · cases hw : pw
        · refine .inr (.inl ⟨hx, rfl, ?_⟩)
          rw [decide_eq_false_iff_not]
          intro h
          have := hwh.2 h
          rw [hw] at this
          exact absurd this.2 (by simp)
        · exact .inl ⟨hx, rfl, h5 hw, by rw [decide_eq_true_eq]; exact hwh.1 ⟨hx, hw⟩⟩
      · refine .inr (.inr ⟨by rw [beq_eq_false_iff_ne]; exact hx, (h4 hx).2.1, ?_⟩)
        rw [decide_eq_false_iff_not]
        intro h
        exact hx (hwh.2 h).1
    clear h1 h2 h3 h4 h5 h6 h7 hwh hdec hpk hq hT1 hT2
    rcases key with ⟨rfl, rfl, rfl, hq⟩ | ⟨rfl, rfl, hq⟩ | ⟨hx, rfl, hq⟩
    · go_enter Try.func9, Try.ntmps9
      go_wp2_with (first
        | (go_at_call 10; refine (awake_any _).mono ?_; rintro e W1 ⟨rfl, hb1⟩)
        | (go_at_call 13; refine (HD.out _ (HR.out.later hb1) hn hc).mono ?_; rintro e W2 ⟨ad, k, cp, rfl, R2, hb2⟩; have hB2 := stp hb1 hb2; have hk : 0 = k := R2.1; subst hk)
        | (go_at_call 11; refine (encode_any _ _ _ _ _ [] _ (rowE_none _) (by omega)).mono ?_; rintro e W3 ⟨ad3, k3, cp3, rfl, own3, hb3⟩; have hB3 := stp1 hB2 hb3; rw [encW.1]; rw [encW.2] at own3; have hk3 : 24 = k3 := by { have h1 := own3.1; simpa [wholeL] using h1 }; subst hk3; have v2 := conv_any cap (HR.out.later hB3); have v3 := conv_any cp3 (own3.row encW_bytes (by omega)); rw [HT1.out] at v2; rw [HT2.out] at v3; obtain ⟨p0, p1, p2, pz⟩ := (P3.new W2 pc true ad 0 cp).later hb3))
      go_ret
      exact ⟨rfl, hB3⟩
    · go_enter Try.func9, Try.ntmps9
      go_wp2_with (first
        | (go_at_call 10; refine (awake_any _).mono ?_; rintro e W1 ⟨rfl, hb1⟩)
        | (go_at_call 13; refine (HD.out _ (HR.out.later hb1) hn hc).mono ?_; rintro e W2 ⟨ad, k, cp, rfl, R2, hb2⟩; have hB2 := stp hb1 hb2)
        | (go_at_call 11; refine (encode_any _ _ _ _ _ [] _ (rowE_none _) (by omega)).mono ?_; rintro e W3 ⟨ad3, k3, cp3, rfl, own3, hb3⟩; have hB3 := stp1 hB2 hb3; rw [encW.1]; rw [encW.2] at own3; have hk3 : 24 = k3 := by { have h1 := own3.1; simpa [wholeL] using h1 }; subst hk3; have v2 := conv_any cap (HR.out.later hB3); have v3 := conv_any cp3 (own3.row encW_bytes (by omega)); rw [HT1.out] at v2; rw [HT2.out] at v3; obtain ⟨p0, p1, p2, pz⟩ := (P3.new W2 pc false ad k cp).later hb3))
      go_ret
      exact ⟨rfl, hB3⟩
    · go_enter Try.func9, Try.ntmps9
      go_wp2_with (first
        | (go_at_call 10; refine (awake_any _).mono ?_; rintro e W1 ⟨rfl, hb1⟩)
        | (go_at_call 13; refine (HD.out _ (HR.out.later hb1) hn hc).mono ?_; rintro e W2 ⟨ad, k, cp, rfl, R2, hb2⟩; have hB2 := stp hb1 hb2)
        | (go_at_call 11; refine (encode_any _ _ _ _ _ [] _ (rowE_none _) (by omega)).mono ?_; rintro e W3 ⟨ad3, k3, cp3, rfl, own3, hb3⟩; have hB3 := stp1 hB2 hb3; rw [encW.1]; rw [encW.2] at own3; have hk3 : 24 = k3 := by { have h1 := own3.1; simpa [wholeL] using h1 }; subst hk3; have v2 := conv_any cap (HR.out.later hB3); have v3 := conv_any cp3 (own3.row encW_bytes (by omega)); rw [HT1.out] at v2; rw [HT2.out] at v3; obtain ⟨p0, p1, p2, pz⟩ := (P3.new W2 pc false ad k cp).later hb3))
      go_ret
      exact ⟨rfl, hB3⟩
  · clear hr
    go_enter Try.func9, Try.ntmps9
    go_wp2_with (first
      | (go_at_call 10; refine (awake_any _).mono ?_; rintro e W1 ⟨rfl, hb1⟩))
    go_ret
    exact ⟨rfl, hb1⟩
end Go.Proofs.Ytabpillcpnnidaa
