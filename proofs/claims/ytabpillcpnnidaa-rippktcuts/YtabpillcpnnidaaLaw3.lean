/- The law RippktCuts, walked. -/
import Derived.Test.YtabpillcpnnidaaLaw2
namespace Go.Proofs.Ytabpillcpnnidaa
open Go.RowKit

theorem dec_odd' {l : List Int} (h : l.length < 4 ∨ (l.length - 4) % 20 ≠ 0) : ∃ c w es, dec l = ⟨c, w, es, 2⟩ := by
  have hx := dec_odd h
  obtain ⟨pk, hpk⟩ : ∃ pk, dec l = pk := ⟨_, rfl⟩
  rw [hpk] at hx ⊢
  obtain ⟨c, w, es, x⟩ := pk
  simp only at hx
  exact ⟨c, w, es, by rw [hx]⟩

set_option maxHeartbeats 1000000 in
theorem cuts_no (c : Int) (wh : Bool) (a : Option Addr) (n cap : Nat) (cut : Int) (a3 : Option Addr) (m cap3 : Nat) (w : World) (h : 25 < n ∨ cut < 1 ∨ 19 < cut ∨ m < 1 ∨ 19 < m) :
    Calls Try.prog 7 #[.agg #[.int .i64 c, .bool wh, .slice a n cap], .int .i64 cut, .slice a3 m cap3] w fun e w' => e = .returned (.bool true) ∧ Below w.heap.size w w' := by
  have key : 25 < (n : Int) ∨ (¬ 25 < (n : Int) ∧ cut < 1) ∨ (¬ 25 < (n : Int) ∧ ¬ cut < 1 ∧ 19 < cut) ∨ (¬ 25 < (n : Int) ∧ ¬ cut < 1 ∧ ¬ 19 < cut ∧ (m : Int) < 1) ∨ (¬ 25 < (n : Int) ∧ ¬ cut < 1 ∧ ¬ 19 < cut ∧ ¬ (m : Int) < 1 ∧ 19 < (m : Int)) := by omega
  clear h
  rcases key with h1 | ⟨h1, h2⟩ | ⟨h1, h2, h3⟩ | ⟨h1, h2, h3, h4⟩ | ⟨h1, h2, h3, h4, h5⟩
  all_goals
    go_enter Try.func7, Try.ntmps7
    go_wp2_with (first
      | (go_at_call 10; refine (awake_any _).mono ?_; rintro e W1 ⟨rfl, hb1⟩; obtain ⟨p0, p1, p2, pz⟩ := (P3.new w c wh a n cap).later hb1; have hB1 := Below.out1 hb1))
    go_ret
    exact ⟨rfl, hB1⟩

set_option maxHeartbeats 2000000 in
theorem law_cuts (c : Int) (wh : Bool) (a : Option Addr) (n cap : Nat) (es : List Ent) (cut : Int) (a3 : Option Addr) (m cap3 : Nat) (l3 : List Int) (w : World) (hr : RowE w a n es) (hr3 : m ≤ 3000 → Row8 w a3 m l3) :
    Calls Try.prog 7 #[.agg #[.int .i64 c, .bool wh, .slice a n cap], .int .i64 cut, .slice a3 m cap3] w fun e w' => e = .returned (.bool true) ∧ Below w.heap.size w w' := by
  by_cases h : 25 < n ∨ cut < 1 ∨ 19 < cut ∨ m < 1 ∨ 19 < m
  · exact cuts_no c wh a n cap cut a3 m cap3 w h
  have hn : n ≤ 25 := by omega
  have hn' : ¬ 25 < (n : Int) := by omega
  obtain ⟨cn, rfl⟩ : ∃ cn : Nat, cut = (cn : Int) := ⟨cut.toNat, by omega⟩
  have h1 : ¬ (cn : Int) < 1 := by omega
  have h2 : ¬ 19 < (cn : Int) := by omega
  have h3 : ¬ (m : Int) < 1 := by omega
  have h4 : ¬ 19 < (m : Int) := by omega
  have HR : Hid (RowE w a n es) := hr
  have HR3 : Hid (Row8 w a3 m l3) := hr3 (by omega)
  have HBy : Hid (Bytes (encB c wh es)) := encB_bytes hr.2.1
  have HSh : Hid ((encB c wh es).length ≤ 504) := encB_short _ _ _
  clear hr hr3 h
  by_cases hx : encX c wh es = 0
  · obtain ⟨q, hq, hq25, -⟩ := encB_len hx
    have HXX : Hid (encX c wh es = 0) := hx
    have HQ : Hid ((encB c wh es).length = 4 + 20 * q) := hq
    have HJ1 : Hid (∃ pc pw pes, dec (encB c wh es ++ l3) = ⟨pc, pw, pes, 2⟩) := dec_odd' (.inr (by rw [List.length_append, hq, HR3.out.1]; omega))
    have HB2 : Hid (Bytes (encB c wh es ++ l3)) := HBy.out.append HR3.out.2.2.1
    have HJ2 : Hid (∀ j, j + cn = 4 + 20 * q ∨ (j = 0) → ∃ pc pw pes, dec ((encB c wh es).take j) = ⟨pc, pw, pes, 2⟩) := fun j hj => by
      refine dec_odd' ?_
      rw [List.length_take, hq]
      omega
    obtain ⟨c1, w1, es1, hd1⟩ := HJ1.out
    have HD1 : Hid (dec (encB c wh es ++ l3) = ⟨c1, w1, es1, 2⟩) := hd1
    clear hx hq HJ1 hd1
    by_cases hneg : 4 + 20 * q < cn
    · have hd2 := HJ2.out 0 (.inr rfl)
      obtain ⟨c2, w2, es2, hd2⟩ := hd2
      have HD2 : Hid (dec ((encB c wh es).take 0) = ⟨c2, w2, es2, 2⟩) := hd2
      obtain ⟨k5, hk5⟩ : ∃ k5, 4 + 20 * q + m = k5 := ⟨_, rfl⟩
      have HK5 : Hid (4 + 20 * q + m = k5) := hk5
      have hk5b : k5 ≤ 3000 := by omega
      clear hd2 HJ2 hk5
      go_enter Try.func7, Try.ntmps7
      go_wp2_with (first
        | (go_at_call 10; refine (awake_any _).mono ?_; rintro e W1 ⟨rfl, hb1⟩; obtain ⟨p0, p1, p2, pz⟩ := (P3.new w c wh a n cap).later hb1; have hB1 := Below.out1 hb1)
        | (go_at_call 11; refine (encode_any _ _ _ _ _ es _ (HR.out.later hB1) (by omega)).mono ?_; rintro e W2 ⟨ad2, k2, cp2, rfl, own2, hb2⟩; have hB2 := stp hB1 hb2; rw [HXX.out]; have hk2 : 4 + 20 * q = k2 := by { have h1 := own2.1; have h2 := HQ.out; simp at h1; omega }; subst hk2; have hkc := own2.cap_le; have R2 := own2.row HBy.out (by omega))
        | (at_builtin; refine wpList_app8 _ rfl (.const (.slice none 0 0)) (.tmp 51) 26 5 rfl W2.heap.size Try.underlying26 info5 _ 0 [] rfl (own8_nil _ _ _) _ _ _ _ rfl R2 (4 + 20 * q) (by omega) _ rfl (by omega) (Nat.le_refl _) ?_; intro a4 c4 W4 own4 hb4; have hB4 := stp hB2 hb4)
        | (at_builtin; refine wpList_app8 _ rfl (.tmp 52) (.tmp 53) 26 5 rfl W2.heap.size Try.underlying26 info5 _ _ _ rfl own4 _ _ _ l3 rfl (HR3.out.later hB4) k5 HK5.out _ rfl (by omega) hb4.size ?_; intro a5 c5 W5 own5 hb5; have hB5 := stp hB2 (hb4.trans hb5); have hb25 := hb4.trans hb5; rw [List.nil_append] at own5)
        | (go_at_call_of 13 (Value.slice a5 k5 c5); refine (decode_any _ _ _ _ _ (own5.row HB2.out (by omega)) (by omega) own5.cap_le).mono ?_; rw [HD1.out]; rintro e W6 ⟨ad6, k6, cp6, rfl, R6, hb6⟩; have hB6 := stp hB5 hb6)
        | (go_at_call 13; refine (decode_any _ _ _ _ _ (((R2.take 0 (by omega)).later hb25).later (stp hb6 (below1 _ _))) (by omega) (by omega)).mono ?_; rw [HD2.out]; rintro e W7 ⟨ad7, k7, cp7, rfl, R7, hb7⟩; have hB7 := stp1 hB6 hb7))
      go_ret
      exact ⟨rfl, stp hB7 (below1 _ _)⟩
    · obtain ⟨j, hj⟩ : ∃ j, j + cn = 4 + 20 * q := ⟨4 + 20 * q - cn, by omega⟩
      have hd2 := HJ2.out j (.inl hj)
      obtain ⟨c2, w2, es2, hd2⟩ := hd2
      have HD2 : Hid (dec ((encB c wh es).take j) = ⟨c2, w2, es2, 2⟩) := hd2
      have HK : Hid (j + cn = 4 + 20 * q) := hj
      have hjb : j ≤ 504 := by omega
      clear hd2 HJ2 hneg hj
      go_enter Try.func7, Try.ntmps7
      go_wp2_with (first
        | (go_at_call 10; refine (awake_any _).mono ?_; rintro e W1 ⟨rfl, hb1⟩; obtain ⟨p0, p1, p2, pz⟩ := (P3.new w c wh a n cap).later hb1; have hB1 := Below.out1 hb1)
        | (go_at_call 11; refine (encode_any _ _ _ _ _ es _ (HR.out.later hB1) (by omega)).mono ?_; rintro e W2 ⟨ad2, k2, cp2, rfl, own2, hb2⟩; have hB2 := stp hB1 hb2; rw [HXX.out]; have hk2 : j + cn = k2 := by { have h1 := own2.1; have h2 := HQ.out; have h3 := HK.out; simp at h1; omega }; subst hk2; have hkc := own2.cap_le; have R2 := own2.row HBy.out (by omega))
        | (at_builtin; refine wpList_app8 _ rfl (.const (.slice none 0 0)) (.tmp 51) 26 5 rfl W2.heap.size Try.underlying26 info5 _ 0 [] rfl (own8_nil _ _ _) _ _ _ _ rfl R2 (j + cn) (by omega) _ rfl (by omega) (Nat.le_refl _) ?_; intro a4 c4 W4 own4 hb4; have hB4 := stp hB2 hb4)
        | (at_builtin; refine wpList_app8 _ rfl (.tmp 52) (.tmp 53) 26 5 rfl W2.heap.size Try.underlying26 info5 _ _ _ rfl own4 _ _ _ l3 rfl (HR3.out.later hB4) (j + cn + m) rfl _ rfl (by omega) hb4.size ?_; intro a5 c5 W5 own5 hb5; have hB5 := stp hB2 (hb4.trans hb5); have hb25 := hb4.trans hb5; rw [List.nil_append] at own5)
        | (go_at_call_of 13 (Value.slice a5 (j + cn + m) c5); refine (decode_any _ _ _ _ _ (own5.row HB2.out (by omega)) (by omega) own5.cap_le).mono ?_; rw [HD1.out]; rintro e W6 ⟨ad6, k6, cp6, rfl, R6, hb6⟩; have hB6 := stp hB5 hb6)
        | (go_at_call 13; refine (decode_any _ _ _ _ _ (((R2.take j (by omega)).later hb25).later (stp hb6 (below1 _ _))) (by omega) (by omega)).mono ?_; rw [HD2.out]; rintro e W7 ⟨ad7, k7, cp7, rfl, R7, hb7⟩; have hB7 := stp1 hB6 hb7))
      go_ret
      exact ⟨rfl, stp hB7 (below1 _ _)⟩
  · obtain ⟨xx, hxx⟩ : ∃ xx, encX c wh es = xx := ⟨_, rfl⟩
    have e1 : (xx != 0) = true := by rw [bne_iff_ne, ← hxx]; exact hx
    have HXX : Hid (encX c wh es = xx) := hxx
    clear hx hxx
    go_enter Try.func7, Try.ntmps7
    go_wp2_with (first
      | (go_at_call 10; refine (awake_any _).mono ?_; rintro e W1 ⟨rfl, hb1⟩; obtain ⟨p0, p1, p2, pz⟩ := (P3.new w c wh a n cap).later hb1; have hB1 := Below.out1 hb1)
      | (go_at_call 11; refine (encode_any _ _ _ _ _ es _ (HR.out.later hB1) (by omega)).mono ?_; rintro e W2 ⟨ad2, k2, cp2, rfl, own2, hb2⟩; have hB2 := stp hB1 hb2; rw [HXX.out]))
    go_ret
    exact ⟨rfl, hB2⟩
end Go.Proofs.Ytabpillcpnnidaa
