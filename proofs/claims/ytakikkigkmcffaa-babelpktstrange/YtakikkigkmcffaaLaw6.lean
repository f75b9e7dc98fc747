/- The law BabelpktStrange, walked. -/
import Derived.Test.YtakikkigkmcffaaLaw5
namespace Go.Proofs.Ytakikkigkmcffaa
open Go.RowKit

/-- One's own bytes, some of them: where they lie. -/
theorem Own8.head {w : World} {base : Nat} {e : TypeId} {a : Option Addr} {k n cp : Nat} {l : List Int} (h : Own8 w base e (.slice a k cp) n l) (hB : Bytes l) (hn : n ≤ 100000) (h0 : 0 < n) :
    ∃ g, a = some ⟨g, 0, none⟩ ∧ base ≤ g ∧ g < w.heap.size ∧ Row8 w (some ⟨g, 0, none⟩) n l ∧ ∀ o, w.frozen? ⟨g, o, none⟩ = false := by
  have hr := h.row hB hn
  rcases h.2 with ⟨_, h1⟩ | ⟨g, c, cur, hv, hbg, hg, _⟩
  · omega
  · simp only [Value.slice.injEq] at hv
    obtain ⟨rfl, -, -⟩ := hv
    exact ⟨g, rfl, hbg, (Array.getElem?_eq_some_iff.1 hg).1, hr, fun o => by simp [World.frozen?, hg]⟩
theorem row8_set2 {W : World} {g n : Nat} {l : List Int} {x y : Int} (h : Row8 W (some ⟨g, 0, none⟩) n l) (hn : 4 ≤ n) (x0 : 0 ≤ x) (x1 : x ≤ 255) (y0 : 0 ≤ y) (y1 : y ≤ 255) :
    Row8 ((W.setCell ⟨g, 2, none⟩ (.int .u8 x)).setCell ⟨g, 3, none⟩ (.int .u8 y)) (some ⟨g, 0, none⟩) n ((l.set 2 x).set 3 y) := by
  obtain ⟨h1, h2, h3, h4⟩ := h
  have hc : ∀ i, i < n → W.cell? ⟨g, i, none⟩ = some (.int .u8 (l[i]?.getD 0)) := fun i hi => by
    obtain ⟨b, off, e, hc⟩ := h4 i hi
    simp only [Option.some.injEq, Addr.mk.injEq, and_true] at e
    obtain ⟨rfl, rfl⟩ := e
    simpa using hc
  refine ⟨by simpa using h1, h2, fun z hz => ?_, fun i hi => ⟨g, 0, rfl, ?_⟩⟩
  · rcases List.mem_or_eq_of_mem_set hz with hz | rfl
    · rcases List.mem_or_eq_of_mem_set hz with hz | rfl
      · exact h3 z hz
      · exact ⟨x0, x1⟩
    · exact ⟨y0, y1⟩
  · rw [Nat.zero_add]
    have c2 : (W.setCell ⟨g, 2, none⟩ (.int .u8 x)).cell? ⟨g, 3, none⟩ = some (.int .u8 (l[3]?.getD 0)) := by
      rw [World.cell?_setCell_other _ _ _ _ (by simp)]; exact hc 3 (by omega)
    by_cases h3' : i = 3
    · subst h3'
      rw [World.cell?_setCell_same _ _ _ c2]
      simp [h1, hi]
    · rw [World.cell?_setCell_other _ _ _ _ (by simp only [ne_eq, Addr.mk.injEq, true_and, and_true]; omega)]
      by_cases h2' : i = 2
      · subst h2'
        rw [World.cell?_setCell_same _ _ _ (hc 2 (by omega))]
        simp [h1, hi]
      · rw [World.cell?_setCell_other _ _ _ _ (by simp only [ne_eq, Addr.mk.injEq, true_and, and_true]; omega), hc i hi]
        rw [List.getElem?_set_ne (by omega), List.getElem?_set_ne (by omega)]
theorem strange_pack (B d : List Int) (k m : Int) (hm : (d.length : Int) = m) {x y : Int} (hx : ((B ++ tlvB k d).length : Int) / 256 = x) (hy : ((B ++ tlvB k d).length : Int) % 256 = y) :
    (((pack B ++ [k] ++ [m] ++ d).set 2 x).set 3 y) = pack (B ++ tlvB k d) := by
  subst hx hy hm
  simp [pack, b2, tlvB]
set_option maxHeartbeats 2000000 in
theorem law_strange (a : Option Addr) (n cap : Nat) (ts : List Tlv) (kd : Int) (a3 : Option Addr) (m cap3 : Nat) (l3 : List Int) (w : World) (hr : RowT w a n ts) (k0 : 0 ≤ kd) (k1 : kd ≤ 255) (hr3 : m ≤ 3000 → Row8 w a3 m l3) :
    Calls Try.prog 9 #[.slice a n cap, .int .u8 kd, .slice a3 m cap3] w fun e w' => e = .returned (.bool true) ∧ Below w.heap.size w w' := by
  have HR : Hid (RowT w a n ts) := hr
  have HBy : Hid (Bytes (encB ts)) := encB_bytes hr.2.1
  have HSh : Hid ((encB ts).length ≤ 1284) := encB_short _
  have HTs : Hid (Tlvs ts) := hr.2.1
  have out : ∀ (_ : (20 : Int) < (n : Int) ∨ ¬ (20 : Int) < (n : Int) ∧ ((100 : Int) < (m : Int) ∨ ¬ (100 : Int) < (m : Int) ∧ (4 ≤ kd ∧ kd ≤ 10 ∧ (kd != 7) = true))), Calls Try.prog 9 #[.slice a n cap, .int .u8 kd, .slice a3 m cap3] w fun e w' => e = .returned (.bool true) ∧ Below w.heap.size w w' := by
    intro h
    clear hr hr3
    rcases h with h1 | ⟨h1, h2 | ⟨h2, h3, h4, h5⟩⟩
    all_goals
      go_enter Try.func9, Try.ntmps9
      go_wp2_with (go_at_call 11; refine (awake_any _).mono ?_; rintro e W1 ⟨rfl, hb1⟩)
      go_ret
      exact ⟨rfl, hb1⟩
  by_cases h1 : (20 : Int) < (n : Int)
  · exact out (.inl h1)
  by_cases h2 : (100 : Int) < (m : Int)
  · exact out (.inr ⟨h1, .inl h2⟩)
  by_cases h3 : 4 ≤ kd ∧ kd ≤ 10 ∧ kd ≠ 7
  · exact out (.inr ⟨h1, .inr ⟨h2, h3.1, h3.2.1, by simpa using h3.2.2⟩⟩)
  have key : ¬ 4 ≤ kd ∨ (4 ≤ kd ∧ ¬ kd ≤ 10) ∨ (4 ≤ kd ∧ kd ≤ 10 ∧ (kd != 7) = false) := by
    by_cases g1 : 4 ≤ kd
    · by_cases g2 : kd ≤ 10
      · exact .inr (.inr ⟨g1, g2, by simp; omega⟩)
      · exact .inr (.inl ⟨g1, g2⟩)
    · exact .inl g1
  have HStr : Hid (kd < 4 ∨ kd = 7 ∨ 10 < kd) := by unfold Hid; omega
  clear out h3
  have HR3 : Hid (Row8 w a3 m l3) := hr3 (by omega)
  clear hr hr3
  by_cases hx : encX ts = 0
  · obtain ⟨q, hq⟩ : ∃ q, (encB ts).length = q := ⟨_, rfl⟩
    have HXX : Hid (encX ts = 0) := hx
    have HQ : Hid ((encB ts).length = q) := hq
    have hq4 : q ≤ 1284 := by rw [← hq]; exact HSh.out
    have hq0 : 4 ≤ q := by rw [← hq, encB_good hx, pack_len]; omega
    have HKB : Hid (Bytes [kd]) := fun z hz => by simp at hz; subst hz; exact ⟨k0, k1⟩
    have HMB : Hid (Bytes [(m : Int)]) := fun z hz => by simp at hz; subst hz; exact ⟨by omega, by omega⟩
    obtain ⟨k5, hk5⟩ : ∃ k5, q + 1 + 1 + m = k5 := ⟨_, rfl⟩
    have HK5 : Hid (q + 1 + 1 + m = k5) := hk5
    have hk5b : k5 ≤ 3000 := by omega
    have hk50 : 4 < k5 := by omega
    obtain ⟨n4, hn4⟩ : ∃ n4, n4 = k5 - 4 := ⟨_, rfl⟩
    have hn4b : n4 ≤ 3000 := by omega
    have w4 : IntKind.i64.wrap ((k5 : Int) - 4) = (n4 : Int) := by rw [wrap_in (by omega) (by omega)]; omega
    obtain ⟨x, hxx⟩ : ∃ x, (n4 : Int) / 256 = x := ⟨_, rfl⟩
    obtain ⟨y, hyy⟩ : ∃ y, (n4 : Int) % 256 = y := ⟨_, rfl⟩
    have x0 : 0 ≤ x := by omega
    have x1 : x ≤ 255 := by omega
    have y0 : 0 ≤ y := by omega
    have y1 : y ≤ 255 := by omega
    have ed : (n4 : Int).tdiv 256 = x := by rw [Int.tdiv_eq_ediv_of_nonneg (by omega)]; exact hxx
    have em : (n4 : Int).tmod 256 = y := by rw [Int.tmod_eq_emod_of_nonneg (by omega)]; exact hyy
    have ex1 : IntKind.i64.wrap x = x := wrap_in (by omega) (by omega)
    have ey1 : IntKind.i64.wrap y = y := wrap_in (by omega) (by omega)
    have ex2 : IntKind.u8.wrap x = x := wrap8 x0 x1
    have ey2 : IntKind.u8.wrap y = y := wrap8 y0 y1
    have em8 : IntKind.u8.wrap (m : Int) = (m : Int) := wrap8 (by omega) (by omega)
    have HP : Hid ((((encB ts ++ [kd] ++ [(m : Int)] ++ l3).set 2 x).set 3 y) = pack (body kn0 ts ++ tlvB kd l3)) := by
      have hl : ((body kn0 ts ++ tlvB kd l3).length : Int) = (n4 : Int) := by
        have h := HQ.out
        rw [encB_good hx, pack_len] at h
        rw [List.length_append, tlvB_len, HR3.out.1]
        omega
      unfold Hid
      rw [encB_good hx]
      exact strange_pack _ _ _ _ (by rw [HR3.out.1]) (by rw [hl]; exact hxx) (by rw [hl]; exact hyy)
    have HD : Hid (dec (pack (body kn0 ts ++ tlvB kd l3)) = (ts, 0)) := dec_strange HTs.out hx HStr.out (by rw [HR3.out.1]; omega)
    have HB5 : Hid (Bytes (encB ts ++ [kd] ++ [(m : Int)] ++ l3)) := ((HBy.out.append HKB.out).append HMB.out).append HR3.out.2.2.1
    have j2 : (2 : Int) < (k5 : Int) := by omega
    have j3 : (3 : Int) < (k5 : Int) := by omega
    clear hx hq hk5 hn4 hxx hyy
    rcases key with h3 | ⟨h3, h4⟩ | ⟨h3, h4, h5⟩
    all_goals
      go_enter Try.func9, Try.ntmps9
      go_wp2_with (first
        | (go_at_call 11; refine (awake_any _).mono ?_; rintro e W1 ⟨rfl, hb1⟩)
        | (go_at_call 12; refine (encode_any _ _ _ ts _ (HR.out.later hb1) (by omega)).mono ?_; rintro e W2 ⟨ad2, k2, cp2, rfl, own2, hb2⟩; rw [HXX.out]; have hk2 : q = k2 := by { have h1 := own2.len; have h2 := HQ.out; omega }; subst hk2)
        | (at_builtin; refine wpList_app8 _ rfl (.tmp 47) (.tmp 49) 25 5 rfl W1.heap.size Try.underlying25 info5 _ q _ rfl (own2.later (below1 _ _)) _ 1 1 [kd] rfl (row8_at W2 _ rfl [kd] 5 1 rfl HKB.out (by simp)) (q + 1) (by omega) _ rfl (by omega) (by have := hb2.size; simp; omega) ?_; intro a4 c4 W4 own4 hb4; have hC4 := (hb2.trans ((below1 W2 _).mono hb2.size)).trans hb4)
        | (at_builtin; refine wpList_app8 _ rfl (.tmp 51) (.tmp 55) 25 5 rfl W1.heap.size Try.underlying25 info5 _ (q + 1) _ rfl (own4.later (below1 _ _)) _ 1 1 [(m : Int)] rfl (row8_at W4 _ rfl [(m : Int)] 5 1 rfl HMB.out (by simp)) (q + 1 + 1) (by omega) _ rfl (by omega) (by have := hC4.size; simp; omega) ?_; intro a5 c5 W5 own5 hb5; have hC5 := (hC4.trans ((below1 W4 _).mono hC4.size)).trans hb5)
        | (at_builtin; refine wpList_app8 _ rfl (.tmp 57) (.tmp 58) 25 5 rfl W1.heap.size Try.underlying25 info5 _ (q + 1 + 1) _ rfl own5 _ _ _ l3 rfl ((HR3.out.later hb1).later hC5) k5 HK5.out _ rfl (by omega) hC5.size ?_; intro a6 c6 W6 own6 hb6; have hC6 := hC5.trans hb6; have CL6 : Hid (k5 ≤ c6) := own6.cap_le; obtain ⟨g, rfl, hg, hgz, row6, nf6⟩ := own6.head HB5.out (by omega) (by omega); have ROW6 : Hid (_) := row6; obtain ⟨-, -, -, hcl⟩ := row6; obtain ⟨b2, o2, e2, cl2⟩ := hcl 2 (by omega); obtain ⟨b3, o3, e3, cl3⟩ := hcl 3 (by omega); simp only [Option.some.injEq, Addr.mk.injEq, and_true] at e2 e3; obtain ⟨rfl, rfl⟩ := e2; obtain ⟨rfl, rfl⟩ := e3; rw [Nat.zero_add] at cl2 cl3; clear hcl)
        | (go_at_call 16; (have R6 := row8_set2 ROW6.out (by omega) x0 x1 y0 y1; rw [HP.out] at R6; refine (decode_any _ _ _ _ _ R6 (by omega) CL6.out).mono ?_; rw [HD.out]; rintro e W7 ⟨ad7, k7, cp7, rfl, R7, hb7⟩; have hC7 := ((hC6.setCell (p := ⟨g, 2, none⟩) hg (.int .u8 x)).setCell (p := ⟨g, 3, none⟩) hg (.int .u8 y)).trans (hb7.mono (by have := hC6.size; simp; omega)); have hB7 := stp hb1 hC7))
        | (go_at_call 18; (refine (same_any _ _ _ ts _ _ _ ts _ (HR.out.later hB7) R7 (by omega) (decide_eq_true rfl)).mono ?_; rintro e W8 ⟨rfl, hb8⟩; have hB8 := stp hB7 hb8)))
      go_ret
      exact ⟨rfl, hB8⟩
  · obtain ⟨xx, hxx⟩ : ∃ xx, encX ts = xx := ⟨_, rfl⟩
    have e1 : (xx != 0) = true := by rw [bne_iff_ne, ← hxx]; exact hx
    have HXX : Hid (encX ts = xx) := hxx
    clear hx hxx HStr
    rcases key with h3 | ⟨h3, h4⟩ | ⟨h3, h4, h5⟩
    all_goals
      go_enter Try.func9, Try.ntmps9
      go_wp2_with (first
        | (go_at_call 11; refine (awake_any _).mono ?_; rintro e W1 ⟨rfl, hb1⟩)
        | (go_at_call 12; refine (encode_any _ _ _ ts _ (HR.out.later hb1) (by omega)).mono ?_; rintro e W2 ⟨ad2, k2, cp2, rfl, own2, hb2⟩; have hB2 := stp hb1 hb2; rw [HXX.out]))
      go_ret
      exact ⟨rfl, hB2⟩
end Go.Proofs.Ytakikkigkmcffaa
