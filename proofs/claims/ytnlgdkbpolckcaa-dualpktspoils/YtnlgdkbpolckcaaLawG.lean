/- The law DualpktSpoils, walked. -/
import Derived.Test.YtnlgdkbpolckcaaLawF
namespace Go.Proofs.Ytnlgdkbpolckcaa
open Go.RowKit

theorem row8_set1 {W : World} {g n : Nat} {l : List Int} {x : Int} {j : Nat} (h : Row8 W (some ⟨g, 0, none⟩) n l) (hj : j < n) (x0 : 0 ≤ x) (x1 : x ≤ 255) :
    Row8 (W.setCell ⟨g, j, none⟩ (.int .u8 x)) (some ⟨g, 0, none⟩) n (l.set j x) := by
  obtain ⟨h1, h2, h3, h4⟩ := h
  have hc : ∀ i, i < n → W.cell? ⟨g, i, none⟩ = some (.int .u8 (l[i]?.getD 0)) := fun i hi => by
    obtain ⟨b, off, e, hc⟩ := h4 i hi
    simp only [Option.some.injEq, Addr.mk.injEq, and_true] at e
    obtain ⟨rfl, rfl⟩ := e
    simpa using hc
  refine ⟨by simpa using h1, h2, h3.set j x ⟨x0, x1⟩, fun i hi => ⟨g, 0, rfl, ?_⟩⟩
  rw [Nat.zero_add]
  by_cases hij : i = j
  · subst hij
    rw [World.cell?_setCell_same _ _ _ (hc i hi)]
    simp [h1, hi]
  · rw [World.cell?_setCell_other _ _ _ _ (by simp only [ne_eq, Addr.mk.injEq, true_and, and_true]; omega), hc i hi, List.getElem?_set_ne (by omega)]
set_option maxHeartbeats 2000000 in
theorem law_spoils (c : Int) (i : Bool) (s k : Int) (ad : Option Addr) (n cap : Nat) (es : List Ent) (tt v : Int) (w : World) (hr : RowE w ad n es) (hp : Pk.Ok ⟨c, i, s, k, es⟩) (v0 : 0 ≤ v) (v1 : v ≤ 255) :
    Calls Try.prog 7 #[valP c i s k ad n cap, .int .i64 tt, .int .u8 v] w fun e w' => e = .returned (.bool true) ∧ Below w.heap.size w w' := by
  have DA : Hid (_) := @decode_any
  have HR : Hid (RowE w ad n es) := hr
  have HBy : Hid (Bytes (encB ⟨c, i, s, k, es⟩)) := encB_bytes hp
  have HSh : Hid ((encB ⟨c, i, s, k, es⟩).length ≤ 816) := encB_short _
  have HSp : Hid (_) := @dec_spoil _ hp
  have s0 : 0 ≤ s := hp.s0
  have s1 : s ≤ 4294967295 := hp.s1
  have k0 : 0 ≤ k := hp.k0
  have k1 : k ≤ 4294967295 := hp.k1
  clear hr hp
  by_cases h1 : (40 : Int) < (n : Int)
  · clear HSp
    go_enter Try.func7, Try.ntmps7
    go_wp2_with (go_at_call 9; refine (awake_any _).mono ?_; rintro e W1 ⟨rfl, hb1⟩; obtain ⟨g0, g1, g2, g3, g4, gz⟩ := (P5.new w c i s k ad n cap).later hb1)
    go_ret
    exact ⟨rfl, Below.out1 hb1⟩
  by_cases h2 : tt < 0
  · clear HSp
    go_enter Try.func7, Try.ntmps7
    go_wp2_with (go_at_call 9; refine (awake_any _).mono ?_; rintro e W1 ⟨rfl, hb1⟩; obtain ⟨g0, g1, g2, g3, g4, gz⟩ := (P5.new w c i s k ad n cap).later hb1)
    go_ret
    exact ⟨rfl, Below.out1 hb1⟩
  by_cases hx : encX ⟨c, i, s, k, es⟩ = 0
  case neg =>
    obtain ⟨x, hx'⟩ : ∃ x, encX ⟨c, i, s, k, es⟩ = x := ⟨_, rfl⟩
    have HX : Hid (encX ⟨c, i, s, k, es⟩ = x) := hx'
    have e0 : (x != 0) = true := by rw [← hx']; simpa using hx
    clear hx hx' HSp
    go_enter Try.func7, Try.ntmps7
    go_wp2_with (first
      | (go_at_call 9; refine (awake_any _).mono ?_; rintro e W1 ⟨rfl, hb1⟩; obtain ⟨g0, g1, g2, g3, g4, gz⟩ := (P5.new w c i s k ad n cap).later hb1; have hB1 := Below.out1 hb1)
      | (go_at_call 10; refine (encode_any c i s k ad n cap es _ (HR.out.later hB1) (by omega) s0 s1 k0 k1).mono ?_; rintro e W2 ⟨a2, m2, p2, rfl, own2, hb2⟩; rw [HX.out]; have hB2 := stp hB1 hb2))
    go_ret
    exact ⟨rfl, hB2⟩
  have HX : Hid (encX ⟨c, i, s, k, es⟩ = 0) := hx
  obtain ⟨j, rfl⟩ : ∃ j : Nat, tt = (j : Int) := ⟨tt.toNat, by omega⟩
  obtain ⟨q, hq⟩ : ∃ q, (encB ⟨c, i, s, k, es⟩).length = q := ⟨_, rfl⟩
  have HQ : Hid ((encB ⟨c, i, s, k, es⟩).length = q) := hq
  have hq8 : q ≤ 816 := by rw [← hq]; exact HSh.out
  by_cases hj : (q : Int) ≤ (j : Int)
  · clear HSp hx hq
    go_enter Try.func7, Try.ntmps7
    go_wp2_with (first
      | (go_at_call 9; refine (awake_any _).mono ?_; rintro e W1 ⟨rfl, hb1⟩; obtain ⟨g0, g1, g2, g3, g4, gz⟩ := (P5.new w c i s k ad n cap).later hb1; have hB1 := Below.out1 hb1)
      | (go_at_call 10; refine (encode_any c i s k ad n cap es _ (HR.out.later hB1) (by omega) s0 s1 k0 k1).mono ?_; rintro e W2 ⟨a2, m2, p2, rfl, own2, hb2⟩; rw [HX.out]; have hB2 := stp hB1 hb2; have hk2 : q = m2 := by { have h1 := own2.len; have h2 := HQ.out; omega }; subst hk2))
    go_ret
    exact ⟨rfl, hB2⟩
  have hjq : (j : Int) < (q : Int) := by omega
  have hjn : j < q := by omega
  obtain ⟨y, hy⟩ : ∃ y, (encB ⟨c, i, s, k, es⟩)[j]?.getD 0 = y := ⟨_, rfl⟩
  have HY : Hid ((encB ⟨c, i, s, k, es⟩)[j]?.getD 0 = y) := hy
  by_cases hyv : y = v
  · subst hyv
    clear HSp hx hq hy
    go_enter Try.func7, Try.ntmps7
    go_wp2_with (first
      | (go_at_call 9; refine (awake_any _).mono ?_; rintro e W1 ⟨rfl, hb1⟩; obtain ⟨g0, g1, g2, g3, g4, gz⟩ := (P5.new w c i s k ad n cap).later hb1; have hB1 := Below.out1 hb1)
      | (go_at_call 10; refine (encode_any c i s k ad n cap es _ (HR.out.later hB1) (by omega) s0 s1 k0 k1).mono ?_; rintro e W2 ⟨a2, m2, p2, rfl, own2, hb2⟩; rw [HX.out]; have hB2 := stp hB1 hb2; have hk2 : q = m2 := by { have h1 := own2.len; have h2 := HQ.out; omega }; subst hk2; obtain ⟨g, rfl, hg, hgz, row2, nf2⟩ := own2.head HBy.out (by omega) (by omega); obtain ⟨b_, o_, e_, cl⟩ := row2.2.2.2 j hjn; simp only [Option.some.injEq, Addr.mk.injEq, and_true] at e_; obtain ⟨rfl, rfl⟩ := e_; rw [Nat.zero_add, HY.out] at cl))
    go_ret
    exact ⟨rfl, hB2⟩
  have hne : (y == v) = false := by simpa using hyv
  obtain ⟨⟨c2, i2, s2, k2, es2⟩, x, hd⟩ : ∃ p x, dec ((encB ⟨c, i, s, k, es⟩).set j v) = (p, x) := ⟨_, _, rfl⟩
  have HD : Hid (dec ((encB ⟨c, i, s, k, es⟩).set j v) = (⟨c2, i2, s2, k2, es2⟩, x)) := hd
  have hx0 : (x != 0) = true := by
    have h := HSp.out hx (j := j) (by rw [hq]; exact hjn) (v := v) ⟨v0, v1⟩ (by unfold at8; rw [hy]; exact fun h => hyv h.symm)
    rw [hd] at h
    rw [bne_iff_ne]; exact h
  clear HSp hx hq hy hd hyv
  go_enter Try.func7, Try.ntmps7
  go_wp2_with (first
    | (go_at_call 9; refine (awake_any _).mono ?_; rintro e W1 ⟨rfl, hb1⟩; obtain ⟨g0, g1, g2, g3, g4, gz⟩ := (P5.new w c i s k ad n cap).later hb1; have hB1 := Below.out1 hb1)
    | (go_at_call 10; refine (encode_any c i s k ad n cap es _ (HR.out.later hB1) (by omega) s0 s1 k0 k1).mono ?_; rintro e W2 ⟨a2, m2, p2, rfl, own2, hb2⟩; rw [HX.out]; have hB2 := stp hB1 hb2; have hk2 : q = m2 := by { have h1 := own2.len; have h2 := HQ.out; omega }; subst hk2; have hcp := own2.cap_le; obtain ⟨g, rfl, hg, hgz, row2, nf2⟩ := own2.head HBy.out (by omega) (by omega); have ROW2 : Hid (_) := row2; obtain ⟨b_, o_, e_, cl⟩ := row2.2.2.2 j hjn; simp only [Option.some.injEq, Addr.mk.injEq, and_true] at e_; obtain ⟨rfl, rfl⟩ := e_; rw [Nat.zero_add, HY.out] at cl; clear row2)
    | (go_at_call 12; refine (DA.out _ _ _ ((encB ⟨c, i, s, k, es⟩).set j v) _ (row8_set1 ROW2.out hjn v0 v1) (by omega) hcp).mono ?_; rw [HD.out]; rintro e W3 ⟨a3, m3, p3, rfl, row3, hb3⟩; have hB3 := (hB2.setCell (p := ⟨g, j, none⟩) (Nat.le_trans hB1.size hg) (.int .u8 v)).trans (hb3.mono (by have := hB2.size; simp; omega))))
  go_ret
  exact ⟨rfl, stp hB3 (below1 _ _)⟩
end Go.Proofs.Ytnlgdkbpolckcaa
