/- The laws DualpktBack, DualpktOnce, walked. -/
import Derived.Test.YtnlgdkbpolckcaaLawA
namespace Go.Proofs.Ytnlgdkbpolckcaa
open Go.RowKit

theorem dec_short (l : List Int) : (dec l).1.es.length ≤ 40 := by
  by_cases h : (dec l).2 = 0
  · obtain ⟨p, hp⟩ : ∃ p, dec l = (p, 0) := ⟨(dec l).1, by rw [← h]⟩
    rw [hp]
    exact (encX_zero (dec_once hp).1).1
  · rw [dec_none h]; exact Nat.zero_le _
set_option maxHeartbeats 1000000 in
theorem law_once (a : Option Addr) (n cap : Nat) (l : List Int) (w : World) (hc : n ≤ cap) (hr : n ≤ 3000 → Row8 w a n l) :
    Calls Try.prog 6 #[.slice a n cap] w fun e w' => e = .returned (.bool true) ∧ Below w.heap.size w w' := by
  have DA : Hid (_) := @decode_any
  by_cases hn : n ≤ 3000
  · have HR : Hid (Row8 w a n l) := hr hn
    have hsh := dec_short l
    have hnn := dec_none (l := l)
    obtain ⟨⟨c, i, s, k, es⟩, x, hd⟩ : ∃ p x, dec l = (p, x) := ⟨_, _, rfl⟩
    have HD : Hid (dec l = (⟨c, i, s, k, es⟩, x)) := hd
    have HSh : Hid (es.length ≤ 40) := by unfold Hid; rw [hd] at hsh; exact hsh
    have hn' : ¬ (3000 : Int) < (n : Int) := by omega
    rw [hd] at hnn
    simp only at hnn
    clear hr hsh
    by_cases hx : x = 0
    · subst hx
      obtain ⟨o1, o2, -, -⟩ := dec_once hd
      have HX : Hid (encX ⟨c, i, s, k, es⟩ = 0) := o1
      have HE : Hid (encB ⟨c, i, s, k, es⟩ = l) := o2
      have hp : pkOf l = ⟨c, i, s, k, es⟩ := by rw [← o2, encB_good o1]; exact pkOf_body _
      have s0 : 0 ≤ s := by have := (getV_bd HR.out.2.2.1 8 4).1; have h2 := congrArg Pk.s hp; simp only [pkOf] at h2; omega
      have s1 : s ≤ 4294967295 := by have := (getV_bd HR.out.2.2.1 8 4).2; have h2 := congrArg Pk.s hp; simp only [pkOf] at h2; have e4 : (256 : Int) ^ 4 = 4294967296 := by decide
                                     rw [e4] at this; omega
      have k0 : 0 ≤ k := by have := (getV_bd HR.out.2.2.1 12 4).1; have h2 := congrArg Pk.k hp; simp only [pkOf] at h2; omega
      have k1 : k ≤ 4294967295 := by have := (getV_bd HR.out.2.2.1 12 4).2; have h2 := congrArg Pk.k hp; simp only [pkOf] at h2; have e4 : (256 : Int) ^ 4 = 4294967296 := by decide
                                     rw [e4] at this; omega
      have HLL : Hid (l.length = n) := HR.out.1
      clear hd hnn o1 o2 hp
      go_enter Try.func6, Try.ntmps6
      go_wp2_with (first
        | (go_at_call 9; refine (awake_any _).mono ?_; rintro e W1 ⟨rfl, hb1⟩)
        | (go_at_call 12; refine (DA.out _ _ _ l _ (HR.out.later hb1) hn hc).mono ?_; rw [HD.out]; rintro e W2 ⟨a2, m2, p2, rfl, row2, hb2⟩; have hB2 := stp hb1 hb2; have hk2 : m2 ≤ 40 := by { have h1 := row2.1; have h2 := HSh.out; simp only at h1; omega })
        | (go_at_call 10; refine (encode_any c i s k a2 m2 p2 es _ (row2.later (below1 _ _)) (by omega) s0 s1 k0 k1).mono ?_; rintro e W3 ⟨a3, m3, p3, rfl, own3, hb3⟩; rw [HX.out]; rw [HE.out] at own3; have hB3 := stp (stp hB2 (below1 _ _)) hb3; have hk3 : m3 ≤ 100000 := by { have h1 := own3.len; have h2 := HLL.out; omega }; have v3 := conv_str p3 (own3.row HR.out.2.2.1 hk3); have v0 := conv_str cap (HR.out.later hB3); clear hk3))
      go_ret
      exact ⟨rfl, hB3⟩
    · have hp := hnn hx
      unfold pk0 at hp
      simp only [Pk.mk.injEq] at hp
      obtain ⟨rfl, rfl, rfl, rfl, rfl⟩ := hp
      have e0 : (x != 0) = true := by simpa using hx
      clear hd hnn hx
      go_enter Try.func6, Try.ntmps6
      go_wp2_with (first
        | (go_at_call 9; refine (awake_any _).mono ?_; rintro e W1 ⟨rfl, hb1⟩)
        | (go_at_call 12; refine (DA.out _ _ _ l _ (HR.out.later hb1) hn hc).mono ?_; rw [HD.out]; rintro e W2 ⟨a2, m2, p2, rfl, row2, hb2⟩; have hB2 := stp hb1 hb2; have hk2 : 0 = m2 := row2.1; subst hk2))
      go_ret
      exact ⟨rfl, stp hB2 (below1 _ _)⟩
  · have hn' : (3000 : Int) < (n : Int) := by omega
    clear hr
    go_enter Try.func6, Try.ntmps6
    go_wp2_with (go_at_call 9; refine (awake_any _).mono ?_; rintro e W1 ⟨rfl, hb1⟩)
    go_ret
    exact ⟨rfl, hb1⟩
set_option maxHeartbeats 1000000 in
theorem law_back (c : Int) (i : Bool) (s k : Int) (ad : Option Addr) (n cap : Nat) (es : List Ent) (w : World) (hr : RowE w ad n es) (hp : Pk.Ok ⟨c, i, s, k, es⟩) :
    Calls Try.prog 5 #[valP c i s k ad n cap] w fun e w' => e = .returned (.bool true) ∧ Below w.heap.size w w' := by
  have DA : Hid (_) := @decode_any
  have HR : Hid (RowE w ad n es) := hr
  have HBy : Hid (Bytes (encB ⟨c, i, s, k, es⟩)) := encB_bytes hp
  have HSh : Hid ((encB ⟨c, i, s, k, es⟩).length ≤ 816) := encB_short _
  have HDE : Hid (encX ⟨c, i, s, k, es⟩ = 0 → dec (encB ⟨c, i, s, k, es⟩) = (⟨c, i, s, k, es⟩, 0)) := dec_enc hp
  have s0 : 0 ≤ s := hp.s0
  have s1 : s ≤ 4294967295 := hp.s1
  have k0 : 0 ≤ k := hp.k0
  have k1 : k ≤ 4294967295 := hp.k1
  clear hr hp
  by_cases hn : n ≤ 100
  · have hn' : ¬ (100 : Int) < (n : Int) := by omega
    by_cases hx : encX ⟨c, i, s, k, es⟩ = 0
    · have HX : Hid (encX ⟨c, i, s, k, es⟩ = 0) := hx
      have HD : Hid (dec (encB ⟨c, i, s, k, es⟩) = (⟨c, i, s, k, es⟩, 0)) := HDE.out hx
      clear hx HDE
      go_enter Try.func5, Try.ntmps5
      go_wp2_with (first
        | (go_at_call 9; refine (awake_any _).mono ?_; rintro e W1 ⟨rfl, hb1⟩; have HP1 := (P5.new w c i s k ad n cap).later hb1; obtain ⟨g0, g1, g2, g3, g4, gz⟩ := HP1; have hB1 := Below.out1 hb1)
        | (go_at_call 10; refine (encode_any c i s k ad n cap es _ (HR.out.later hB1) (by omega) s0 s1 k0 k1).mono ?_; rintro e W2 ⟨a2, m2, p2, rfl, own2, hb2⟩; rw [HX.out]; have HP2 := ((P5.new w c i s k ad n cap).later hb1).later hb2; obtain ⟨g0, g1, g2, g3, g4, gz⟩ := HP2; have hB2 := stp hB1 hb2; have hk2 : m2 ≤ 816 := by { have h1 := own2.len; have h2 := HSh.out; omega })
        | (go_at_call 12; refine (DA.out _ _ _ (encB ⟨c, i, s, k, es⟩) _ (own2.row HBy.out (by omega)) (by omega) own2.cap_le).mono ?_; rw [HD.out]; rintro e W3 ⟨a3, m3, p3, rfl, row3, hb3⟩; have HP3 := (((P5.new w c i s k ad n cap).later hb1).later hb2).later hb3; obtain ⟨g0, g1, g2, g3, g4, gz⟩ := HP3; have hB3 := stp hB2 hb3; have hk3 : m3 ≤ 100 := by { have h1 := row3.1; have h2 := HR.out.1; simp only at h1; omega })
        | (go_at_call 14; refine (refSame_any c c i i s s k k ad a3 n cap m3 p3 es es _ ((HR.out.later hB3).later (below1 _ _)) (row3.later (below1 _ _)) (by omega) (by omega) (decide_eq_true rfl)).mono ?_; rintro e W4 ⟨rfl, hb4⟩; have hB4 := stp (stp hB3 (below1 _ _)) hb4))
      go_ret
      exact ⟨rfl, hB4⟩
    · obtain ⟨x, hx'⟩ : ∃ x, encX ⟨c, i, s, k, es⟩ = x := ⟨_, rfl⟩
      have HX : Hid (encX ⟨c, i, s, k, es⟩ = x) := hx'
      have e0 : (x != 0) = true := by rw [← hx']; simpa using hx
      have HE : Hid (encB ⟨c, i, s, k, es⟩ = []) := encB_bad hx
      have HD0 : Hid (dec [] = (pk0, 2)) := rfl
      obtain ⟨v, hv⟩ : ∃ v, decide ((⟨c, i, s, k, es⟩ : Pk) = pk0) = v := ⟨_, rfl⟩
      have HV : Hid (decide ((⟨c, i, s, k, es⟩ : Pk) = pk0) = v) := hv
      clear hx hx' hv HDE
      go_enter Try.func5, Try.ntmps5
      go_wp2_with (first
        | (go_at_call 9; refine (awake_any _).mono ?_; rintro e W1 ⟨rfl, hb1⟩; have HP1 := (P5.new w c i s k ad n cap).later hb1; obtain ⟨g0, g1, g2, g3, g4, gz⟩ := HP1; have hB1 := Below.out1 hb1)
        | (go_at_call 10; refine (encode_any c i s k ad n cap es _ (HR.out.later hB1) (by omega) s0 s1 k0 k1).mono ?_; rintro e W2 ⟨a2, m2, p2, rfl, own2, hb2⟩; rw [HX.out]; rw [HE.out] at own2; have hk2 : 0 = m2 := own2.len; subst hk2; have HP2 := ((P5.new w c i s k ad n cap).later hb1).later hb2; obtain ⟨g0, g1, g2, g3, g4, gz⟩ := HP2; have hB2 := stp hB1 hb2)
        | (go_at_call 12; refine (DA.out _ _ _ [] _ (own2.row (fun x h => by cases h) (by omega)) (by omega) (Nat.zero_le _)).mono ?_; rw [HD0.out]; rintro e W3 ⟨a3, m3, p3, rfl, row3, hb3⟩; unfold pk0; have hk3 : 0 = m3 := row3.1; subst hk3; have HP3 := (((P5.new w c i s k ad n cap).later hb1).later hb2).later hb3; obtain ⟨g0, g1, g2, g3, g4, gz⟩ := HP3; have hB3 := stp hB2 hb3)
        | (go_at_call 14; refine (refSame_any c 0 i false s 0 k 0 ad a3 n cap 0 p3 es [] _ ((HR.out.later hB3).later (below1 _ _)) (row3.later (below1 _ _)) (by omega) (by omega) HV.out).mono ?_; rintro e W4 ⟨rfl, hb4⟩; have hB4 := stp (stp hB3 (below1 _ _)) hb4))
      go_ret
      exact ⟨rfl, hB4⟩
  · have hn' : (100 : Int) < (n : Int) := by omega
    go_enter Try.func5, Try.ntmps5
    go_wp2_with (go_at_call 9; refine (awake_any _).mono ?_; rintro e W1 ⟨rfl, hb1⟩; obtain ⟨g0, g1, g2, g3, g4, gz⟩ := (P5.new w c i s k ad n cap).later hb1)
    go_ret
    exact ⟨rfl, Below.out1 hb1⟩
end Go.Proofs.Ytnlgdkbpolckcaa
