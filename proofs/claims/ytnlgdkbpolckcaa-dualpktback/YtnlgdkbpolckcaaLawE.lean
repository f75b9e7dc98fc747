/- awake; the laws DualpktEncodes and DualpktApart, walked. -/
import Derived.Test.YtnlgdkbpolckcaaPrH3
namespace Go.Proofs.Ytnlgdkbpolckcaa
open Go.RowKit

def exL : List Int := [2, 0, 253, 255, 0, 0, 0, 0, 0, 0, 0, 0, 0, 0, 0, 0]
theorem ex_enc : encX pk0 = 0 ∧ encB pk0 = exL := by
  have h : encX pk0 = 0 := by decide
  refine ⟨h, ?_⟩
  rw [encB_good h]; decide
theorem exL_bytes : Bytes exL := by unfold Bytes exL; decide
set_option maxHeartbeats 1000000 in
theorem awake_any (w : World) : Calls Try.prog 9 #[] w fun e w' => e = .returned (.bool true) ∧ Below w.heap.size w w' := by
  go_enter Try.func9, Try.ntmps9
  go_wp2_with (go_at_call 10; refine (encode_any 0 false 0 0 none 0 0 [] _ (rowE_none _) (by omega) (by decide) (by decide) (by decide) (by decide)).mono ?_; rintro e W1 ⟨a1, m1, p1, rfl, own1, hb1⟩; rw [show encX ⟨0, false, 0, 0, []⟩ = 0 from ex_enc.1]; rw [show encB ⟨0, false, 0, 0, []⟩ = exL from ex_enc.2] at own1; have hk : 16 = m1 := own1.len; subst hk; obtain ⟨b, off, rfl, hc⟩ := (own1.row exL_bytes (by omega)).at' (by omega); have q0 := hc 0 (by omega); have q2 := hc 2 (by omega); have q3 := hc 3 (by omega); rw [Nat.add_zero] at q0; rw [show exL[0]?.getD 0 = 2 from rfl] at q0; rw [show exL[2]?.getD 0 = 253 from rfl] at q2; rw [show exL[3]?.getD 0 = 255 from rfl] at q3; clear hc)
  go_ret
  exact ⟨rfl, hb1⟩
theorem conv_str {w : World} {a : Option Addr} {len : Nat} (cap : Nat) {l : List Int} (h : Row8 w a len l) : Sem.run Try.prog (convert 27 9 (.slice a len cap)) w = .ok (.string (strOfNums l)) w := conv_any cap h
set_option maxHeartbeats 1000000 in
theorem law_encodes (c : Int) (i : Bool) (s k : Int) (ad : Option Addr) (n cap : Nat) (es : List Ent) (w : World) (hr : RowE w ad n es) (hp : Pk.Ok ⟨c, i, s, k, es⟩) :
    Calls Try.prog 3 #[valP c i s k ad n cap] w fun e w' => e = .returned (.bool true) ∧ Below w.heap.size w w' := by
  have HR : Hid (RowE w ad n es) := hr
  have HBy : Hid (Bytes (encB ⟨c, i, s, k, es⟩)) := encB_bytes hp
  have HSh : Hid ((encB ⟨c, i, s, k, es⟩).length ≤ 816) := encB_short _
  have s0 : 0 ≤ s := hp.s0
  have s1 : s ≤ 4294967295 := hp.s1
  have k0 : 0 ≤ k := hp.k0
  have k1 : k ≤ 4294967295 := hp.k1
  clear hr hp
  by_cases hn : n ≤ 100
  · have hn' : ¬ (100 : Int) < (n : Int) := by omega
    go_enter Try.func3, Try.ntmps3
    go_wp2_with (first
      | (go_at_call 9; refine (awake_any _).mono ?_; rintro e W1 ⟨rfl, hb1⟩; obtain ⟨g0, g1, g2, g3, g4, gz⟩ := (P5.new w c i s k ad n cap).later hb1; have hB1 := Below.out1 hb1)
      | (go_at_call 10; refine (encode_any c i s k ad n cap es _ (HR.out.later hB1) (by omega) s0 s1 k0 k1).mono ?_; rintro e W2 ⟨a2, m2, p2, rfl, own2, hb2⟩; obtain ⟨g0, g1, g2, g3, g4, gz⟩ := ((P5.new w c i s k ad n cap).later hb1).later hb2; have hB2 := stp hB1 hb2)
      | (go_at_call 11; refine (refEncode_any c i s k ad n cap es _ (HR.out.later hB2) (by omega) s0 s1 k0 k1).mono ?_; rintro e W3 ⟨a3, m3, p3, rfl, own3, hb3⟩; have hB3 := stp hB2 hb3; have hk2 : m2 ≤ 100000 := by { have h1 := own2.len; have h2 := HSh.out; omega }; have hk3 : m3 ≤ 100000 := by { have h1 := own3.len; have h2 := HSh.out; omega }; have v2 := conv_str p2 ((own2.row HBy.out hk2).later hb3); have v3 := conv_str p3 (own3.row HBy.out hk3); clear hk2 hk3))
    go_ret
    exact ⟨rfl, hB3⟩
  · have hn' : (100 : Int) < (n : Int) := by omega
    go_enter Try.func3, Try.ntmps3
    go_wp2_with (go_at_call 9; refine (awake_any _).mono ?_; rintro e W1 ⟨rfl, hb1⟩; obtain ⟨g0, g1, g2, g3, g4, gz⟩ := (P5.new w c i s k ad n cap).later hb1)
    go_ret
    exact ⟨rfl, Below.out1 hb1⟩
end Go.Proofs.Ytnlgdkbpolckcaa
