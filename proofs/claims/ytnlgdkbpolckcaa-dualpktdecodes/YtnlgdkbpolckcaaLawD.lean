/- The law DualpktDecodes, walked. -/
import Derived.Test.YtnlgdkbpolckcaaLawF
import Derived.Test.YtnlgdkbpolckcaaRefF
namespace Go.Proofs.Ytnlgdkbpolckcaa
open Go.RowKit

set_option maxHeartbeats 1000000 in
theorem law_decodes (a : Option Addr) (n cap : Nat) (l : List Int) (w : World) (hc : n ≤ cap) (hr : n ≤ 3000 → Row8 w a n l) :
    Calls Try.prog 4 #[.slice a n cap] w fun e w' => e = .returned (.bool true) ∧ Below w.heap.size w w' := by
  have DA : Hid (_) := @decode_any
  by_cases hn : n ≤ 3000
  · have HR : Hid (Row8 w a n l) := hr hn
    have hsh := dec_short l
    obtain ⟨⟨c, i, s, k, es⟩, x, hd⟩ : ∃ p x, dec l = (p, x) := ⟨_, _, rfl⟩
    have HD : Hid (dec l = (⟨c, i, s, k, es⟩, x)) := hd
    have HSh : Hid (es.length ≤ 40) := by unfold Hid; rw [hd] at hsh; exact hsh
    have hn' : ¬ (3000 : Int) < (n : Int) := by omega
    clear hr hd hsh
    go_enter Try.func4, Try.ntmps4
    go_wp2_with (first
      | (go_at_call 9; refine (awake_any _).mono ?_; rintro e W1 ⟨rfl, hb1⟩)
      | (go_at_call 12; refine (DA.out _ _ _ l _ (HR.out.later hb1) hn hc).mono ?_; rw [HD.out]; rintro e W2 ⟨a2, m2, p2, rfl, row2, hb2⟩; have hB2 := stp hb1 hb2; have hk2 : m2 ≤ 40 := by { have h1 := row2.1; have h2 := HSh.out; simp only at h1; omega })
      | (go_at_call 13; refine (refDecode_any _ _ _ l _ (HR.out.later (stp hB2 (below1 _ _))) hn).mono ?_; rw [HD.out]; rintro e W3 ⟨a3, m3, p3, rfl, row3, hb3⟩; have hB3 := stp (stp hB2 (below1 _ _)) hb3; obtain ⟨g0, g1, g2, g3, g4, gz⟩ := (P5.new W2 c i s k a2 m2 p2).later hb3; have hk3 : m3 ≤ 40 := by { have h1 := row3.1; have h2 := HSh.out; simp only at h1; omega })
      | (go_at_call 14; refine (refSame_any c c i i s s k k a2 a3 m2 p2 m3 p3 es es _ (((row2.later (below1 _ _)).later hb3).later (below1 _ _)) (row3.later (below1 _ _)) (by omega) (by omega) (decide_eq_true rfl)).mono ?_; rintro e W4 ⟨rfl, hb4⟩; have hB4 := stp (stp hB3 (below1 _ _)) hb4))
    go_ret
    exact ⟨rfl, hB4⟩
  · have hn' : (3000 : Int) < (n : Int) := by omega
    clear hr
    go_enter Try.func4, Try.ntmps4
    go_wp2_with (go_at_call 9; refine (awake_any _).mono ?_; rintro e W1 ⟨rfl, hb1⟩)
    go_ret
    exact ⟨rfl, hb1⟩
end Go.Proofs.Ytnlgdkbpolckcaa
