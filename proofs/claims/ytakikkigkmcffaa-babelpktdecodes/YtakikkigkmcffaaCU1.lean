/- The contract of the document's update. -/
import Derived.Test.YtakikkigkmcffaaCon7
namespace Go.Proofs.Ytakikkigkmcffaa
open Go.RowKit

set_option maxHeartbeats 2000000 in
theorem update_any (k s i c a l r t h last : Int) (w : World) (hk : Tlv.Ok ⟨k, s, i, c, a, l, r, t, h⟩) (hm : mayT ⟨k, s, i, c, a, l, r, t, h⟩ = true) (x0 : 0 ≤ last) (x1 : last < 4294967296) :
    Calls Try.prog 26 #[valT k s i c a l r t h, .int .u32 last] w (New8 w (upB last ⟨k, s, i, c, a, l, r, t, h⟩).length (upB last ⟨k, s, i, c, a, l, r, t, h⟩)) := by
  have HBy : Hid (Bytes (upB last ⟨k, s, i, c, a, l, r, t, h⟩)) := upB_bytes hk hm
  obtain ⟨ho, hb, l0, l1, ⟨i0, i1⟩, ⟨c0, c1⟩, ⟨h0, h1⟩⟩ := mayT_all hm
  have s0 := hk.s0
  have s1 := hk.s1
  have a0 := hk.a0
  have a1 := hk.a1
  have t0 := hk.t0
  have t1 := hk.t1
  simp only at l0 l1 i0 i1 c0 c1 s0 s1 a0 a1 t0 t1
  obtain ⟨n, hn⟩ : ∃ n, nd l = n := ⟨_, rfl⟩
  have hn4 : n ≤ 4 := by rw [← hn]; exact nd_le l1
  have HN : Hid (nd l = n) := hn
  obtain ⟨q, hq⟩ : ∃ q, sq last a n = q := ⟨_, rfl⟩
  have hqn : q ≤ n := by rw [← hq]; exact sq_le _ _ _
  have HQ : Hid (sqI last a (n : Int) = (q : Int)) := by unfold Hid sqI; rw [if_neg (by omega), ← hq]; simp
  have HU : Hid (upB last ⟨k, s, i, c, a, l, r, t, h⟩ = [1, 128, l, (q : Int)] ++ b2 i ++ b2 s ++ b2 c ++ (adB a l).drop q ++ tagB t) := by unfold Hid upB; simp only [hn, hq]
  have HLn : Hid ((upB last ⟨k, s, i, c, a, l, r, t, h⟩).length = 10 + (n - q) + (tagB t).length) := by unfold Hid; rw [upB_len l1]; simp only [hn, hq]
  have HA : Hid (((adB a l).drop q).length = n - q) := by unfold Hid; rw [List.length_drop, adB_len l1, hn]
  clear hk hm ho hb hn hq
  by_cases tz : t = 0
  · subst tz
    by_cases q4 : q = 4
    · subst q4; obtain rfl : n = 4 := by omega
      go_enter Try.func26, Try.ntmps26
      go_wp2_with (first
        | (go_at_call 46; refine (refNeeds_any _ _ l0 (by omega) HN.out).mono ?_; rintro e w' ⟨rfl, rfl⟩)
        | (go_at_call 15; refine (refSqueeze_any _ _ _ _ x0 x1 a0 a1 HQ.out).mono ?_; rintro e W1 ⟨rfl, hb⟩; have F := (T9.new w k s i c a l r 0 h).later hb; have hB := Below.out1 hb; have z0 : w.heap.size < W1.heap.size := by { have := hb.size; simp at this; omega }; obtain ⟨q0, q1, q2, q3, q4, q5, q6, q7, q8⟩ := F.z)
        | (go_at_call 27; refine (two_any _ _ (by omega) (by omega)).mono ?_; rintro e w' ⟨rfl, rfl⟩)
        | (go_at_call 29; refine (refAddr_any _ 4 _ a0 a1 hn4).mono ?_; rintro e w' ⟨rfl, rfl⟩)
        | (at_builtin; (refine wpList_app8 _ rfl (.tmp 25) (.tmp 28) 25 5 rfl W1.heap.size Try.underlying25 info5 _ 4 ([1, 128, l, 4]) rfl ((own8_at W1 W1.heap.size rfl W1.heap.size 5 [1, 128, l, 4] (Nat.le_refl _) (by simp)).alloc _) _ 2 2 (b2 i) rfl (row_b2 _ (by omega) (by omega) _ (by first | rfl | simp)) 6 (by omega) ([1, 128, l, 4] ++ b2 i) rfl (by omega) (by first | omega | (simp; omega) | simp) ?_; intro a3 c3 W3 own3 hb3; have hB3 := (below2 W1 _ _).trans hb3; obtain ⟨q0, q1, q2, q3, q4, q5, q6, q7, q8⟩ := (F.later hB3).z; have z3 := hB3.size; have y3 : w.heap.size < W3.heap.size := by omega))
        | (at_builtin; (refine wpList_app8 _ rfl (.tmp 30) (.tmp 34) 25 5 rfl W1.heap.size Try.underlying25 info5 _ 6 ([1, 128, l, 4] ++ b2 i) rfl (own3.alloc _) _ 2 2 (b2 s) rfl (row_b2 _ (by omega) (by omega) _ (by first | rfl | simp)) 8 (by omega) ([1, 128, l, 4] ++ b2 i ++ b2 s) rfl (by omega) (by first | omega | (simp; omega) | simp) ?_; intro a4 c4 W4 own4 hb4; have hB4 := (hB3.alloc z3 _).trans hb4; obtain ⟨q0, q1, q2, q3, q4, q5, q6, q7, q8⟩ := (F.later hB4).z; have z4 := hB4.size; have y4 : w.heap.size < W4.heap.size := by omega))
        | (at_builtin; (refine wpList_app8 _ rfl (.tmp 36) (.tmp 39) 25 5 rfl W1.heap.size Try.underlying25 info5 _ 8 ([1, 128, l, 4] ++ b2 i ++ b2 s) rfl (own4.alloc _) _ 2 2 (b2 c) rfl (row_b2 _ (by omega) (by omega) _ (by first | rfl | simp)) 10 (by omega) ([1, 128, l, 4] ++ b2 i ++ b2 s ++ b2 c) rfl (by omega) (by first | omega | (simp; omega) | simp) ?_; intro a5 c5 W5 own5 hb5; have hB5 := (hB4.alloc z4 _).trans hb5; obtain ⟨q0, q1, q2, q3, q4, q5, q6, q7, q8⟩ := (F.later hB5).z; have z5 := hB5.size; have y5 : w.heap.size < W5.heap.size := by omega))
        | (at_builtin; (refine wpList_app8 _ rfl (.tmp 41) (.tmp 48) 25 5 rfl W1.heap.size Try.underlying25 info5 _ 10 ([1, 128, l, 4] ++ b2 i ++ b2 s ++ b2 c) rfl (own5.alloc _) _ 0 0 ((adB a l).drop 4) rfl (by have := (row_ad (row_b4 W5 a0 (by omega) _ rfl) HN.out hn4).rest 4 4 hqn hn4 _ _ rfl; rw [if_pos (by omega)] at this; exact this) 10 (by omega) ([1, 128, l, 4] ++ b2 i ++ b2 s ++ b2 c ++ (adB a l).drop 4) rfl (by omega) (by first | omega | (simp; omega) | simp) ?_; intro a6 c6 W6 own6 hb6; have hB6 := (hB5.alloc z5 _).trans hb6; obtain ⟨q0, q1, q2, q3, q4, q5, q6, q7, q8⟩ := (F.later hB6).z; have z6 := hB6.size; have y6 : w.heap.size < W6.heap.size := by omega)))
      go_ret
      exact ⟨a6, c6, by rw [HLn.out]; rfl, by rw [HLn.out, HU.out]; simpa [tagB] using own6.base hB.size, hB.trans (hB6.mono hB.size)⟩
    · have q5 : ¬ 4 = q := by omega
      go_enter Try.func26, Try.ntmps26
      go_wp2_with (first
        | (go_at_call 46; refine (refNeeds_any _ _ l0 (by omega) HN.out).mono ?_; rintro e w' ⟨rfl, rfl⟩)
        | (go_at_call 15; refine (refSqueeze_any _ _ _ _ x0 x1 a0 a1 HQ.out).mono ?_; rintro e W1 ⟨rfl, hb⟩; have F := (T9.new w k s i c a l r 0 h).later hb; have hB := Below.out1 hb; have z0 : w.heap.size < W1.heap.size := by { have := hb.size; simp at this; omega }; obtain ⟨q0, q1, q2, q3, q4, q5, q6, q7, q8⟩ := F.z)
        | (go_at_call 27; refine (two_any _ _ (by omega) (by omega)).mono ?_; rintro e w' ⟨rfl, rfl⟩)
        | (go_at_call 29; refine (refAddr_any _ n _ a0 a1 hn4).mono ?_; rintro e w' ⟨rfl, rfl⟩)
        | (at_builtin; (refine wpList_app8 _ rfl (.tmp 25) (.tmp 28) 25 5 rfl W1.heap.size Try.underlying25 info5 _ 4 ([1, 128, l, (q : Int)]) rfl ((own8_at W1 W1.heap.size rfl W1.heap.size 5 [1, 128, l, (q : Int)] (Nat.le_refl _) (by simp)).alloc _) _ 2 2 (b2 i) rfl (row_b2 _ (by omega) (by omega) _ (by first | rfl | simp)) 6 (by omega) ([1, 128, l, (q : Int)] ++ b2 i) rfl (by omega) (by first | omega | (simp; omega) | simp) ?_; intro a3 c3 W3 own3 hb3; have hB3 := (below2 W1 _ _).trans hb3; obtain ⟨q0, q1, q2, q3, q4, q5, q6, q7, q8⟩ := (F.later hB3).z; have z3 := hB3.size; have y3 : w.heap.size < W3.heap.size := by omega))
        | (at_builtin; (refine wpList_app8 _ rfl (.tmp 30) (.tmp 34) 25 5 rfl W1.heap.size Try.underlying25 info5 _ 6 ([1, 128, l, (q : Int)] ++ b2 i) rfl (own3.alloc _) _ 2 2 (b2 s) rfl (row_b2 _ (by omega) (by omega) _ (by first | rfl | simp)) 8 (by omega) ([1, 128, l, (q : Int)] ++ b2 i ++ b2 s) rfl (by omega) (by first | omega | (simp; omega) | simp) ?_; intro a4 c4 W4 own4 hb4; have hB4 := (hB3.alloc z3 _).trans hb4; obtain ⟨q0, q1, q2, q3, q4, q5, q6, q7, q8⟩ := (F.later hB4).z; have z4 := hB4.size; have y4 : w.heap.size < W4.heap.size := by omega))
        | (at_builtin; (refine wpList_app8 _ rfl (.tmp 36) (.tmp 39) 25 5 rfl W1.heap.size Try.underlying25 info5 _ 8 ([1, 128, l, (q : Int)] ++ b2 i ++ b2 s) rfl (own4.alloc _) _ 2 2 (b2 c) rfl (row_b2 _ (by omega) (by omega) _ (by first | rfl | simp)) 10 (by omega) ([1, 128, l, (q : Int)] ++ b2 i ++ b2 s ++ b2 c) rfl (by omega) (by first | omega | (simp; omega) | simp) ?_; intro a5 c5 W5 own5 hb5; have hB5 := (hB4.alloc z4 _).trans hb5; obtain ⟨q0, q1, q2, q3, q4, q5, q6, q7, q8⟩ := (F.later hB5).z; have z5 := hB5.size; have y5 : w.heap.size < W5.heap.size := by omega))
        | (at_builtin; (refine wpList_app8 _ rfl (.tmp 41) (.tmp 48) 25 5 rfl W1.heap.size Try.underlying25 info5 _ 10 ([1, 128, l, (q : Int)] ++ b2 i ++ b2 s ++ b2 c) rfl (own5.alloc _) _ (n - q) (4 - q) ((adB a l).drop q) rfl (by have := (row_ad (row_b4 W5 a0 (by omega) _ rfl) HN.out hn4).rest q 4 hqn hn4 _ _ rfl; rw [if_neg (by omega), Nat.zero_add] at this; exact this) (10 + (n - q)) (by omega) ([1, 128, l, (q : Int)] ++ b2 i ++ b2 s ++ b2 c ++ (adB a l).drop q) rfl (by omega) (by first | omega | (simp; omega) | simp) ?_; intro a6 c6 W6 own6 hb6; have hB6 := (hB5.alloc z5 _).trans hb6; obtain ⟨q0, q1, q2, q3, q4, q5, q6, q7, q8⟩ := (F.later hB6).z; have z6 := hB6.size; have y6 : w.heap.size < W6.heap.size := by omega)))
      go_ret
      exact ⟨a6, c6, by rw [HLn.out]; rfl, by rw [HLn.out, HU.out]; simpa [tagB] using own6.base hB.size, hB.trans (hB6.mono hB.size)⟩
  · have HTB : Hid (tagB t = [200, 2] ++ b2 t) := by unfold Hid tagB; rw [if_neg tz]
    have HUT : Hid (([1, 128, l, (q : Int)] ++ b2 i ++ b2 s ++ b2 c ++ (adB a l).drop q) ++ [200, 2] ++ b2 t = upB last ⟨k, s, i, c, a, l, r, t, h⟩) := by unfold Hid; rw [HU.out, HTB.out]; simp only [List.append_assoc]
    have HLt : Hid ((upB last ⟨k, s, i, c, a, l, r, t, h⟩).length = 10 + (n - q) + 4) := by unfold Hid; rw [HLn.out, HTB.out]; simp [b2]
    have tz' : (t != 0) = true := by simpa using tz
    by_cases q4 : q = 4
    · subst q4; obtain rfl : n = 4 := by omega
      go_enter Try.func26, Try.ntmps26
      go_wp2_with (first
        | (go_at_call 46; refine (refNeeds_any _ _ l0 (by omega) HN.out).mono ?_; rintro e w' ⟨rfl, rfl⟩)
        | (go_at_call 15; refine (refSqueeze_any _ _ _ _ x0 x1 a0 a1 HQ.out).mono ?_; rintro e W1 ⟨rfl, hb⟩; have F := (T9.new w k s i c a l r t h).later hb; have hB := Below.out1 hb; have z0 : w.heap.size < W1.heap.size := by { have := hb.size; simp at this; omega }; obtain ⟨q0, q1, q2, q3, q4, q5, q6, q7, q8⟩ := F.z)
        | (go_at_call 27; refine (two_any _ _ (by omega) (by omega)).mono ?_; rintro e w' ⟨rfl, rfl⟩)
        | (go_at_call 29; refine (refAddr_any _ 4 _ a0 a1 hn4).mono ?_; rintro e w' ⟨rfl, rfl⟩)
        | (at_builtin; (refine wpList_app8 _ rfl (.tmp 25) (.tmp 28) 25 5 rfl W1.heap.size Try.underlying25 info5 _ 4 ([1, 128, l, 4]) rfl ((own8_at W1 W1.heap.size rfl W1.heap.size 5 [1, 128, l, 4] (Nat.le_refl _) (by simp)).alloc _) _ 2 2 (b2 i) rfl (row_b2 _ (by omega) (by omega) _ (by first | rfl | simp)) 6 (by omega) ([1, 128, l, 4] ++ b2 i) rfl (by omega) (by first | omega | (simp; omega) | simp) ?_; intro a3 c3 W3 own3 hb3; have hB3 := (below2 W1 _ _).trans hb3; obtain ⟨q0, q1, q2, q3, q4, q5, q6, q7, q8⟩ := (F.later hB3).z; have z3 := hB3.size; have y3 : w.heap.size < W3.heap.size := by omega))
        | (at_builtin; (refine wpList_app8 _ rfl (.tmp 30) (.tmp 34) 25 5 rfl W1.heap.size Try.underlying25 info5 _ 6 ([1, 128, l, 4] ++ b2 i) rfl (own3.alloc _) _ 2 2 (b2 s) rfl (row_b2 _ (by omega) (by omega) _ (by first | rfl | simp)) 8 (by omega) ([1, 128, l, 4] ++ b2 i ++ b2 s) rfl (by omega) (by first | omega | (simp; omega) | simp) ?_; intro a4 c4 W4 own4 hb4; have hB4 := (hB3.alloc z3 _).trans hb4; obtain ⟨q0, q1, q2, q3, q4, q5, q6, q7, q8⟩ := (F.later hB4).z; have z4 := hB4.size; have y4 : w.heap.size < W4.heap.size := by omega))
        | (at_builtin; (refine wpList_app8 _ rfl (.tmp 36) (.tmp 39) 25 5 rfl W1.heap.size Try.underlying25 info5 _ 8 ([1, 128, l, 4] ++ b2 i ++ b2 s) rfl (own4.alloc _) _ 2 2 (b2 c) rfl (row_b2 _ (by omega) (by omega) _ (by first | rfl | simp)) 10 (by omega) ([1, 128, l, 4] ++ b2 i ++ b2 s ++ b2 c) rfl (by omega) (by first | omega | (simp; omega) | simp) ?_; intro a5 c5 W5 own5 hb5; have hB5 := (hB4.alloc z4 _).trans hb5; obtain ⟨q0, q1, q2, q3, q4, q5, q6, q7, q8⟩ := (F.later hB5).z; have z5 := hB5.size; have y5 : w.heap.size < W5.heap.size := by omega))
        | (at_builtin; (refine wpList_app8 _ rfl (.tmp 41) (.tmp 48) 25 5 rfl W1.heap.size Try.underlying25 info5 _ 10 ([1, 128, l, 4] ++ b2 i ++ b2 s ++ b2 c) rfl (own5.alloc _) _ 0 0 ((adB a l).drop 4) rfl (by have := (row_ad (row_b4 W5 a0 (by omega) _ rfl) HN.out hn4).rest 4 4 hqn hn4 _ _ rfl; rw [if_pos (by omega)] at this; exact this) 10 (by omega) ([1, 128, l, 4] ++ b2 i ++ b2 s ++ b2 c ++ (adB a l).drop 4) rfl (by omega) (by first | omega | (simp; omega) | simp) ?_; intro a6 c6 W6 own6 hb6; have hB6 := (hB5.alloc z5 _).trans hb6; obtain ⟨q0, q1, q2, q3, q4, q5, q6, q7, q8⟩ := (F.later hB6).z; have z6 := hB6.size; have y6 : w.heap.size < W6.heap.size := by omega))
        | (at_builtin; (refine wpList_app8 _ rfl (.tmp 53) (.tmp 54) 25 5 rfl W1.heap.size Try.underlying25 info5 _ 10 ([1, 128, l, 4] ++ b2 i ++ b2 s ++ b2 c ++ (adB a l).drop 4) rfl (own6.alloc _) _ 2 2 [200, 2] rfl (row8_at _ _ (by first | rfl | simp) [200, 2] 5 2 rfl (two_bytes (by omega) (by omega)) (by simp)) 12 (by omega) ([1, 128, l, 4] ++ b2 i ++ b2 s ++ b2 c ++ (adB a l).drop 4 ++ [200, 2]) rfl (by omega) (by first | omega | (simp; omega) | simp) ?_; intro a7 c7 W7 own7 hb7; have hB7 := (hB6.alloc z6 _).trans hb7; obtain ⟨q0, q1, q2, q3, q4, q5, q6, q7, q8⟩ := (F.later hB7).z; have z7 := hB7.size; have y7 : w.heap.size < W7.heap.size := by omega))
        | (at_builtin; (refine wpList_app8 _ rfl (.tmp 56) (.tmp 60) 25 5 rfl W1.heap.size Try.underlying25 info5 _ 12 ([1, 128, l, 4] ++ b2 i ++ b2 s ++ b2 c ++ (adB a l).drop 4 ++ [200, 2]) rfl (own7.alloc _) _ 2 2 (b2 t) rfl (row_b2 _ (by omega) (by omega) _ (by first | rfl | simp)) 14 (by omega) (upB last ⟨k, s, i, c, a, l, r, t, h⟩) HUT.out (by omega) (by first | omega | (simp; omega) | simp) ?_; intro a8 c8 W8 own8 hb8; have hB8 := (hB7.alloc z7 _).trans hb8; obtain ⟨q0, q1, q2, q3, q4, q5, q6, q7, q8⟩ := (F.later hB8).z; have z8 := hB8.size; have y8 : w.heap.size < W8.heap.size := by omega)))
      go_ret
      exact ⟨a8, c8, by rw [HLt.out]; rfl, by rw [HLt.out]; exact own8.base hB.size, hB.trans (hB8.mono hB.size)⟩
    · have q5 : ¬ 4 = q := by omega
      go_enter Try.func26, Try.ntmps26
      go_wp2_with (first
        | (go_at_call 46; refine (refNeeds_any _ _ l0 (by omega) HN.out).mono ?_; rintro e w' ⟨rfl, rfl⟩)
        | (go_at_call 15; refine (refSqueeze_any _ _ _ _ x0 x1 a0 a1 HQ.out).mono ?_; rintro e W1 ⟨rfl, hb⟩; have F := (T9.new w k s i c a l r t h).later hb; have hB := Below.out1 hb; have z0 : w.heap.size < W1.heap.size := by { have := hb.size; simp at this; omega }; obtain ⟨q0, q1, q2, q3, q4, q5, q6, q7, q8⟩ := F.z)
        | (go_at_call 27; refine (two_any _ _ (by omega) (by omega)).mono ?_; rintro e w' ⟨rfl, rfl⟩)
        | (go_at_call 29; refine (refAddr_any _ n _ a0 a1 hn4).mono ?_; rintro e w' ⟨rfl, rfl⟩)
        | (at_builtin; (refine wpList_app8 _ rfl (.tmp 25) (.tmp 28) 25 5 rfl W1.heap.size Try.underlying25 info5 _ 4 ([1, 128, l, (q : Int)]) rfl ((own8_at W1 W1.heap.size rfl W1.heap.size 5 [1, 128, l, (q : Int)] (Nat.le_refl _) (by simp)).alloc _) _ 2 2 (b2 i) rfl (row_b2 _ (by omega) (by omega) _ (by first | rfl | simp)) 6 (by omega) ([1, 128, l, (q : Int)] ++ b2 i) rfl (by omega) (by first | omega | (simp; omega) | simp) ?_; intro a3 c3 W3 own3 hb3; have hB3 := (below2 W1 _ _).trans hb3; obtain ⟨q0, q1, q2, q3, q4, q5, q6, q7, q8⟩ := (F.later hB3).z; have z3 := hB3.size; have y3 : w.heap.size < W3.heap.size := by omega))
        | (at_builtin; (refine wpList_app8 _ rfl (.tmp 30) (.tmp 34) 25 5 rfl W1.heap.size Try.underlying25 info5 _ 6 ([1, 128, l, (q : Int)] ++ b2 i) rfl (own3.alloc _) _ 2 2 (b2 s) rfl (row_b2 _ (by omega) (by omega) _ (by first | rfl | simp)) 8 (by omega) ([1, 128, l, (q : Int)] ++ b2 i ++ b2 s) rfl (by omega) (by first | omega | (simp; omega) | simp) ?_; intro a4 c4 W4 own4 hb4; have hB4 := (hB3.alloc z3 _).trans hb4; obtain ⟨q0, q1, q2, q3, q4, q5, q6, q7, q8⟩ := (F.later hB4).z; have z4 := hB4.size; have y4 : w.heap.size < W4.heap.size := by omega))
        | (at_builtin; (refine wpList_app8 _ rfl (.tmp 36) (.tmp 39) 25 5 rfl W1.heap.size Try.underlying25 info5 _ 8 ([1, 128, l, (q : Int)] ++ b2 i ++ b2 s) rfl (own4.alloc _) _ 2 2 (b2 c) rfl (row_b2 _ (by omega) (by omega) _ (by first | rfl | simp)) 10 (by omega) ([1, 128, l, (q : Int)] ++ b2 i ++ b2 s ++ b2 c) rfl (by omega) (by first | omega | (simp; omega) | simp) ?_; intro a5 c5 W5 own5 hb5; have hB5 := (hB4.alloc z4 _).trans hb5; obtain ⟨q0, q1, q2, q3, q4, q5, q6, q7, q8⟩ := (F.later hB5).z; have z5 := hB5.size; have y5 : w.heap.size < W5.heap.size := by omega))
        | (at_builtin; (refine wpList_app8 _ rfl (.tmp 41) (.tmp 48) 25 5 rfl W1.heap.size Try.underlying25 info5 _ 10 ([1, 128, l, (q : Int)] ++ b2 i ++ b2 s ++ b2 c) rfl (own5.alloc _) _ (n - q) (4 - q) ((adB a l).drop q) rfl (by have := (row_ad (row_b4 W5 a0 (by omega) _ rfl) HN.out hn4).rest q 4 hqn hn4 _ _ rfl; rw [if_neg (by omega), Nat.zero_add] at this; exact this) (10 + (n - q)) (by omega) ([1, 128, l, (q : Int)] ++ b2 i ++ b2 s ++ b2 c ++ (adB a l).drop q) rfl (by omega) (by first | omega | (simp; omega) | simp) ?_; intro a6 c6 W6 own6 hb6; have hB6 := (hB5.alloc z5 _).trans hb6; obtain ⟨q0, q1, q2, q3, q4, q5, q6, q7, q8⟩ := (F.later hB6).z; have z6 := hB6.size; have y6 : w.heap.size < W6.heap.size := by omega))
        | (at_builtin; (refine wpList_app8 _ rfl (.tmp 53) (.tmp 54) 25 5 rfl W1.heap.size Try.underlying25 info5 _ (10 + (n - q)) ([1, 128, l, (q : Int)] ++ b2 i ++ b2 s ++ b2 c ++ (adB a l).drop q) rfl (own6.alloc _) _ 2 2 [200, 2] rfl (row8_at _ _ (by first | rfl | simp) [200, 2] 5 2 rfl (two_bytes (by omega) (by omega)) (by simp)) (10 + (n - q) + 2) (by omega) ([1, 128, l, (q : Int)] ++ b2 i ++ b2 s ++ b2 c ++ (adB a l).drop q ++ [200, 2]) rfl (by omega) (by first | omega | (simp; omega) | simp) ?_; intro a7 c7 W7 own7 hb7; have hB7 := (hB6.alloc z6 _).trans hb7; obtain ⟨q0, q1, q2, q3, q4, q5, q6, q7, q8⟩ := (F.later hB7).z; have z7 := hB7.size; have y7 : w.heap.size < W7.heap.size := by omega))
        | (at_builtin; (refine wpList_app8 _ rfl (.tmp 56) (.tmp 60) 25 5 rfl W1.heap.size Try.underlying25 info5 _ (10 + (n - q) + 2) ([1, 128, l, (q : Int)] ++ b2 i ++ b2 s ++ b2 c ++ (adB a l).drop q ++ [200, 2]) rfl (own7.alloc _) _ 2 2 (b2 t) rfl (row_b2 _ (by omega) (by omega) _ (by first | rfl | simp)) (10 + (n - q) + 4) (by omega) (upB last ⟨k, s, i, c, a, l, r, t, h⟩) HUT.out (by omega) (by first | omega | (simp; omega) | simp) ?_; intro a8 c8 W8 own8 hb8; have hB8 := (hB7.alloc z7 _).trans hb8; obtain ⟨q0, q1, q2, q3, q4, q5, q6, q7, q8⟩ := (F.later hB8).z; have z8 := hB8.size; have y8 : w.heap.size < W8.heap.size := by omega)))
      go_ret
      exact ⟨a8, c8, by rw [HLt.out]; rfl, by rw [HLt.out]; exact own8.base hB.size, hB.trans (hB8.mono hB.size)⟩
end Go.Proofs.Ytakikkigkmcffaa
