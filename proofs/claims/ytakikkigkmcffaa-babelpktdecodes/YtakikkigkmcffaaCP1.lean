/- The contract of the document's part. -/
import Derived.Test.YtakikkigkmcffaaCon7
namespace Go.Proofs.Ytakikkigkmcffaa
open Go.RowKit

set_option maxHeartbeats 2000000 in
theorem part_any (k s i c a l r t h : Int) (w : World) (hk : Tlv.Ok ⟨k, s, i, c, a, l, r, t, h⟩) (hm : mayT ⟨k, s, i, c, a, l, r, t, h⟩ = true) (k2 : k ≠ 2) :
    Calls Try.prog 23 #[valT k s i c a l r t h] w (New8 w (partB ⟨k, s, i, c, a, l, r, t, h⟩).length (partB ⟨k, s, i, c, a, l, r, t, h⟩)) := by
  obtain ⟨ho, hb, l0, l1, ⟨i0, i1⟩, ⟨c0, c1⟩, ⟨h0, h1⟩⟩ := mayT_all hm
  have kk := ownB_kind ho
  have s0 := hk.s0
  have s1 := hk.s1
  have a0 := hk.a0
  have a1 := hk.a1
  have r0 := hk.r0
  have r1 := hk.r1
  simp only at l0 l1 i0 i1 c0 c1 h0 h1 kk s0 s1 a0 a1 r0 r1
  obtain ⟨n, hn⟩ : ∃ n, nd l = n := ⟨_, rfl⟩
  have hn4 : n ≤ 4 := by rw [← hn]; exact nd_le l1
  have HN : Hid (nd l = n) := hn
  clear hk hm ho hb hn
  go_enter Try.func23, Try.ntmps23
  go_wp2
  go_region_held3 (fun w' => w'.cell? ⟨w.heap.size, 4, none⟩ = some (.int .u32 a) ∧ w'.cell? ⟨w.heap.size, 5, none⟩ = some (.int .i64 l)) (go_keep)
    (first
      | (go_at_call 46; refine (refNeeds_any _ _ l0 (by omega) HN.out).mono ?_; rintro e w' ⟨rfl, rfl⟩)
      | (go_at_call 29; refine (refAddr_any _ n _ a0 a1 hn4).mono ?_; rintro e w' ⟨rfl, rfl⟩))
  obtain ⟨W1, hW1⟩ : ∃ W1, W1 = ((w.alloc (objT k s i c a l r t h)).alloc (ob4 a)).drew := ⟨_, rfl⟩
  rw [← hW1]
  have F : T9 W1 w.heap.size 0 ⟨k, s, i, c, a, l, r, t, h⟩ := by rw [hW1]; exact (T9.new w k s i c a l r t h).later (below1 _ _).drew
  have RA : Hid (Row8 W1 (some ⟨w.heap.size + 1, 0, none⟩) n (adB a l)) := by
    unfold Hid; rw [hW1]; exact row_ad ((row_b4 (w.alloc (objT k s i c a l r t h)) a0 (by omega) _ (by simp)).later (Below.refl _ _).drew) HN.out hn4
  have hB : Below w.heap.size w W1 := by rw [hW1]; exact (below2 _ _ _).drew
  have z : w.heap.size + 1 < W1.heap.size := by rw [hW1]; simp [World.drew]
  have z0 : w.heap.size < W1.heap.size := by omega
  clear hW1
  obtain ⟨q0, q1, q2, q3, q4, q5, q6, q7, q8⟩ := F.z
  have HA : Hid ((adB a l).length = n) := by unfold Hid; rw [adB_len l1, HN.out]
  have HAB : Hid (Bytes (adB a l)) := adB_bytes a0 a1
  rcases kk with rfl | rfl | rfl | rfl | rfl
  · have HP : Hid (partB ⟨0, s, i, c, a, l, r, t, h⟩ = tlvB 4 ([0, 0] ++ b2 s ++ b2 i)) := by unfold Hid partB; simp
    have HLn : Hid ((partB ⟨0, s, i, c, a, l, r, t, h⟩).length = 2 + 6) := by unfold Hid; rw [HP.out, tlvB_len]; simp [b2]
    have HBy : Hid (Bytes ([0, 0] ++ b2 s ++ b2 i)) := ((two_bytes (by omega) (by omega)).append (b2_bytes (by omega) (by omega))).append (b2_bytes i0 i1)
    go_wp2_with (first
      | (go_at_call 27; refine (two_any _ _ (by omega) (by omega)).mono ?_; rintro e w' ⟨rfl, rfl⟩)
      | (at_builtin; (refine wpList_app8 _ rfl (.tmp 18) (.tmp 22) 25 5 rfl W1.heap.size Try.underlying25 info5 _ 2 [0, 0] rfl ((own8_at W1 _ rfl W1.heap.size 5 [0, 0] (Nat.le_refl _) (by simp)).alloc _) _ 2 2 (b2 s) rfl (row_b2 _ (by omega) (by omega) _ (by first | rfl | simp)) 4 (by omega) ([0, 0] ++ b2 s) rfl (by omega) (by first | omega | (simp; omega) | simp) ?_; intro a3 c3 W3 own3 hb3; have hB3 := (below2 W1 _ _).trans hb3; obtain ⟨q0, q1, q2, q3, q4, q5, q6, q7, q8⟩ := (F.later hB3).z; have z3 := hB3.size; have y3 : w.heap.size < W3.heap.size := by omega))
      | (at_builtin; (refine wpList_app8 _ rfl (.tmp 24) (.tmp 27) 25 5 rfl W1.heap.size Try.underlying25 info5 _ 4 ([0, 0] ++ b2 s) rfl (own3.alloc _) _ 2 2 (b2 i) rfl (row_b2 _ (by omega) (by omega) _ (by first | rfl | simp)) 6 (by omega) ([0, 0] ++ b2 s ++ b2 i) rfl (by omega) (by first | omega | (simp; omega) | simp) ?_; intro a4 c4 W4 own4 hb4; have hB4 := (hB3.alloc z3 _).trans hb4; obtain ⟨q0, q1, q2, q3, q4, q5, q6, q7, q8⟩ := (F.later hB4).z; have z4 := hB4.size; have y4 : w.heap.size < W4.heap.size := by omega))
      | (go_at_call 25; refine (refTlv_any _ _ 6 _ ([0, 0] ++ b2 s ++ b2 i) _ (own4.row HBy.out (by omega)) (by omega)).mono ?_; rintro e W5 ⟨a5, c5, rfl, own5, hb5⟩))
    go_ret
    rw [HLn.out, HP.out]
    exact ⟨a5, c5, rfl, own5.base (Nat.le_trans hB.size hB4.size), hB.trans ((hB4.trans (hb5.mono hB4.size)).mono hB.size)⟩
  · have HP : Hid (partB ⟨1, s, i, c, a, l, r, t, h⟩ = tlvB 5 ([0, 0] ++ b2 c ++ b2 i)) := by unfold Hid partB; simp
    have HLn : Hid ((partB ⟨1, s, i, c, a, l, r, t, h⟩).length = 2 + 6) := by unfold Hid; rw [HP.out, tlvB_len]; simp [b2]
    have HBy : Hid (Bytes ([0, 0] ++ b2 c ++ b2 i)) := ((two_bytes (by omega) (by omega)).append (b2_bytes (by omega) (by omega))).append (b2_bytes i0 i1)
    go_wp2_with (first
      | (go_at_call 27; refine (two_any _ _ (by omega) (by omega)).mono ?_; rintro e w' ⟨rfl, rfl⟩)
      | (at_builtin; (refine wpList_app8 _ rfl (.tmp 33) (.tmp 36) 25 5 rfl W1.heap.size Try.underlying25 info5 _ 2 [0, 0] rfl ((own8_at W1 _ rfl W1.heap.size 5 [0, 0] (Nat.le_refl _) (by simp)).alloc _) _ 2 2 (b2 c) rfl (row_b2 _ (by omega) (by omega) _ (by first | rfl | simp)) 4 (by omega) ([0, 0] ++ b2 c) rfl (by omega) (by first | omega | (simp; omega) | simp) ?_; intro a3 c3 W3 own3 hb3; have hB3 := (below2 W1 _ _).trans hb3; obtain ⟨q0, q1, q2, q3, q4, q5, q6, q7, q8⟩ := (F.later hB3).z; have z3 := hB3.size; have y3 : w.heap.size < W3.heap.size := by omega))
      | (at_builtin; (refine wpList_app8 _ rfl (.tmp 38) (.tmp 41) 25 5 rfl W1.heap.size Try.underlying25 info5 _ 4 ([0, 0] ++ b2 c) rfl (own3.alloc _) _ 2 2 (b2 i) rfl (row_b2 _ (by omega) (by omega) _ (by first | rfl | simp)) 6 (by omega) ([0, 0] ++ b2 c ++ b2 i) rfl (by omega) (by first | omega | (simp; omega) | simp) ?_; intro a4 c4 W4 own4 hb4; have hB4 := (hB3.alloc z3 _).trans hb4; obtain ⟨q0, q1, q2, q3, q4, q5, q6, q7, q8⟩ := (F.later hB4).z; have z4 := hB4.size; have y4 : w.heap.size < W4.heap.size := by omega))
      | (go_at_call 25; refine (refTlv_any _ _ 6 _ ([0, 0] ++ b2 c ++ b2 i) _ (own4.row HBy.out (by omega)) (by omega)).mono ?_; rintro e W5 ⟨a5, c5, rfl, own5, hb5⟩))
    go_ret
    rw [HLn.out, HP.out]
    exact ⟨a5, c5, rfl, own5.base (Nat.le_trans hB.size hB4.size), hB.trans ((hB4.trans (hb5.mono hB4.size)).mono hB.size)⟩
  · exact absurd rfl k2
  · have HP : Hid (partB ⟨3, s, i, c, a, l, r, t, h⟩ = tlvB 9 ([1, l] ++ adB a l)) := by unfold Hid partB; simp
    have HLn : Hid ((partB ⟨3, s, i, c, a, l, r, t, h⟩).length = 2 + (2 + n)) := by unfold Hid; rw [HP.out, tlvB_len, List.length_append, HA.out]; simp
    have HBy : Hid (Bytes ([1, l] ++ adB a l)) := (two_bytes (by omega) (by omega)).append HAB.out
    go_wp2_with (first
      | (at_builtin; (refine wpList_app8 _ rfl (.tmp 52) (.tmp 53) 25 5 rfl W1.heap.size Try.underlying25 info5 _ 2 [1, l] rfl (own8_at (W1.alloc (.cells #[.int .u8 0, .int .u8 0] 5)) (W1.heap.size + 1) (by simp) W1.heap.size 5 [1, l] (by omega) (by simp)) _ n 4 (adB a l) rfl (RA.out.later (below2 W1 _ _)) (2 + n) (by omega) ([1, l] ++ adB a l) rfl (by omega) (by first | omega | (simp; omega) | simp) ?_; intro a3 c3 W3 own3 hb3; have hB3 := (below2 W1 _ _).trans hb3; obtain ⟨q0, q1, q2, q3, q4, q5, q6, q7, q8⟩ := (F.later hB3).z; have z3 := hB3.size; have y3 : w.heap.size < W3.heap.size := by omega))
      | (go_at_call 25; refine (refTlv_any _ _ (2 + n) _ ([1, l] ++ adB a l) _ (own3.row HBy.out (by omega)) (by omega)).mono ?_; rintro e W5 ⟨a5, c5, rfl, own5, hb5⟩))
    go_ret
    rw [HLn.out, HP.out]
    exact ⟨a5, c5, rfl, own5.base (Nat.le_trans hB.size hB3.size), hB.trans ((hB3.trans (hb5.mono hB3.size)).mono hB.size)⟩
  · have HP : Hid (partB ⟨4, s, i, c, a, l, r, t, h⟩ = tlvB 10 ([1, l] ++ b2 s ++ [h, 0] ++ b8 r ++ adB a l)) := by unfold Hid partB; simp
    have HLn : Hid ((partB ⟨4, s, i, c, a, l, r, t, h⟩).length = 2 + (14 + n)) := by unfold Hid; rw [HP.out, tlvB_len, List.length_append, HA.out]; simp [b2, b8, b4]
    have HBr : Hid (Bytes (b8 r)) := b8_bytes r0 r1
    have HBy : Hid (Bytes ([1, l] ++ b2 s ++ [h, 0] ++ b8 r ++ adB a l)) := ((((two_bytes (by omega) (by omega)).append (b2_bytes s0 s1)).append (two_bytes (by omega) (by omega))).append HBr.out).append HAB.out
    go_wp2_with (first
      | (go_at_call 27; refine (two_any _ _ (by omega) (by omega)).mono ?_; rintro e w' ⟨rfl, rfl⟩)
      | (go_at_call 24; refine (long_any _ _ r0 r1).mono ?_; rintro e W9 ⟨a9, c9, rfl, own9, hb9⟩; obtain ⟨q0, q1, q2, q3, q4, q5, q6, q7, q8⟩ := ((F.later hB4).later hb9).z; have hB9 := hB4.trans (hb9.mono hB4.size); have z9 := hB9.size; have y9 : w.heap.size < W9.heap.size := by omega)
      | (at_builtin; (refine wpList_app8 _ rfl (.tmp 62) (.tmp 66) 25 5 rfl W1.heap.size Try.underlying25 info5 _ 2 [1, l] rfl ((own8_at (W1.alloc (.cells #[.int .u8 0, .int .u8 0] 5)) (W1.heap.size + 1) (by simp) W1.heap.size 5 [1, l] (by omega) (by simp)).alloc _) _ 2 2 (b2 s) rfl (row_b2 _ (by omega) (by omega) _ (by first | rfl | simp)) 4 (by omega) ([1, l] ++ b2 s) rfl (by omega) (by first | omega | (simp; omega) | simp) ?_; intro a3 c3 W3 own3 hb3; have hB3 := (below3 W1 _ _ _).trans hb3; obtain ⟨q0, q1, q2, q3, q4, q5, q6, q7, q8⟩ := (F.later hB3).z; have z3 := hB3.size; have y3 : w.heap.size < W3.heap.size := by omega))
      | (at_builtin; (refine wpList_app8 _ rfl (.tmp 68) (.tmp 72) 25 5 rfl W1.heap.size Try.underlying25 info5 _ 4 ([1, l] ++ b2 s) rfl (own3.alloc _) _ 2 2 [h, 0] rfl (row8_at _ _ (by first | rfl | simp) [h, 0] 5 2 rfl (two_bytes (by omega) (by omega)) (by simp)) 6 (by omega) ([1, l] ++ b2 s ++ [h, 0]) rfl (by omega) (by first | omega | (simp; omega) | simp) ?_; intro a4 c4 W4 own4 hb4; have hB4 := (hB3.alloc z3 _).trans hb4; obtain ⟨q0, q1, q2, q3, q4, q5, q6, q7, q8⟩ := (F.later hB4).z; have z4 := hB4.size; have y4 : w.heap.size < W4.heap.size := by omega))
      | (at_builtin; (refine wpList_app8 _ rfl (.tmp 74) (.tmp 77) 25 5 rfl W1.heap.size Try.underlying25 info5 _ 6 ([1, l] ++ b2 s ++ [h, 0]) rfl (own4.later hb9) _ 8 c9 (b8 r) rfl (own9.row HBr.out (by omega)) 14 (by omega) ([1, l] ++ b2 s ++ [h, 0] ++ b8 r) rfl (by omega) (by first | omega | (simp; omega) | simp) ?_; intro a5 c5 W5 own5 hb5; have hB5 := hB9.trans hb5; obtain ⟨q0, q1, q2, q3, q4, q5, q6, q7, q8⟩ := (F.later hB5).z; have z5 := hB5.size; have y5 : w.heap.size < W5.heap.size := by omega))
      | (at_builtin; (refine wpList_app8 _ rfl (.tmp 79) (.tmp 80) 25 5 rfl W1.heap.size Try.underlying25 info5 _ 14 ([1, l] ++ b2 s ++ [h, 0] ++ b8 r) rfl own5 _ n 4 (adB a l) rfl (RA.out.later hB5) (14 + n) (by omega) ([1, l] ++ b2 s ++ [h, 0] ++ b8 r ++ adB a l) rfl (by omega) (by first | omega | (simp; omega) | simp) ?_; intro a6 c6 W6 own6 hb6; have hB6 := hB5.trans hb6; obtain ⟨q0, q1, q2, q3, q4, q5, q6, q7, q8⟩ := (F.later hB6).z; have z6 := hB6.size; have y6 : w.heap.size < W6.heap.size := by omega))
      | (go_at_call 25; refine (refTlv_any _ _ (14 + n) _ ([1, l] ++ b2 s ++ [h, 0] ++ b8 r ++ adB a l) _ (own6.row HBy.out (by omega)) (by omega)).mono ?_; rintro e W7 ⟨a7, c7, rfl, own7, hb7⟩))
    go_ret
    rw [HLn.out, HP.out]
    exact ⟨a7, c7, rfl, own7.base (Nat.le_trans hB.size hB6.size), hB.trans ((hB6.trans (hb7.mono hB6.size)).mono hB.size)⟩
end Go.Proofs.Ytakikkigkmcffaa
