/- The contract of write: an IHU, an ask, an ask for a number. -/
import Derived.Test.YtakikkigkmcffaaCW3
namespace Go.Proofs.Ytakikkigkmcffaa
open Go.RowKit

set_option maxHeartbeats 2000000 in
theorem write_1 (N : Nat) (kt : Bool) (kr ka : Int) (ad : Option Addr) (m cp : Nat) (L : List Int) (s i c a l r t h : Int) (w : World) (hW : WF w N kt kr ka ad m cp) (own : Own8 w (N + 1) 5 (.slice ad m cp) m L) (hm : m ≤ 2000)
    (hok : Tlv.Ok ⟨1, s, i, c, a, l, r, t, h⟩) (hmay : mayT ⟨1, s, i, c, a, l, r, t, h⟩ = true) :
    Calls Try.prog 20 #[.pointer (some ⟨N, 0, none⟩), valT 1 s i c a l r t h] w (Wrote w N kt kr ka (m + 8) (L ++ tlvB 5 ([0, 0] ++ b2 c ++ b2 i))) := by
  obtain ⟨-, -, l0, l1, ⟨i0, i1⟩, ⟨c0, c1⟩, ⟨h0, h1⟩⟩ := mayT_all hmay
  have s0 := hok.s0
  have s1 := hok.s1
  have a0 := hok.a0
  have a1 := hok.a1
  have r0 := hok.r0
  have r1 := hok.r1
  have t0 := hok.t0
  have t1 := hok.t1
  simp only at l0 l1 i0 i1 c0 c1 h0 h1 s0 s1 a0 a1 r0 r1 t0 t1
  clear hok hmay
  have HW : Hid (WF w N kt kr ka ad m cp) := hW
  have HO : Hid (Own8 w (N + 1) 5 (.slice ad m cp) m L) := own
  obtain ⟨n, hn⟩ : ∃ n, nd l = n := ⟨_, rfl⟩
  have hn4 : n ≤ 4 := by rw [← hn]; exact nd_le l1
  have HN : Hid (nd l = n) := hn
  have hn4' : (n : Int) ≤ 4 := by omega
  have HA : Hid ((adB a l).length = n) := by unfold Hid; rw [adB_len l1, hn]
  have HAB : Hid (Bytes (adB a l)) := adB_bytes a0 a1
  clear hW own hn
  have HBy : Hid (Bytes (tlvB 5 ([0, 0] ++ b2 c ++ b2 i))) := tlvB_bytes (by omega) (((two_bytes (by omega) (by omega)).append (b2_bytes c0 c1)).append (b2_bytes i0 i1)) (by simp [b2])
  go_enter Try.func20, Try.ntmps20
  go_wp2
  go_region_held3 (fun w' => w'.cell? ⟨w.heap.size, 4, none⟩ = some (.int .u32 a) ∧ w'.cell? ⟨w.heap.size, 5, none⟩ = some (.int .i64 l)) (go_keep)
    (first
      | (go_at_call 38; refine (needs_any _ _ l0 (by omega) HN.out).mono ?_; rintro e w' ⟨rfl, rfl⟩)
      | (go_at_call 37; refine (put32_any _ _ a0 (by omega)).mono ?_; rintro e w' ⟨rfl, rfl⟩))
  obtain ⟨W1, hW1⟩ : ∃ W1, W1 = ((w.alloc (objT 1 s i c a l r t h)).alloc (ob4 a)).drew := ⟨_, rfl⟩
  have hB : Below w.heap.size w W1 := by rw [hW1]; exact (below2 _ _ _).drew
  have F : Hid (T9 W1 w.heap.size 0 ⟨1, s, i, c, a, l, r, t, h⟩) := by unfold Hid; rw [hW1]; exact (T9.new w 1 s i c a l r t h).later (below1 _ _).drew
  have RA : Hid (Row8 W1 (some ⟨w.heap.size + 1, 0, none⟩) n (adB a l)) := by
    unfold Hid; rw [hW1]; exact row_ad ((row_b4 (w.alloc (objT _ s i c a l r t h)) a0 (by omega) _ (by simp)).later (Below.refl _ _).drew) HN.out hn4
  have z1 : w.heap.size + 1 < W1.heap.size := by rw [hW1]; simp [World.drew]
  go_wp2
  rw [← hW1]
  clear hW1
  refine wp_region_obl (relOf [fun v _ => v = .pointer (some ⟨N, 0, none⟩), fun v W => Is8 W v (b2 0), fun v _ => v = .pointer (some ⟨w.heap.size, 3, none⟩), fun v _ => v = .int .i64 c, fun v W => Is8 W v (b2 c), fun v _ => v = .pointer (some ⟨w.heap.size, 2, none⟩), fun v _ => v = .int .i64 i, fun v W => Is8 W v (b2 i), fun v W => IsL W v 3 [(b2 0), (b2 c), (b2 i)], fun v W => Is8 W v (tlvB 5 ([0, 0] ++ b2 c ++ b2 i))]) 10 (by kernel_rfl) (by kernel_rfl) (by kernel_rfl) (relOf_mono ⟨stays_eq _, stays_8 _, stays_eq _, stays_eq _, stays_8 _, stays_eq _, stays_eq _, stays_8 _, stays_L _ _, stays_8 _, trivial⟩) ?_
  refine ⟨?_, ?_, ?_, ?_, ?_, ?_, ?_, ?_, ?_, ?_, ?_, trivial⟩
  · refine obl_step rfl fun A W hf hd hb => st_move (.tmp 0) _ rfl (ev_tmp ((hf.2.2 0 (by kernel_rfl)).trans rfl)) rfl
  · refine obl_step rfl fun A W hf hd hb => st_call 41 _ _ #[.int .i64 0] rfl (by kernel_rfl) (by simp only [List.map_toArray, List.map_cons, List.map_nil, ev_const]) ((put16i_any 0 W (by decide) (by decide)).mono ?_)
    rintro e W' ⟨rfl, rfl⟩
    exact ⟨_, rfl, is8 (row_b2 W (by decide) (by decide) _ rfl), below1 _ _⟩
  · refine obl_step rfl fun A W hf hd hb => st_field 44 (.tmp 3) 3 ⟨w.heap.size, 0, none⟩ _ rfl (ev_tmp ((hf.2.2 3 (by kernel_rfl)).trans rfl)) (by go_simp) rfl
  · refine obl_step rfl fun A W hf hd hb => ?_
    obtain ⟨c0, c1, c2, c3, c4, c5, c6, c7, c8⟩ := (F.out.later hb).z
    exact st_load 3 (.tmp 38) ⟨w.heap.size, 3, none⟩ (.int .i64 c) rfl (ev_tmp (dep hd 2 38 rfl rfl)) (by go_simp) rfl
  · refine obl_step rfl fun A W hf hd hb => st_call 41 _ _ #[.int .i64 c] rfl (by kernel_rfl) (by simp only [List.map_toArray, List.map_cons, List.map_nil, ev_tmp (dep hd 3 39 rfl rfl)]) ((put16i_any c W c0 c1).mono ?_)
    rintro e W' ⟨rfl, rfl⟩
    exact ⟨_, rfl, is8 (row_b2 W c0 c1 _ rfl), below1 _ _⟩
  · refine obl_step rfl fun A W hf hd hb => st_field 44 (.tmp 3) 2 ⟨w.heap.size, 0, none⟩ _ rfl (ev_tmp ((hf.2.2 3 (by kernel_rfl)).trans rfl)) (by go_simp) rfl
  · refine obl_step rfl fun A W hf hd hb => ?_
    obtain ⟨c0, c1, c2, c3, c4, c5, c6, c7, c8⟩ := (F.out.later hb).z
    exact st_load 3 (.tmp 41) ⟨w.heap.size, 2, none⟩ (.int .i64 i) rfl (ev_tmp (dep hd 5 41 rfl rfl)) (by go_simp) rfl
  · refine obl_step rfl fun A W hf hd hb => st_call 41 _ _ #[.int .i64 i] rfl (by kernel_rfl) (by simp only [List.map_toArray, List.map_cons, List.map_nil, ev_tmp (dep hd 6 42 rfl rfl)]) ((put16i_any i W i0 i1).mono ?_)
    rintro e W' ⟨rfl, rfl⟩
    exact ⟨_, rfl, is8 (row_b2 W i0 i1 _ rfl), below1 _ _⟩
  · refine obl_step rfl fun A W hf hd hb => ?_
    obtain ⟨x0, y0, g0, r0⟩ : Is8 W _ (b2 0) := dep hd 1 37 rfl rfl
    obtain ⟨x1, y1, g1, r1⟩ : Is8 W _ (b2 c) := dep hd 4 40 rfl rfl
    obtain ⟨x2, y2, g2, r2⟩ : Is8 W _ (b2 i) := dep hd 7 43 rfl rfl
    exact st_build 85 3 _ _ _ _ rfl (by simp only [List.map_toArray, List.map_cons, List.map_nil, ev_tmp g0, ev_tmp g1, ev_tmp g2]) (bsL3 W x0 x1 x2 _ y0 _ y1 _ y2) ⟨_, _, rfl, rowL_new W _ rfl 25 [_, _, _] [(b2 0), (b2 c), (b2 i)] 3 rfl ⟨is8 r0, is8 r1, is8 r2, trivial⟩⟩ (below1 _ _)
  · refine obl_step rfl fun A W hf hd hb => ?_
    obtain ⟨x1, y1, g1, r1⟩ : IsL W _ 3 [(b2 0), (b2 c), (b2 i)] := dep hd 8 44 rfl rfl
    refine st_call 40 _ _ #[.int .u8 5, .slice x1 3 y1] rfl (by kernel_rfl) (by simp only [List.map_toArray, List.map_cons, List.map_nil, ev_const, ev_tmp g1]) ((tlv_any 5 x1 3 y1 [(b2 0), (b2 c), (b2 i)] 6 ([0, 0] ++ b2 c ++ b2 i) W r1 (by decide) rfl rfl (by decide)).mono ?_)
    rintro e W' ⟨x2, y2, rfl, own2, hb2⟩
    exact ⟨_, rfl, is8 (own2.row HBy.out (by omega)), hb2⟩
  · refine obl_last fun A W hf hd hb => ?_
    have g1 : _ = _ := dep2 hd 0 36 (by decide) rfl
    obtain ⟨x2, y2, g2, r2⟩ : Is8 W _ (tlvB 5 ([0, 0] ++ b2 c ++ b2 i)) := dep2 hd 9 45 (by decide) rfl
    refine wp_callf 39 _ _ #[.pointer (some ⟨N, 0, none⟩), .slice x2 8 y2] rfl (by kernel_rfl) (by simp only [List.map_toArray, List.map_cons, List.map_nil, ev_tmp g1, ev_tmp g2]; rfl) ((add_any N kt kr ka ad m cp L x2 8 y2 _ W ((HW.out.later hB).later hb) ((HO.out.later hB).later hb) r2 (by omega) rfl rfl).mono ?_)
    rintro e W' ⟨rfl, ad', cp', hW', own', hb', sz', far'⟩
    refine ⟨_, rfl, ?_⟩
    go_wp2
    refine bodyPost_ret (v := .tuple #[]) (by simp [results, Try.results20, go_sem]) hf.1 ⟨rfl, ad', cp', hW', own', ?_⟩
    exact ((hB.trans (hb.mono hB.size)).mono (Nat.le_of_lt HW.out.2.2.2.2.2)).trans hb'
set_option maxHeartbeats 2000000 in
theorem write_4 (N : Nat) (kt : Bool) (kr ka : Int) (ad : Option Addr) (m cp : Nat) (L : List Int) (s i c a l r t h : Int) (w : World) (hW : WF w N kt kr ka ad m cp) (own : Own8 w (N + 1) 5 (.slice ad m cp) m L) (hm : m ≤ 2000)
    (hok : Tlv.Ok ⟨4, s, i, c, a, l, r, t, h⟩) (hmay : mayT ⟨4, s, i, c, a, l, r, t, h⟩ = true) {n : Nat} (hnn : nd l = n) :
    Calls Try.prog 20 #[.pointer (some ⟨N, 0, none⟩), valT 4 s i c a l r t h] w (Wrote w N kt kr ka (m + (16 + n)) (L ++ tlvB 10 ([1, l] ++ b2 s ++ [h, 0] ++ b8 r ++ adB a l))) := by
  subst hnn
  obtain ⟨-, -, l0, l1, ⟨i0, i1⟩, ⟨c0, c1⟩, ⟨h0, h1⟩⟩ := mayT_all hmay
  have s0 := hok.s0
  have s1 := hok.s1
  have a0 := hok.a0
  have a1 := hok.a1
  have r0 := hok.r0
  have r1 := hok.r1
  have t0 := hok.t0
  have t1 := hok.t1
  simp only at l0 l1 i0 i1 c0 c1 h0 h1 s0 s1 a0 a1 r0 r1 t0 t1
  clear hok hmay
  have HW : Hid (WF w N kt kr ka ad m cp) := hW
  have HO : Hid (Own8 w (N + 1) 5 (.slice ad m cp) m L) := own
  obtain ⟨n, hn⟩ : ∃ n, nd l = n := ⟨_, rfl⟩
  have hn4 : n ≤ 4 := by rw [← hn]; exact nd_le l1
  have HN : Hid (nd l = n) := hn
  have hn4' : (n : Int) ≤ 4 := by omega
  have HA : Hid ((adB a l).length = n) := by unfold Hid; rw [adB_len l1, hn]
  have HAB : Hid (Bytes (adB a l)) := adB_bytes a0 a1
  clear hW own hn
  have HNN : Hid (nd l = n) := HN
  have HBy : Hid (Bytes (tlvB 10 ([1, l] ++ b2 s ++ [h, 0] ++ b8 r ++ adB a l))) := tlvB_bytes (by omega) (((((two_bytes (by omega) (by omega)).append (b2_bytes s0 s1)).append (two_bytes (by omega) (by omega))).append (b8_bytes r0 r1)).append HAB.out) (by simp [b2, b8, b4, HA.out]; omega)
  have HLN : Hid (([1, l] ++ b2 s ++ [h, 0] ++ b8 r ++ adB a l).length = 14 + n) := by unfold Hid; simp [b2, b8, b4, HA.out]; omega
  have HTL : Hid ((tlvB 10 ([1, l] ++ b2 s ++ [h, 0] ++ b8 r ++ adB a l)).length = 16 + n) := by unfold Hid; rw [tlvB_len, HLN.out]; omega
  go_enter Try.func20, Try.ntmps20
  go_wp2
  go_region_held3 (fun w' => w'.cell? ⟨w.heap.size, 4, none⟩ = some (.int .u32 a) ∧ w'.cell? ⟨w.heap.size, 5, none⟩ = some (.int .i64 l)) (go_keep)
    (first
      | (go_at_call 38; refine (needs_any _ _ l0 (by omega) HN.out).mono ?_; rintro e w' ⟨rfl, rfl⟩)
      | (go_at_call 37; refine (put32_any _ _ a0 (by omega)).mono ?_; rintro e w' ⟨rfl, rfl⟩))
  obtain ⟨W1, hW1⟩ : ∃ W1, W1 = ((w.alloc (objT 4 s i c a l r t h)).alloc (ob4 a)).drew := ⟨_, rfl⟩
  have hB : Below w.heap.size w W1 := by rw [hW1]; exact (below2 _ _ _).drew
  have F : Hid (T9 W1 w.heap.size 0 ⟨4, s, i, c, a, l, r, t, h⟩) := by unfold Hid; rw [hW1]; exact (T9.new w 4 s i c a l r t h).later (below1 _ _).drew
  have RA : Hid (Row8 W1 (some ⟨w.heap.size + 1, 0, none⟩) n (adB a l)) := by
    unfold Hid; rw [hW1]; exact row_ad ((row_b4 (w.alloc (objT _ s i c a l r t h)) a0 (by omega) _ (by simp)).later (Below.refl _ _).drew) HN.out hn4
  have z1 : w.heap.size + 1 < W1.heap.size := by rw [hW1]; simp [World.drew]
  go_wp2
  rw [← hW1]
  clear hW1
  rw [HNN.out]
  refine wp_region_obl (relOf [fun v _ => v = .pointer (some ⟨N, 0, none⟩), fun v _ => v = .int .u8 l, fun v W => Is8 W v [1, l], fun v _ => v = .pointer (some ⟨w.heap.size, 1, none⟩), fun v _ => v = .int .u16 s, fun v W => Is8 W v (b2 s), fun v _ => v = .pointer (some ⟨w.heap.size, 8, none⟩), fun v _ => v = .int .i64 h, fun v _ => v = .int .u8 h, fun v W => Is8 W v [h, 0], fun v _ => v = .pointer (some ⟨w.heap.size, 6, none⟩), fun v _ => v = .int .u64 r, fun v W => Is8 W v (b8 r), fun v W => Is8 W v (adB a l), fun v W => IsL W v 5 [[1, l], (b2 s), [h, 0], (b8 r), (adB a l)], fun v W => Is8 W v (tlvB 10 ([1, l] ++ b2 s ++ [h, 0] ++ b8 r ++ adB a l))]) 16 (by kernel_rfl) (by kernel_rfl) (by kernel_rfl) (relOf_mono ⟨stays_eq _, stays_eq _, stays_8 _, stays_eq _, stays_eq _, stays_8 _, stays_eq _, stays_eq _, stays_eq _, stays_8 _, stays_eq _, stays_eq _, stays_8 _, stays_8 _, stays_L _ _, stays_8 _, trivial⟩) ?_
  refine ⟨?_, ?_, ?_, ?_, ?_, ?_, ?_, ?_, ?_, ?_, ?_, ?_, ?_, ?_, ?_, ?_, ?_, trivial⟩
  · refine obl_step rfl fun A W hf hd hb => st_move (.tmp 0) _ rfl (ev_tmp ((hf.2.2 0 (by kernel_rfl)).trans rfl)) rfl
  · refine obl_step rfl fun A W hf hd hb => st_move (.tmp 4) _ rfl (ev_tmp ((hf.2.2 4 (by kernel_rfl)).trans rfl)) rfl
  · refine obl_step rfl fun A W hf hd hb => st_build 25 2 _ _ _ _ rfl (by simp only [List.map_toArray, List.map_cons, List.map_nil, ev_const, ev_tmp (dep hd 1 66 rfl rfl)]) (bsB2 W 1 l) (is8 (row8_at W _ rfl [1, l] 5 2 rfl (two_bytes (by omega) (by omega)) (by simp))) (below1 _ _)
  · refine obl_step rfl fun A W hf hd hb => st_field 44 (.tmp 3) 1 ⟨w.heap.size, 0, none⟩ _ rfl (ev_tmp ((hf.2.2 3 (by kernel_rfl)).trans rfl)) (by go_simp) rfl
  · refine obl_step rfl fun A W hf hd hb => ?_
    obtain ⟨c0, c1, c2, c3, c4, c5, c6, c7, c8⟩ := (F.out.later hb).z
    exact st_load 39 (.tmp 68) ⟨w.heap.size, 1, none⟩ (.int .u16 s) rfl (ev_tmp (dep hd 3 68 rfl rfl)) (by go_simp) rfl
  · refine obl_step rfl fun A W hf hd hb => st_call 42 _ _ #[.int .u16 s] rfl (by kernel_rfl) (by simp only [List.map_toArray, List.map_cons, List.map_nil, ev_tmp (dep hd 4 69 rfl rfl)]) ((put16_any s W s0 s1).mono ?_)
    rintro e W' ⟨rfl, rfl⟩
    exact ⟨_, rfl, is8 (row_b2 W s0 s1 _ rfl), below1 _ _⟩
  · refine obl_step rfl fun A W hf hd hb => st_field 44 (.tmp 3) 7 ⟨w.heap.size, 0, none⟩ _ rfl (ev_tmp ((hf.2.2 3 (by kernel_rfl)).trans rfl)) (by go_simp) rfl
  · refine obl_step rfl fun A W hf hd hb => ?_
    obtain ⟨c0, c1, c2, c3, c4, c5, c6, c7, c8⟩ := (F.out.later hb).z
    exact st_load 3 (.tmp 71) ⟨w.heap.size, 8, none⟩ (.int .i64 h) rfl (ev_tmp (dep hd 6 71 rfl rfl)) (by go_simp) rfl
  · refine obl_step rfl fun A W hf hd hb => st_conv 3 5 (.tmp 72) (.int .i64 h) (.int .u8 h) rfl (ev_tmp (dep hd 7 72 rfl rfl)) (by go_simp; exact wrap8 (by omega) (by omega)) rfl
  · refine obl_step rfl fun A W hf hd hb => st_build 25 2 _ _ _ _ rfl (by simp only [List.map_toArray, List.map_cons, List.map_nil, ev_const, ev_tmp (dep hd 8 73 rfl rfl)]) (bsB2 W h 0) (is8 (row8_at W _ rfl [h, 0] 5 2 rfl (two_bytes (by omega) (by omega)) (by simp))) (below1 _ _)
  · refine obl_step rfl fun A W hf hd hb => st_field 44 (.tmp 3) 5 ⟨w.heap.size, 0, none⟩ _ rfl (ev_tmp ((hf.2.2 3 (by kernel_rfl)).trans rfl)) (by go_simp) rfl
  · refine obl_step rfl fun A W hf hd hb => ?_
    obtain ⟨c0, c1, c2, c3, c4, c5, c6, c7, c8⟩ := (F.out.later hb).z
    exact st_load 42 (.tmp 75) ⟨w.heap.size, 6, none⟩ (.int .u64 r) rfl (ev_tmp (dep hd 10 75 rfl rfl)) (by go_simp) rfl
  · refine obl_step rfl fun A W hf hd hb => st_call 44 _ _ #[.int .u64 r] rfl (by kernel_rfl) (by simp only [List.map_toArray, List.map_cons, List.map_nil, ev_tmp (dep hd 11 76 rfl rfl)]) ((put64_any r W r0 r1).mono ?_)
    rintro e W' ⟨x2, y2, rfl, own2, hb2⟩
    exact ⟨_, rfl, is8 (own2.row (b8_bytes r0 r1) (by decide)), hb2⟩
  · refine obl_step rfl fun A W hf hd hb => st_move (.tmp 5) _ rfl (ev_tmp ((hf.2.2 5 (by kernel_rfl)).trans rfl)) (is8 (RA.out.later hb))
  · refine obl_step rfl fun A W hf hd hb => ?_
    obtain ⟨x0, y0, g0, r0⟩ : Is8 W _ [1, l] := dep hd 2 67 rfl rfl
    obtain ⟨x1, y1, g1, r1⟩ : Is8 W _ (b2 s) := dep hd 5 70 rfl rfl
    obtain ⟨x2, y2, g2, r2⟩ : Is8 W _ [h, 0] := dep hd 9 74 rfl rfl
    obtain ⟨x3, y3, g3, r3⟩ : Is8 W _ (b8 r) := dep hd 12 77 rfl rfl
    obtain ⟨x4, y4, g4, r4⟩ : Is8 W _ (adB a l) := dep hd 13 78 rfl rfl
    exact st_build 85 5 _ _ _ _ rfl (by simp only [List.map_toArray, List.map_cons, List.map_nil, ev_tmp g0, ev_tmp g1, ev_tmp g2, ev_tmp g3, ev_tmp g4]) (bsL5 W x0 x1 x2 x3 x4 _ y0 _ y1 _ y2 _ y3 _ y4) ⟨_, _, rfl, rowL_new W _ rfl 25 [_, _, _, _, _] [[1, l], (b2 s), [h, 0], (b8 r), (adB a l)] 5 rfl ⟨is8 r0, is8 r1, is8 r2, is8 r3, is8 r4, trivial⟩⟩ (below1 _ _)
  · refine obl_step rfl fun A W hf hd hb => ?_
    obtain ⟨x1, y1, g1, r1⟩ : IsL W _ 5 [[1, l], (b2 s), [h, 0], (b8 r), (adB a l)] := dep hd 14 79 rfl rfl
    refine st_call 40 _ _ #[.int .u8 10, .slice x1 5 y1] rfl (by kernel_rfl) (by simp only [List.map_toArray, List.map_cons, List.map_nil, ev_const, ev_tmp g1]) ((tlv_any 10 x1 5 y1 [[1, l], (b2 s), [h, 0], (b8 r), (adB a l)] (14 + n) ([1, l] ++ b2 s ++ [h, 0] ++ b8 r ++ adB a l) W r1 (by decide) (by simp) HLN.out (by omega)).mono ?_)
    rintro e W' ⟨x2, y2, rfl, own2, hb2⟩
    exact ⟨_, rfl, is8 (own2.row HBy.out (by omega)), hb2⟩
  · refine obl_last fun A W hf hd hb => ?_
    have g1 : _ = _ := dep2 hd 0 65 (by decide) rfl
    obtain ⟨x2, y2, g2, r2⟩ : Is8 W _ (tlvB 10 ([1, l] ++ b2 s ++ [h, 0] ++ b8 r ++ adB a l)) := dep2 hd 15 80 (by decide) rfl
    rw [HTL.out] at g2 r2
    refine wp_callf 39 _ _ #[.pointer (some ⟨N, 0, none⟩), .slice x2 (16 + n) y2] rfl (by kernel_rfl) (by simp only [List.map_toArray, List.map_cons, List.map_nil, ev_tmp g1, ev_tmp g2]) ((add_any N kt kr ka ad m cp L x2 (16 + n) y2 _ W ((HW.out.later hB).later hb) ((HO.out.later hB).later hb) r2 (by omega) rfl rfl).mono ?_)
    rintro e W' ⟨rfl, ad', cp', hW', own', hb', sz', far'⟩
    refine ⟨_, rfl, ?_⟩
    go_wp2
    refine bodyPost_ret (v := .tuple #[]) (by simp [results, Try.results20, go_sem]) hf.1 ⟨rfl, ad', cp', hW', own', ?_⟩
    exact ((hB.trans (hb.mono hB.size)).mono (Nat.le_of_lt HW.out.2.2.2.2.2)).trans hb'
set_option maxHeartbeats 2000000 in
theorem write_3 (N : Nat) (kt : Bool) (kr ka : Int) (ad : Option Addr) (m cp : Nat) (L : List Int) (s i c a l r t h : Int) (w : World) (hW : WF w N kt kr ka ad m cp) (own : Own8 w (N + 1) 5 (.slice ad m cp) m L) (hm : m ≤ 2000)
    (hok : Tlv.Ok ⟨3, s, i, c, a, l, r, t, h⟩) (hmay : mayT ⟨3, s, i, c, a, l, r, t, h⟩ = true) {n : Nat} (hnn : nd l = n) :
    Calls Try.prog 20 #[.pointer (some ⟨N, 0, none⟩), valT 3 s i c a l r t h] w (Wrote w N kt kr ka (m + (4 + n)) (L ++ tlvB 9 ([1, l] ++ adB a l))) := by
  subst hnn
  obtain ⟨-, -, l0, l1, ⟨i0, i1⟩, ⟨c0, c1⟩, ⟨h0, h1⟩⟩ := mayT_all hmay
  have s0 := hok.s0
  have s1 := hok.s1
  have a0 := hok.a0
  have a1 := hok.a1
  have r0 := hok.r0
  have r1 := hok.r1
  have t0 := hok.t0
  have t1 := hok.t1
  simp only at l0 l1 i0 i1 c0 c1 h0 h1 s0 s1 a0 a1 r0 r1 t0 t1
  clear hok hmay
  have HW : Hid (WF w N kt kr ka ad m cp) := hW
  have HO : Hid (Own8 w (N + 1) 5 (.slice ad m cp) m L) := own
  obtain ⟨n, hn⟩ : ∃ n, nd l = n := ⟨_, rfl⟩
  have hn4 : n ≤ 4 := by rw [← hn]; exact nd_le l1
  have HN : Hid (nd l = n) := hn
  have hn4' : (n : Int) ≤ 4 := by omega
  have HA : Hid ((adB a l).length = n) := by unfold Hid; rw [adB_len l1, hn]
  have HAB : Hid (Bytes (adB a l)) := adB_bytes a0 a1
  clear hW own hn
  have HNN : Hid (nd l = n) := HN
  have HBy : Hid (Bytes (tlvB 9 ([1, l] ++ adB a l))) := tlvB_bytes (by omega) ((two_bytes (by omega) (by omega)).append HAB.out) (by simp [HA.out]; omega)
  have HLN : Hid (([1, l] ++ adB a l).length = 2 + n) := by unfold Hid; simp [HA.out]; omega
  go_enter Try.func20, Try.ntmps20
  go_wp2
  go_region_held3 (fun w' => w'.cell? ⟨w.heap.size, 4, none⟩ = some (.int .u32 a) ∧ w'.cell? ⟨w.heap.size, 5, none⟩ = some (.int .i64 l)) (go_keep)
    (first
      | (go_at_call 38; refine (needs_any _ _ l0 (by omega) HN.out).mono ?_; rintro e w' ⟨rfl, rfl⟩)
      | (go_at_call 37; refine (put32_any _ _ a0 (by omega)).mono ?_; rintro e w' ⟨rfl, rfl⟩))
  obtain ⟨W1, hW1⟩ : ∃ W1, W1 = ((w.alloc (objT 3 s i c a l r t h)).alloc (ob4 a)).drew := ⟨_, rfl⟩
  have hB : Below w.heap.size w W1 := by rw [hW1]; exact (below2 _ _ _).drew
  have F : Hid (T9 W1 w.heap.size 0 ⟨3, s, i, c, a, l, r, t, h⟩) := by unfold Hid; rw [hW1]; exact (T9.new w 3 s i c a l r t h).later (below1 _ _).drew
  have RA : Hid (Row8 W1 (some ⟨w.heap.size + 1, 0, none⟩) n (adB a l)) := by
    unfold Hid; rw [hW1]; exact row_ad ((row_b4 (w.alloc (objT _ s i c a l r t h)) a0 (by omega) _ (by simp)).later (Below.refl _ _).drew) HN.out hn4
  have z1 : w.heap.size + 1 < W1.heap.size := by rw [hW1]; simp [World.drew]
  rw [← hW1]
  clear hW1
  obtain ⟨q0, q1, q2, q3, q4, q5, q6, q7, q8⟩ := F.out.z
  have z0 : w.heap.size < W1.heap.size := by omega
  go_wp2_with (first
    | (go_at_call 40; refine (tlv_any 9 _ 2 2 [[1, l], adB a l] (2 + n) ([1, l] ++ adB a l) _ (rowL_new (W1.alloc (.cells #[.int .u8 1, .int .u8 l] 5)) _ (by first | rfl | simp) 25 [_, _] [[1, l], adB a l] 2 rfl ⟨is8 (row8_at W1 W1.heap.size rfl [1, l] 5 2 rfl (two_bytes (by omega) (by omega)) (by simp)), is8 (RA.out.later (below1 _ _)), trivial⟩) (by decide) (by simp) HLN.out (by omega)).mono ?_; rintro e W2 ⟨x2, y2, rfl, own2, hb2⟩; have hB2 : Below W1.heap.size W1 W2 := Below.out2 hb2)
    | (go_at_call 39; refine (add_any N kt kr ka ad m cp L _ (2 + (2 + n)) _ _ _ ((HW.out.later hB).later hB2) ((HO.out.later hB).later hB2) (own2.row HBy.out (by omega)) (by omega) rfl rfl).mono ?_; rintro e W' ⟨rfl, ad', cp', hW', own', hb', sz', far'⟩))
  rw [HNN.out]
  refine bodyPost_ret (v := .tuple #[]) (by simp [results, Try.results20, go_sem]) rfl ⟨rfl, ad', cp', by rw [show m + (4 + n) = m + (2 + (2 + n)) from by omega]; exact hW', by rw [show m + (4 + n) = m + (2 + (2 + n)) from by omega]; exact own', ?_⟩
  exact ((hB.trans (hB2.mono hB.size)).mono (Nat.le_of_lt HW.out.2.2.2.2.2)).trans hb'
end Go.Proofs.Ytakikkigkmcffaa
