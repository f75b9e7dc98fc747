/- The contract of write: a hello. -/
import Derived.Test.YtakikkigkmcffaaCW2
namespace Go.Proofs.Ytakikkigkmcffaa
open Go.RowKit

/-- What write leaves. -/
def Wrote (w : World) (N : Nat) (kt : Bool) (kr ka : Int) (k : Nat) (L : List Int) (e : Ending) (w' : World) : Prop :=
  e = .returned (.tuple #[]) ∧ ∃ ad' cp', WF w' N kt kr ka ad' k cp' ∧ Own8 w' (N + 1) 5 (.slice ad' k cp') k L ∧ Below N w w'
set_option maxHeartbeats 2000000 in
theorem write_0 (N : Nat) (kt : Bool) (kr ka : Int) (ad : Option Addr) (m cp : Nat) (L : List Int) (s i c a l r t h : Int) (w : World) (hW : WF w N kt kr ka ad m cp) (own : Own8 w (N + 1) 5 (.slice ad m cp) m L) (hm : m ≤ 2000)
    (l0 : 0 ≤ l) (l1 : l ≤ 32) (i0 : 0 ≤ i) (i1 : i ≤ 65535) (s0 : 0 ≤ s) (s1 : s ≤ 65535) (a0 : 0 ≤ a) (a1 : a < 4294967296) :
    Calls Try.prog 20 #[.pointer (some ⟨N, 0, none⟩), valT 0 s i c a l r t h] w (Wrote w N kt kr ka (m + 8) (L ++ tlvB 4 ([0, 0] ++ b2 s ++ b2 i))) := by
  have HW : Hid (WF w N kt kr ka ad m cp) := hW
  have HO : Hid (Own8 w (N + 1) 5 (.slice ad m cp) m L) := own
  obtain ⟨n, hn⟩ : ∃ n, nd l = n := ⟨_, rfl⟩
  have hn4 : n ≤ 4 := by rw [← hn]; exact nd_le l1
  have HN : Hid (nd l = n) := hn
  have hn4' : (n : Int) ≤ 4 := by omega
  clear hW own hn
  have HBy : Hid (Bytes (tlvB 4 ([0, 0] ++ b2 s ++ b2 i))) := tlvB_bytes (by omega) (((two_bytes (by omega) (by omega)).append (b2_bytes s0 s1)).append (b2_bytes i0 i1)) (by simp [b2])
  go_enter Try.func20, Try.ntmps20
  go_wp2
  go_region_held3 (fun w' => w'.cell? ⟨w.heap.size, 4, none⟩ = some (.int .u32 a) ∧ w'.cell? ⟨w.heap.size, 5, none⟩ = some (.int .i64 l)) (go_keep)
    (first
      | (go_at_call 38; refine (needs_any _ _ l0 (by omega) HN.out).mono ?_; rintro e w' ⟨rfl, rfl⟩)
      | (go_at_call 37; refine (put32_any _ _ a0 (by omega)).mono ?_; rintro e w' ⟨rfl, rfl⟩))
  go_wp2
  obtain ⟨W1, hW1⟩ : ∃ W1, W1 = ((w.alloc (objT 0 s i c a l r t h)).alloc (ob4 a)).drew := ⟨_, rfl⟩
  rw [← hW1]
  have hB : Below w.heap.size w W1 := by rw [hW1]; exact (below2 _ _ _).drew
  have F : Hid (T9 W1 w.heap.size 0 ⟨0, s, i, c, a, l, r, t, h⟩) := by unfold Hid; rw [hW1]; exact (T9.new w 0 s i c a l r t h).later (below1 _ _).drew
  clear hW1
  refine wp_region_obl (relOf [fun v _ => v = .pointer (some ⟨N, 0, none⟩), fun v W => Is8 W v (b2 0), fun v _ => v = .pointer (some ⟨w.heap.size, 1, none⟩), fun v _ => v = .int .u16 s, fun v W => Is8 W v (b2 s), fun v _ => v = .pointer (some ⟨w.heap.size, 2, none⟩), fun v _ => v = .int .i64 i, fun v W => Is8 W v (b2 i), fun v W => IsL W v 3 [b2 0, b2 s, b2 i], fun v W => Is8 W v (tlvB 4 ([0, 0] ++ b2 s ++ b2 i))]) 10 (by kernel_rfl) (by kernel_rfl) (by kernel_rfl) (relOf_mono ⟨stays_eq _, stays_8 _, stays_eq _, stays_eq _, stays_8 _, stays_eq _, stays_eq _, stays_8 _, stays_L _ _, stays_8 _, trivial⟩) ?_
  refine ⟨?_, ?_, ?_, ?_, ?_, ?_, ?_, ?_, ?_, ?_, ?_, trivial⟩
  · refine obl_step rfl fun A W hf hd hb => st_move (.tmp 0) _ rfl (ev_tmp ((hf.2.2 0 (by kernel_rfl)).trans rfl)) rfl
  · refine obl_step rfl fun A W hf hd hb => st_call 41 _ _ #[.int .i64 0] rfl (by kernel_rfl) (by simp only [List.map_toArray, List.map_cons, List.map_nil, ev_const]) ((put16i_any 0 W (by decide) (by decide)).mono ?_)
    rintro e W' ⟨rfl, rfl⟩
    exact ⟨_, rfl, is8 (row_b2 W (by decide) (by decide) _ rfl), below1 _ _⟩
  · refine obl_step rfl fun A W hf hd hb => st_field 44 (.tmp 3) 1 ⟨w.heap.size, 0, none⟩ _ rfl (ev_tmp ((hf.2.2 3 (by kernel_rfl)).trans rfl)) (by go_simp) rfl
  · refine obl_step rfl fun A W hf hd hb => ?_
    obtain ⟨c0, c1, c2, c3, c4, c5, c6, c7, c8⟩ := (F.out.later hb).z
    exact st_load 39 (.tmp 25) ⟨w.heap.size, 1, none⟩ (.int .u16 s) rfl (ev_tmp (dep hd 2 25 rfl rfl)) (by go_simp) rfl
  · refine obl_step rfl fun A W hf hd hb => st_call 42 _ _ #[.int .u16 s] rfl (by kernel_rfl) (by simp only [List.map_toArray, List.map_cons, List.map_nil, ev_tmp (dep hd 3 26 rfl rfl)]) ((put16_any s W s0 s1).mono ?_)
    rintro e W' ⟨rfl, rfl⟩
    exact ⟨_, rfl, is8 (row_b2 W s0 s1 _ rfl), below1 _ _⟩
  · refine obl_step rfl fun A W hf hd hb => st_field 44 (.tmp 3) 2 ⟨w.heap.size, 0, none⟩ _ rfl (ev_tmp ((hf.2.2 3 (by kernel_rfl)).trans rfl)) (by go_simp) rfl
  · refine obl_step rfl fun A W hf hd hb => ?_
    obtain ⟨c0, c1, c2, c3, c4, c5, c6, c7, c8⟩ := (F.out.later hb).z
    exact st_load 3 (.tmp 28) ⟨w.heap.size, 2, none⟩ (.int .i64 i) rfl (ev_tmp (dep hd 5 28 rfl rfl)) (by go_simp) rfl
  · refine obl_step rfl fun A W hf hd hb => st_call 41 _ _ #[.int .i64 i] rfl (by kernel_rfl) (by simp only [List.map_toArray, List.map_cons, List.map_nil, ev_tmp (dep hd 6 29 rfl rfl)]) ((put16i_any i W i0 i1).mono ?_)
    rintro e W' ⟨rfl, rfl⟩
    exact ⟨_, rfl, is8 (row_b2 W i0 i1 _ rfl), below1 _ _⟩
  · refine obl_step rfl fun A W hf hd hb => ?_
    obtain ⟨x1, y1, g1, r1⟩ : Is8 W _ (b2 0) := dep hd 1 24 rfl rfl
    obtain ⟨x2, y2, g2, r2⟩ : Is8 W _ (b2 s) := dep hd 4 27 rfl rfl
    obtain ⟨x3, y3, g3, r3⟩ : Is8 W _ (b2 i) := dep hd 7 30 rfl rfl
    exact st_build 85 3 _ _ _ _ rfl (by simp only [List.map_toArray, List.map_cons, List.map_nil, ev_tmp g1, ev_tmp g2, ev_tmp g3]) (bsL3 W x1 x2 x3 _ y1 _ y2 _ y3) ⟨_, _, rfl, rowL_new W _ rfl 25 [_, _, _] [b2 0, b2 s, b2 i] 3 rfl ⟨is8 r1, is8 r2, is8 r3, trivial⟩⟩ (below1 _ _)
  · refine obl_step rfl fun A W hf hd hb => ?_
    obtain ⟨x1, y1, g1, r1⟩ : IsL W _ 3 [b2 0, b2 s, b2 i] := dep hd 8 31 rfl rfl
    refine st_call 40 _ _ #[.int .u8 4, .slice x1 3 y1] rfl (by kernel_rfl) (by simp only [List.map_toArray, List.map_cons, List.map_nil, ev_const, ev_tmp g1]) ((tlv_any 4 x1 3 y1 [b2 0, b2 s, b2 i] 6 ([0, 0] ++ b2 s ++ b2 i) W r1 (by decide) rfl rfl (by decide)).mono ?_)
    rintro e W' ⟨x2, y2, rfl, own2, hb2⟩
    exact ⟨_, rfl, is8 (own2.row HBy.out (by decide)), hb2⟩
  · refine obl_last fun A W hf hd hb => ?_
    have g1 : _ = _ := dep2 hd 0 23 (by decide) rfl
    obtain ⟨x2, y2, g2, r2⟩ : Is8 W _ (tlvB 4 ([0, 0] ++ b2 s ++ b2 i)) := dep2 hd 9 32 (by decide) rfl
    have hBW := hB.trans (hb.mono hB.size)
    refine wp_callf 39 _ _ #[.pointer (some ⟨N, 0, none⟩), .slice x2 8 y2] rfl (by kernel_rfl) (by simp only [List.map_toArray, List.map_cons, List.map_nil, ev_tmp g1, ev_tmp g2]; rfl) ((add_any N kt kr ka ad m cp L x2 8 y2 _ W (HW.out.later hBW) (HO.out.later hBW) r2 (by omega) rfl rfl).mono ?_)
    rintro e W' ⟨rfl, ad', cp', hW', own', hb', -, -⟩
    refine ⟨_, rfl, ?_⟩
    go_wp2
    refine bodyPost_ret (v := .tuple #[]) (by simp [results, Try.results20, go_sem]) hf.1 ⟨rfl, ad', cp', hW', own', ?_⟩
    exact (hBW.mono (Nat.le_of_lt HW.out.2.2.2.2.2)).trans hb'
end Go.Proofs.Ytakikkigkmcffaa
