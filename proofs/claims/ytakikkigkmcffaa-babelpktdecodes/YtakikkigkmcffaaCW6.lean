/- The contract of writeUpdate, where the router was not told. -/
import Derived.Deep.Cut
import Derived.Test.YtakikkigkmcffaaCW5
namespace Go.Proofs.Ytakikkigkmcffaa
open Go.RowKit

/-- What is known where the router is told. -/
def At3 (w : World) (N : Nat) (r ka : Int) (ad : Option Addr) (m cp : Nat) (L : List Int) (B n : Nat) (A : List Int) (p : Tlv) (wx : World) : Prop :=
  T9 wx w.heap.size 0 p ∧ Row8 wx (some ⟨B, 0, none⟩) n A ∧ WF wx N true r ka ad m cp ∧ Own8 wx (N + 1) 5 (.slice ad m cp) m L ∧ Below N w wx ∧ w.heap.size < wx.heap.size
theorem WF.set10 {W : World} {N : Nat} {kt kt' : Bool} {kr kr' ka : Int} {ad : Option Addr} {m cp : Nat} (h : WF W N kt kr ka ad m cp) : WF ((W.setCell ⟨N, 1, none⟩ (.int .u64 kr')).setCell ⟨N, 0, none⟩ (.bool kt')) N kt' kr' ka ad m cp := by
  obtain ⟨h0, h1, h2, h3, hf, hz⟩ := h
  exact ⟨by simp [go_sem, h0], by simp [go_sem, h1], by simp [go_sem, h2], by simp [go_sem, h3], fun o => by simp [go_sem, hf], by simpa using hz⟩
section
variable {w W' : World} {N : Nat} {kt : Bool} {kr ka : Int} {ad : Option Addr} {m cp : Nat} {L : List Int} {B n : Nat} {A : List Int} {p : Tlv}
theorem at3_a (F2 : T9 W' w.heap.size 0 p) (RA2 : Row8 W' (some ⟨B, 0, none⟩) n A) (hW' : WF W' N kt kr ka ad m cp) (own' : Own8 W' (N + 1) 5 (.slice ad m cp) m L) (HB2 : Below N w W') (nbN : N ≠ w.heap.size) (hNB : N ≠ B) (hz : w.heap.size < W'.heap.size) (r : Int) :
    At3 w N r ka ad m cp L B n A p ((W'.setCell ⟨N, 0, none⟩ (.bool true)).setCell ⟨N, 1, none⟩ (.int .u64 r)).drew :=
  ⟨(F2.far (fun o => (far_set _ _ _ _ _ _ nbN).trans (far_set _ _ _ _ _ _ nbN))).later (Below.refl _ _).drew, (RA2.far (fun o => (far_set _ _ _ _ _ _ hNB).trans (far_set _ _ _ _ _ _ hNB))).later (Below.refl _ _).drew, hW'.set01.later (Below.refl _ _).drew, ((own'.set (by omega)).set (by omega)).later (Below.refl _ _).drew, ((HB2.setCell (Nat.le_refl _) _).setCell (Nat.le_refl _) _).drew, by simpa [World.drew] using hz⟩
theorem at3_b (F2 : T9 W' w.heap.size 0 p) (RA2 : Row8 W' (some ⟨B, 0, none⟩) n A) (hW' : WF W' N kt kr ka ad m cp) (own' : Own8 W' (N + 1) 5 (.slice ad m cp) m L) (HB2 : Below N w W') (nbN : N ≠ w.heap.size) (hNB : N ≠ B) (hz : w.heap.size < W'.heap.size) (r : Int) :
    At3 w N r ka ad m cp L B n A p ((W'.setCell ⟨N, 1, none⟩ (.int .u64 r)).setCell ⟨N, 0, none⟩ (.bool true)).drew :=
  ⟨(F2.far (fun o => (far_set _ _ _ _ _ _ nbN).trans (far_set _ _ _ _ _ _ nbN))).later (Below.refl _ _).drew, (RA2.far (fun o => (far_set _ _ _ _ _ _ hNB).trans (far_set _ _ _ _ _ _ hNB))).later (Below.refl _ _).drew, hW'.set10.later (Below.refl _ _).drew, ((own'.set (by omega)).set (by omega)).later (Below.refl _ _).drew, ((HB2.setCell (Nat.le_refl _) _).setCell (Nat.le_refl _) _).drew, by simpa [World.drew] using hz⟩
end
set_option maxRecDepth 100000 in
set_option maxHeartbeats 4000000 in
theorem wu_new (N : Nat) (kt : Bool) (kr ka : Int) (ad : Option Addr) (m cp : Nat) (L : List Int) (s i c a l r t h : Int) (B n : Nat) (w : World) (hW : WF w N kt kr ka ad m cp) (own : Own8 w (N + 1) 5 (.slice ad m cp) m L) (hm : m ≤ 2000)
    (hok : Tlv.Ok ⟨2, s, i, c, a, l, r, t, h⟩) (hmay : mayT ⟨2, s, i, c, a, l, r, t, h⟩ = true) (hn : nd l = n) (hNB : N ≠ B) (hoB : (Value.slice ad m cp).ownBlock ≠ some B) (hBz : B < w.heap.size) (hrow : Row8 w (some ⟨B, 0, none⟩) n (adB a l)) (x0 : 0 ≤ ka) (x1 : ka < 4294967296) (ht : kt = false ∨ (kt = true ∧ (kr != r) = true)) :
    Calls Try.prog 43 #[.pointer (some ⟨N, 0, none⟩), valT 2 s i c a l r t h, .int .u8 l, .slice (some ⟨B, 0, none⟩) n 4] w (Wrote w N true r a (m + 12 + (2 + (upB ka ⟨2, s, i, c, a, l, r, t, h⟩).length)) ((L ++ tlvB 6 (roB r)) ++ tlvB 8 (upB ka ⟨2, s, i, c, a, l, r, t, h⟩))) := by
  obtain ⟨-, -, l0, l1, ⟨i0, i1⟩, ⟨c0, c1⟩, ⟨h0, h1⟩⟩ := mayT_all hmay
  have s0 := hok.s0
  have s1 := hok.s1
  have a0 := hok.a0
  have a1 := hok.a1
  have r0 := hok.r0
  have r1 := hok.r1
  have t0 := hok.t0
  have t1 := hok.t1
  simp only at l0 l1 i0 i1 c0 c1 h0 h1 s0 s1 a0 a1 r0 r1 t0 t1
  have HBU : Hid (Bytes (upB ka ⟨2, s, i, c, a, l, r, t, h⟩)) := upB_bytes hok hmay
  have HW : Hid (WF w N kt kr ka ad m cp) := hW
  have HO : Hid (Own8 w (N + 1) 5 (.slice ad m cp) m L) := own
  have HRw : Hid (Row8 w (some ⟨B, 0, none⟩) n (adB a l)) := hrow
  have hn4 : n ≤ 4 := by rw [← hn]; exact nd_le l1
  have HN : Hid (nd l = n) := hn
  obtain ⟨q, hq⟩ : ∃ q, sq ka a n = q := ⟨_, rfl⟩
  have hqn : q ≤ n := by rw [← hq]; exact sq_le _ _ _
  have HQ : Hid (sqI ka a (n : Int) = (q : Int)) := by unfold Hid sqI; rw [if_neg (by omega), ← hq]; simp
  have HU : Hid ([1, 128, l, (q : Int)] ++ b2 i ++ b2 s ++ b2 c ++ (adB a l).drop q ++ tagB t = upB ka ⟨2, s, i, c, a, l, r, t, h⟩) := by unfold Hid upB; simp only [hn, hq]
  have HA : Hid (((adB a l).drop q).length = n - q) := by unfold Hid; rw [List.length_drop, adB_len l1, hn]
  obtain ⟨U, hU⟩ : ∃ U, upB ka ⟨2, s, i, c, a, l, r, t, h⟩ = U := ⟨_, rfl⟩
  rw [hU] at HU HBU
  have hu18 : U.length ≤ 18 := by rw [← hU]; exact upB_le l1
  obtain ⟨u, hu⟩ : ∃ u, U.length = u := ⟨_, rfl⟩
  rw [hu] at hu18
  have HUL : Hid (U.length = u) := hu
  have HBT : Hid (Bytes (tlvB 8 U)) := tlvB_bytes (by omega) HBU.out (by rw [hu]; omega)
  have HTL : Hid ((tlvB 8 U).length = 2 + u) := by unfold Hid; rw [tlvB_len, hu]
  rw [hU]
  have vz : N < w.heap.size := hW.2.2.2.2.2
  have nbN : N ≠ w.heap.size := by omega
  have nbB : B ≠ w.heap.size := by omega
  have HNb : Hid ((Value.slice ad m cp).ownBlock ≠ some w.heap.size) := own.not_new
  obtain ⟨v0, v1, v2, v3, vf, -⟩ := hW
  obtain ⟨p0, p1, p2, p3, pf, -⟩ := HW.out.later (below1 w (objT 2 s i c a l r t h))
  clear own hn hq hrow hU hu hok hmay
  rw [HUL.out]
  have HRB : Hid (Bytes (tlvB 6 (roB r))) := tlvB_bytes (by omega) (roB_bytes r0 r1) (by rw [roB_len]; omega)
  rcases ht with rfl | ⟨rfl, hne⟩
  · go_enter Try.func43, Try.ntmps43
    go_wp2
    go_quiet (fail)
    go_wp2
    obtain ⟨W1, hW1⟩ : ∃ W1, W1 = (w.alloc (objT 2 s i c a l r t h)).drewN nq := ⟨_, rfl⟩
    rw [← hW1]
    have hB1 : Below w.heap.size w W1 := by rw [hW1]; exact below_drewN (below1 _ _) _
    have F1 : Hid (T9 W1 w.heap.size 0 ⟨2, s, i, c, a, l, r, t, h⟩) := by unfold Hid; rw [hW1]; exact (T9.new w 2 s i c a l r t h).later (below_drewN (Below.refl _ _) _)
    have z0 : w.heap.size < W1.heap.size := by rw [hW1]; simp
    clear hW1 p0 p1 p2 p3 pf v0 v1 v2 v3 vf
    refine wp_region_obl (relOf [fun v _ => v = .pointer (some ⟨N, 0, none⟩), fun v W => Is8 W v (b2 0), fun v _ => v = .pointer (some ⟨w.heap.size, 6, none⟩), fun v _ => v = .int .u64 r, fun v W => Is8 W v (b8 r), fun v W => IsL W v 2 [(b2 0), (b8 r)], fun v W => Is8 W v (tlvB 6 (roB r))]) 7 (by kernel_rfl) (by kernel_rfl) (by kernel_rfl) (relOf_mono ⟨stays_eq _, stays_8 _, stays_eq _, stays_eq _, stays_8 _, stays_L _ _, stays_8 _, trivial⟩) ?_
    refine ⟨?_, ?_, ?_, ?_, ?_, ?_, ?_, ?_, trivial⟩
    · refine obl_step rfl fun A W hf hd hb => st_move (.tmp 0) _ rfl (ev_tmp ((hf.2.2 0 (by kernel_rfl)).trans rfl)) rfl
    · refine obl_step rfl fun A W hf hd hb => st_call 41 _ _ #[.int .i64 0] rfl (by kernel_rfl) (by simp only [List.map_toArray, List.map_cons, List.map_nil, ev_const]) ((put16i_any 0 W (by decide) (by decide)).mono ?_)
      rintro e W' ⟨rfl, rfl⟩
      exact ⟨_, rfl, is8 (row_b2 W (by decide) (by decide) _ rfl), below1 _ _⟩
    · refine obl_step rfl fun A W hf hd hb => st_field 44 (.tmp 5) 5 ⟨w.heap.size, 0, none⟩ _ rfl (ev_tmp ((hf.2.2 5 (by kernel_rfl)).trans rfl)) (by go_simp) rfl
    · refine obl_step rfl fun A W hf hd hb => ?_
      obtain ⟨c0, c1, c2, c3, c4, c5, c6, c7, c8⟩ := (F1.out.later hb).z
      exact st_load 42 (.tmp 27) ⟨w.heap.size, 6, none⟩ (.int .u64 r) rfl (ev_tmp (dep hd 2 27 rfl rfl)) (by go_simp) rfl
    · refine obl_step rfl fun A W hf hd hb => st_call 44 _ _ #[.int .u64 r] rfl (by kernel_rfl) (by simp only [List.map_toArray, List.map_cons, List.map_nil, ev_tmp (dep hd 3 28 rfl rfl)]) ((put64_any r W r0 r1).mono ?_)
      rintro e W' ⟨x2, y2, rfl, own2, hb2⟩
      exact ⟨_, rfl, is8 (own2.row (b8_bytes r0 r1) (by decide)), hb2⟩
    · refine obl_step rfl fun A W hf hd hb => ?_
      obtain ⟨x0, y0, g0, r0⟩ : Is8 W _ (b2 0) := dep hd 1 26 rfl rfl
      obtain ⟨x1, y1, g1, r1⟩ : Is8 W _ (b8 r) := dep hd 4 29 rfl rfl
      exact st_build 85 2 _ _ _ _ rfl (by simp only [List.map_toArray, List.map_cons, List.map_nil, ev_tmp g0, ev_tmp g1]) (bsL2 W x0 x1 _ y0 _ y1) ⟨_, _, rfl, rowL_new W _ rfl 25 [_, _] [(b2 0), (b8 r)] 2 rfl ⟨is8 r0, is8 r1, trivial⟩⟩ (below1 _ _)
    · refine obl_step rfl fun A W hf hd hb => ?_
      obtain ⟨x1, y1, g1, r1⟩ : IsL W _ 2 [(b2 0), (b8 r)] := dep hd 5 30 rfl rfl
      refine st_call 40 _ _ #[.int .u8 6, .slice x1 2 y1] rfl (by kernel_rfl) (by simp only [List.map_toArray, List.map_cons, List.map_nil, ev_const, ev_tmp g1]) ((tlv_any 6 x1 2 y1 [(b2 0), (b8 r)] 10 (roB r) W r1 (by decide) rfl rfl (by decide)).mono ?_)
      rintro e W' ⟨x2, y2, rfl, own2, hb2⟩
      exact ⟨_, rfl, is8 (own2.row HRB.out (by omega)), hb2⟩
    · refine obl_last fun A W hf hd hb => ?_
      have g1 : _ = _ := dep2 hd 0 25 (by decide) rfl
      obtain ⟨x2, y2, g2, r2⟩ : Is8 W _ (tlvB 6 (roB r)) := dep2 hd 6 31 (by decide) rfl
      refine wp_callf 39 _ _ #[.pointer (some ⟨N, 0, none⟩), .slice x2 12 y2] rfl (by kernel_rfl) (by simp only [List.map_toArray, List.map_cons, List.map_nil, ev_tmp g1, ev_tmp g2]; rfl) ((add_any N false kr ka ad m cp L x2 12 y2 _ W ((HW.out.later hB1).later hb) ((HO.out.later hB1).later hb) r2 (by omega) rfl rfl).mono ?_)
      rintro e W' ⟨rfl, ad', cp', hW', own', hb', sz', far'⟩
      refine ⟨_, rfl, ?_⟩
      obtain ⟨u0, u1, u2, u3, u4, u5, u6, u7, u8, u9, u10, u11, u12, u13, u14, u15, u16, u17, u18, u19, u20, u21, u22, u23, u24, u25, u26, u27, u28, u29, u30, u31, u32, u33, u34, u35, u36, u37, u38, u39, u40, u41, u42, u43, u44, u45, u46, u47, u48, u49, u50, u51, u52, u53, u54, u55, u56, u57, u58, u59, u60, u61, u62, u63, u64, u65, u66, u67, u68, u69, u70, u71, u72, u73, u74, u75, u76, u77, u78, u79, u80, u81, u82, u83, rfl⟩ := act84 (hf.2.1.trans rfl) (hf.1.trans rfl)
      have k0 : u0 = _ := hf.2.2 0 (by kernel_rfl)
      have k2 : u2 = _ := hf.2.2 2 (by kernel_rfl)
      have k3 : u3 = _ := hf.2.2 3 (by kernel_rfl)
      have k5 : u5 = _ := hf.2.2 5 (by kernel_rfl)
      have z2 : w.heap.size < W.heap.size := Nat.lt_of_lt_of_le z0 hb.size
      have hfb := far' w.heap.size z2 (fun e => nbN e.symm) HNb.out
      have hfB := far' B (Nat.lt_of_lt_of_le hBz (Nat.le_trans hB1.size hb.size)) (fun e => hNB e.symm) hoB
      have F2 := (F1.out.later hb).far hfb.2
      have RA2 := ((HRw.out.later hB1).later hb).far hfB.2
      have HB2 : Below N w W' := ((hB1.trans (hb.mono hB1.size)).mono (Nat.le_of_lt vz)).trans hb'
      have AT : Hid (_ ∧ _) := ⟨at3_a F2 RA2 hW' own' HB2 nbN hNB (Nat.lt_of_lt_of_le z2 sz') r, at3_b F2 RA2 hW' own' HB2 nbN hNB (Nat.lt_of_lt_of_le z2 sz') r⟩
      have hnb : Hid ((Value.slice ad' (m + 12) cp').ownBlock ≠ some w.heap.size) := hfb.1
      obtain ⟨q0, q1, q2, q3, q4, q5, q6, q7, q8⟩ := F2.z
      obtain ⟨j0, j1, j2, j3, jf, jz⟩ := hW'
      dsimp only [Act.put] at *
      simp only [List.getElem?_toArray, List.getElem?_cons_zero, List.getElem?_cons_succ, Option.getD_some] at k0 k2 k3 k5
      subst k0 k2 k3 k5
      clear hf hd g1 g2 far' hfb hfB F2 RA2 own' r2 hb' sz' HB2
      simp only [List.setIfInBounds_toArray, List.set_cons_zero, List.set_cons_succ]
      go_wp2
      go_cut [] from 9 (fun wx => At3 w N r ka ad' (m + 12) cp' (L ++ tlvB 6 (roB r)) B n (adB a l) ⟨2, s, i, c, a, l, r, t, h⟩ wx)
      case first =>
        go_region
        all_goals
          go_wp2_with fail
          go_meet
          first | exact AT.out.1 | exact AT.out.2
      case rest =>
      clear AT q0 q1 q2 q3 q4 q5 q6 q7 q8 j0 j1 j2 j3 jf jz hb z2
      clear W W'
      obtain ⟨W3, hW3⟩ : ∃ W3, W3 = wc := ⟨_, rfl⟩
      rw [← hW3] at hcut ⊢
      clear hW3
      have F3 : Hid (T9 W3 w.heap.size 0 ⟨2, s, i, c, a, l, r, t, h⟩) := hcut.1
      have RA3 : Hid (Row8 W3 (some ⟨B, 0, none⟩) n (adB a l)) := hcut.2.1
      have HW3 : Hid (WF W3 N true r ka ad' (m + 12) cp') := hcut.2.2.1
      have HO3 : Hid (Own8 W3 (N + 1) 5 (.slice ad' (m + 12) cp') (m + 12) (L ++ tlvB 6 (roB r))) := hcut.2.2.2.1
      have HB3 : Hid (Below N w W3) := hcut.2.2.2.2.1
      have z1 : w.heap.size < W3.heap.size := hcut.2.2.2.2.2
      clear hcut wc
      obtain ⟨q0, q1, q2, q3, q4, q5, q6, q7, q8⟩ := F3.out.z
      obtain ⟨j0, j1, j2, j3, jf, jz⟩ := HW3.out
      go_wp2
      go_quiet ((go_at_call 14; exact Calls.quiet_of_same (squeeze_any _ _ _ _ x0 x1 a0 a1 HQ.out)))
      go_wp2
      obtain ⟨W4, hW4⟩ : ∃ W4, W4 = W3.drewN nq := ⟨_, rfl⟩
      rw [← hW4]
      have hb4 : Below W3.heap.size W3 W4 := by rw [hW4]; exact below_drewN (Below.refl _ _) _
      clear hW4
      have F4 : Hid (T9 W4 w.heap.size 0 ⟨2, s, i, c, a, l, r, t, h⟩) := F3.out.later hb4
      have HW4 : Hid (WF W4 N true r ka ad' (m + 12) cp') := HW3.out.later hb4
      have HO4 : Hid (Own8 W4 (N + 1) 5 (.slice ad' (m + 12) cp') (m + 12) (L ++ tlvB 6 (roB r))) := HO3.out.later hb4
      have RA4 : Hid (Row8 W4 (some ⟨B, 0, none⟩) n (adB a l)) := RA3.out.later hb4
      clear q0 q1 q2 q3 q4 q5 q6 q7 q8 j0 j1 j2 j3 jf jz
      refine wp_region_obl (relOf [fun v _ => v = .pointer (some ⟨N, 0, none⟩), fun v _ => v = .int .u8 l, fun v _ => v = .int .i64 (q : Int), fun v _ => v = .int .u8 (q : Int), fun v W => Is8 W v [1, 128, l, (q : Int)], fun v _ => v = .pointer (some ⟨w.heap.size, 2, none⟩), fun v _ => v = .int .i64 i, fun v W => Is8 W v (b2 i), fun v _ => v = .pointer (some ⟨w.heap.size, 1, none⟩), fun v _ => v = .int .u16 s, fun v W => Is8 W v (b2 s), fun v _ => v = .pointer (some ⟨w.heap.size, 3, none⟩), fun v _ => v = .int .i64 c, fun v W => Is8 W v (b2 c), fun v _ => v = .slice (some ⟨B, 0, none⟩) n 4, fun v _ => v = .int .i64 (q : Int), fun v W => Is8 W v ((adB a l).drop q), fun v _ => v = .pointer (some ⟨w.heap.size, 7, none⟩), fun v _ => v = .int .u16 t, fun v W => Is8 W v (tagB t), fun v W => IsL W v 6 [[1, 128, l, (q : Int)], (b2 i), (b2 s), (b2 c), ((adB a l).drop q), (tagB t)], fun v W => Is8 W v (tlvB 8 U)]) 22 (by kernel_rfl) (by kernel_rfl) (by kernel_rfl) (relOf_mono ⟨stays_eq _, stays_eq _, stays_eq _, stays_eq _, stays_8 _, stays_eq _, stays_eq _, stays_8 _, stays_eq _, stays_eq _, stays_8 _, stays_eq _, stays_eq _, stays_8 _, stays_eq _, stays_eq _, stays_8 _, stays_eq _, stays_eq _, stays_8 _, stays_L _ _, stays_8 _, trivial⟩) ?_
      refine ⟨?_, ?_, ?_, ?_, ?_, ?_, ?_, ?_, ?_, ?_, ?_, ?_, ?_, ?_, ?_, ?_, ?_, ?_, ?_, ?_, ?_, ?_, ?_, trivial⟩
      · refine obl_step rfl fun A W hf hd hb => st_move (.tmp 0) _ rfl (ev_tmp ((hf.2.2 0 (by kernel_rfl)).trans rfl)) rfl
      · refine obl_step rfl fun A W hf hd hb => st_move (.tmp 2) _ rfl (ev_tmp ((hf.2.2 2 (by kernel_rfl)).trans rfl)) rfl
      · refine obl_step rfl fun A W hf hd hb => st_move (.tmp 8) _ rfl (ev_tmp ((hf.2.2 8 (by kernel_rfl)).trans rfl)) rfl
      · refine obl_step rfl fun A W hf hd hb => st_conv 3 5 (.tmp 56) (.int .i64 (q : Int)) (.int .u8 (q : Int)) rfl (ev_tmp (dep hd 2 56 rfl rfl)) (by go_simp; exact wrap8 (by omega) (by omega)) rfl
      · refine obl_step rfl fun A W hf hd hb => st_build 25 4 _ _ _ _ rfl (by simp only [List.map_toArray, List.map_cons, List.map_nil, ev_const, ev_tmp (dep hd 1 55 rfl rfl), ev_tmp (dep hd 3 57 rfl rfl)]) (bsB4 W 1 128 l ((q : Int))) (is8 (row8_at W _ rfl [1, 128, l, (q : Int)] 5 4 rfl (four_bytes (by omega) (by omega) (by omega) (by omega)) (by simp))) (below1 _ _)
      · refine obl_step rfl fun A W hf hd hb => st_field 44 (.tmp 5) 2 ⟨w.heap.size, 0, none⟩ _ rfl (ev_tmp ((hf.2.2 5 (by kernel_rfl)).trans rfl)) (by go_simp) rfl
      · refine obl_step rfl fun A W hf hd hb => ?_
        obtain ⟨c0, c1, c2, c3, c4, c5, c6, c7, c8⟩ := (F4.out.later hb).z
        exact st_load 3 (.tmp 59) ⟨w.heap.size, 2, none⟩ (.int .i64 i) rfl (ev_tmp (dep hd 5 59 rfl rfl)) (by go_simp) rfl
      · refine obl_step rfl fun A W hf hd hb => st_call 41 _ _ #[.int .i64 i] rfl (by kernel_rfl) (by simp only [List.map_toArray, List.map_cons, List.map_nil, ev_tmp (dep hd 6 60 rfl rfl)]) ((put16i_any i W i0 i1).mono ?_)
        rintro e W' ⟨rfl, rfl⟩
        exact ⟨_, rfl, is8 (row_b2 W i0 i1 _ rfl), below1 _ _⟩
      · refine obl_step rfl fun A W hf hd hb => st_field 44 (.tmp 5) 1 ⟨w.heap.size, 0, none⟩ _ rfl (ev_tmp ((hf.2.2 5 (by kernel_rfl)).trans rfl)) (by go_simp) rfl
      · refine obl_step rfl fun A W hf hd hb => ?_
        obtain ⟨c0, c1, c2, c3, c4, c5, c6, c7, c8⟩ := (F4.out.later hb).z
        exact st_load 39 (.tmp 62) ⟨w.heap.size, 1, none⟩ (.int .u16 s) rfl (ev_tmp (dep hd 8 62 rfl rfl)) (by go_simp) rfl
      · refine obl_step rfl fun A W hf hd hb => st_call 42 _ _ #[.int .u16 s] rfl (by kernel_rfl) (by simp only [List.map_toArray, List.map_cons, List.map_nil, ev_tmp (dep hd 9 63 rfl rfl)]) ((put16_any s W s0 s1).mono ?_)
        rintro e W' ⟨rfl, rfl⟩
        exact ⟨_, rfl, is8 (row_b2 W s0 s1 _ rfl), below1 _ _⟩
      · refine obl_step rfl fun A W hf hd hb => st_field 44 (.tmp 5) 3 ⟨w.heap.size, 0, none⟩ _ rfl (ev_tmp ((hf.2.2 5 (by kernel_rfl)).trans rfl)) (by go_simp) rfl
      · refine obl_step rfl fun A W hf hd hb => ?_
        obtain ⟨c0, c1, c2, c3, c4, c5, c6, c7, c8⟩ := (F4.out.later hb).z
        exact st_load 3 (.tmp 65) ⟨w.heap.size, 3, none⟩ (.int .i64 c) rfl (ev_tmp (dep hd 11 65 rfl rfl)) (by go_simp) rfl
      · refine obl_step rfl fun A W hf hd hb => st_call 41 _ _ #[.int .i64 c] rfl (by kernel_rfl) (by simp only [List.map_toArray, List.map_cons, List.map_nil, ev_tmp (dep hd 12 66 rfl rfl)]) ((put16i_any c W c0 c1).mono ?_)
        rintro e W' ⟨rfl, rfl⟩
        exact ⟨_, rfl, is8 (row_b2 W c0 c1 _ rfl), below1 _ _⟩
      · refine obl_step rfl fun A W hf hd hb => st_move (.tmp 3) _ rfl (ev_tmp ((hf.2.2 3 (by kernel_rfl)).trans rfl)) rfl
      · refine obl_step rfl fun A W hf hd hb => st_move (.tmp 8) _ rfl (ev_tmp ((hf.2.2 8 (by kernel_rfl)).trans rfl)) rfl
      · refine obl_step rfl fun A W hf hd hb => st_slice 25 (.tmp 68) (.tmp 69) _ _ _ rfl (ev_tmp (dep hd 14 68 rfl rfl)) (ev_tmp (dep hd 15 69 rfl rfl)) (slice_rest B 0 n 4 q W hqn hn4) (is8 ((RA4.out.later hb).rest q 4 hqn hn4 B 0 rfl))
      · refine obl_step rfl fun A W hf hd hb => st_field 44 (.tmp 5) 6 ⟨w.heap.size, 0, none⟩ _ rfl (ev_tmp ((hf.2.2 5 (by kernel_rfl)).trans rfl)) (by go_simp) rfl
      · refine obl_step rfl fun A W hf hd hb => ?_
        obtain ⟨c0, c1, c2, c3, c4, c5, c6, c7, c8⟩ := (F4.out.later hb).z
        exact st_load 39 (.tmp 71) ⟨w.heap.size, 7, none⟩ (.int .u16 t) rfl (ev_tmp (dep hd 17 71 rfl rfl)) (by go_simp) rfl
      · refine obl_step rfl fun A W hf hd hb => st_call 57 _ _ #[.int .u16 t] rfl (by kernel_rfl) (by simp only [List.map_toArray, List.map_cons, List.map_nil, ev_tmp (dep hd 18 72 rfl rfl)]) ((putTag_any t W t0 t1).mono ?_)
        rintro e W' ⟨x2, y2, rfl, own2, hb2⟩
        exact ⟨_, rfl, is8 (own2.row (tagB_bytes t0 t1) (by have := tagB_len t; omega)), hb2⟩
      · refine obl_step rfl fun A W hf hd hb => ?_
        obtain ⟨x0, y0, g0, r0⟩ : Is8 W _ [1, 128, l, (q : Int)] := dep hd 4 58 rfl rfl
        obtain ⟨x1, y1, g1, r1⟩ : Is8 W _ (b2 i) := dep hd 7 61 rfl rfl
        obtain ⟨x2, y2, g2, r2⟩ : Is8 W _ (b2 s) := dep hd 10 64 rfl rfl
        obtain ⟨x3, y3, g3, r3⟩ : Is8 W _ (b2 c) := dep hd 13 67 rfl rfl
        obtain ⟨x4, y4, g4, r4⟩ : Is8 W _ ((adB a l).drop q) := dep hd 16 70 rfl rfl
        obtain ⟨x5, y5, g5, r5⟩ : Is8 W _ (tagB t) := dep hd 19 73 rfl rfl
        exact st_build 85 6 _ _ _ _ rfl (by simp only [List.map_toArray, List.map_cons, List.map_nil, ev_tmp g0, ev_tmp g1, ev_tmp g2, ev_tmp g3, ev_tmp g4, ev_tmp g5]) (bsL6 W x0 x1 x2 x3 x4 x5 _ y0 _ y1 _ y2 _ y3 _ y4 _ y5) ⟨_, _, rfl, rowL_new W _ rfl 25 [_, _, _, _, _, _] [[1, 128, l, (q : Int)], (b2 i), (b2 s), (b2 c), ((adB a l).drop q), (tagB t)] 6 rfl ⟨is8 r0, is8 r1, is8 r2, is8 r3, is8 r4, is8 r5, trivial⟩⟩ (below1 _ _)
      · refine obl_step rfl fun A W hf hd hb => ?_
        obtain ⟨x1, y1, g1, r1⟩ : IsL W _ 6 [[1, 128, l, (q : Int)], (b2 i), (b2 s), (b2 c), ((adB a l).drop q), (tagB t)] := dep hd 20 74 rfl rfl
        refine st_call 40 _ _ #[.int .u8 8, .slice x1 6 y1] rfl (by kernel_rfl) (by simp only [List.map_toArray, List.map_cons, List.map_nil, ev_const, ev_tmp g1]) ((tlv_any 8 x1 6 y1 [[1, 128, l, (q : Int)], (b2 i), (b2 s), (b2 c), ((adB a l).drop q), (tagB t)] u U W r1 (by decide) (by rw [← HU.out]; simp) HUL.out (by omega)).mono ?_)
        rintro e W' ⟨x2, y2, rfl, own2, hb2⟩
        exact ⟨_, rfl, is8 (own2.row HBT.out (by omega)), hb2⟩
      · refine obl_last fun A W hf hd hb => ?_
        have g1 : _ = _ := dep2 hd 0 54 (by decide) rfl
        obtain ⟨x2, y2, g2, r2⟩ : Is8 W _ (tlvB 8 U) := dep2 hd 21 75 (by decide) rfl
        rw [HTL.out] at g2 r2
        refine wp_callf 39 _ _ #[.pointer (some ⟨N, 0, none⟩), .slice x2 (2 + u) y2] rfl (by kernel_rfl) (by simp only [List.map_toArray, List.map_cons, List.map_nil, ev_tmp g1, ev_tmp g2]) ((add_any N true r ka ad' (m + 12) cp' (L ++ tlvB 6 (roB r)) x2 (2 + u) y2 _ W (HW4.out.later hb) (HO4.out.later hb) r2 (by omega) rfl rfl).mono ?_)
        rintro e W' ⟨rfl, ad'', cp'', hW', own', hb', sz', far'⟩
        refine ⟨_, rfl, ?_⟩
        obtain ⟨u0, u1, u2, u3, u4, u5, u6, u7, u8, u9, u10, u11, u12, u13, u14, u15, u16, u17, u18, u19, u20, u21, u22, u23, u24, u25, u26, u27, u28, u29, u30, u31, u32, u33, u34, u35, u36, u37, u38, u39, u40, u41, u42, u43, u44, u45, u46, u47, u48, u49, u50, u51, u52, u53, u54, u55, u56, u57, u58, u59, u60, u61, u62, u63, u64, u65, u66, u67, u68, u69, u70, u71, u72, u73, u74, u75, u76, u77, u78, u79, u80, u81, u82, u83, rfl⟩ := act84 (hf.2.1.trans rfl) (hf.1.trans rfl)
        have k0 : u0 = _ := hf.2.2 0 (by kernel_rfl)
        have k5 : u5 = _ := hf.2.2 5 (by kernel_rfl)
        have F5 := (F4.out.later hb).far (far' w.heap.size (Nat.lt_of_lt_of_le z1 (Nat.le_trans hb4.size hb.size)) (fun e => nbN e.symm) hnb.out).2
        obtain ⟨q0, q1, q2, q3, q4, q5, q6, q7, q8⟩ := F5.z
        have HW' : Hid (WF W' N true r ka ad'' (m + 12 + (2 + u)) cp'') := hW'
        obtain ⟨j0, j1, j2, j3, jf, jz⟩ := hW'
        dsimp only [Act.put] at *
        simp only [List.getElem?_toArray, List.getElem?_cons_zero, List.getElem?_cons_succ, Option.getD_some] at k0 k5
        subst k0 k5
        clear hf hd g1 g2 far'
        go_wp2
        refine bodyPost_ret (v := .tuple #[]) (by simp [results, Try.results43, go_sem]) rfl ⟨rfl, ad'', cp'', HW'.out.set2, own'.set (by omega), ?_⟩
        exact (((HB3.out.trans (hb4.mono (Nat.le_of_lt (Nat.lt_trans vz z1)))).trans (hb.mono (Nat.le_of_lt (Nat.lt_of_lt_of_le (Nat.lt_trans vz z1) hb4.size)))).trans hb').setCell (Nat.le_refl _) _
  · go_enter Try.func43, Try.ntmps43
    go_wp2
    go_quiet (fail)
    go_wp2
    obtain ⟨W1, hW1⟩ : ∃ W1, W1 = (w.alloc (objT 2 s i c a l r t h)).drewN nq := ⟨_, rfl⟩
    rw [← hW1]
    have hB1 : Below w.heap.size w W1 := by rw [hW1]; exact below_drewN (below1 _ _) _
    have F1 : Hid (T9 W1 w.heap.size 0 ⟨2, s, i, c, a, l, r, t, h⟩) := by unfold Hid; rw [hW1]; exact (T9.new w 2 s i c a l r t h).later (below_drewN (Below.refl _ _) _)
    have z0 : w.heap.size < W1.heap.size := by rw [hW1]; simp
    clear hW1 p0 p1 p2 p3 pf v0 v1 v2 v3 vf
    refine wp_region_obl (relOf [fun v _ => v = .pointer (some ⟨N, 0, none⟩), fun v W => Is8 W v (b2 0), fun v _ => v = .pointer (some ⟨w.heap.size, 6, none⟩), fun v _ => v = .int .u64 r, fun v W => Is8 W v (b8 r), fun v W => IsL W v 2 [(b2 0), (b8 r)], fun v W => Is8 W v (tlvB 6 (roB r))]) 7 (by kernel_rfl) (by kernel_rfl) (by kernel_rfl) (relOf_mono ⟨stays_eq _, stays_8 _, stays_eq _, stays_eq _, stays_8 _, stays_L _ _, stays_8 _, trivial⟩) ?_
    refine ⟨?_, ?_, ?_, ?_, ?_, ?_, ?_, ?_, trivial⟩
    · refine obl_step rfl fun A W hf hd hb => st_move (.tmp 0) _ rfl (ev_tmp ((hf.2.2 0 (by kernel_rfl)).trans rfl)) rfl
    · refine obl_step rfl fun A W hf hd hb => st_call 41 _ _ #[.int .i64 0] rfl (by kernel_rfl) (by simp only [List.map_toArray, List.map_cons, List.map_nil, ev_const]) ((put16i_any 0 W (by decide) (by decide)).mono ?_)
      rintro e W' ⟨rfl, rfl⟩
      exact ⟨_, rfl, is8 (row_b2 W (by decide) (by decide) _ rfl), below1 _ _⟩
    · refine obl_step rfl fun A W hf hd hb => st_field 44 (.tmp 5) 5 ⟨w.heap.size, 0, none⟩ _ rfl (ev_tmp ((hf.2.2 5 (by kernel_rfl)).trans rfl)) (by go_simp) rfl
    · refine obl_step rfl fun A W hf hd hb => ?_
      obtain ⟨c0, c1, c2, c3, c4, c5, c6, c7, c8⟩ := (F1.out.later hb).z
      exact st_load 42 (.tmp 27) ⟨w.heap.size, 6, none⟩ (.int .u64 r) rfl (ev_tmp (dep hd 2 27 rfl rfl)) (by go_simp) rfl
    · refine obl_step rfl fun A W hf hd hb => st_call 44 _ _ #[.int .u64 r] rfl (by kernel_rfl) (by simp only [List.map_toArray, List.map_cons, List.map_nil, ev_tmp (dep hd 3 28 rfl rfl)]) ((put64_any r W r0 r1).mono ?_)
      rintro e W' ⟨x2, y2, rfl, own2, hb2⟩
      exact ⟨_, rfl, is8 (own2.row (b8_bytes r0 r1) (by decide)), hb2⟩
    · refine obl_step rfl fun A W hf hd hb => ?_
      obtain ⟨x0, y0, g0, r0⟩ : Is8 W _ (b2 0) := dep hd 1 26 rfl rfl
      obtain ⟨x1, y1, g1, r1⟩ : Is8 W _ (b8 r) := dep hd 4 29 rfl rfl
      exact st_build 85 2 _ _ _ _ rfl (by simp only [List.map_toArray, List.map_cons, List.map_nil, ev_tmp g0, ev_tmp g1]) (bsL2 W x0 x1 _ y0 _ y1) ⟨_, _, rfl, rowL_new W _ rfl 25 [_, _] [(b2 0), (b8 r)] 2 rfl ⟨is8 r0, is8 r1, trivial⟩⟩ (below1 _ _)
    · refine obl_step rfl fun A W hf hd hb => ?_
      obtain ⟨x1, y1, g1, r1⟩ : IsL W _ 2 [(b2 0), (b8 r)] := dep hd 5 30 rfl rfl
      refine st_call 40 _ _ #[.int .u8 6, .slice x1 2 y1] rfl (by kernel_rfl) (by simp only [List.map_toArray, List.map_cons, List.map_nil, ev_const, ev_tmp g1]) ((tlv_any 6 x1 2 y1 [(b2 0), (b8 r)] 10 (roB r) W r1 (by decide) rfl rfl (by decide)).mono ?_)
      rintro e W' ⟨x2, y2, rfl, own2, hb2⟩
      exact ⟨_, rfl, is8 (own2.row HRB.out (by omega)), hb2⟩
    · refine obl_last fun A W hf hd hb => ?_
      have g1 : _ = _ := dep2 hd 0 25 (by decide) rfl
      obtain ⟨x2, y2, g2, r2⟩ : Is8 W _ (tlvB 6 (roB r)) := dep2 hd 6 31 (by decide) rfl
      refine wp_callf 39 _ _ #[.pointer (some ⟨N, 0, none⟩), .slice x2 12 y2] rfl (by kernel_rfl) (by simp only [List.map_toArray, List.map_cons, List.map_nil, ev_tmp g1, ev_tmp g2]; rfl) ((add_any N true kr ka ad m cp L x2 12 y2 _ W ((HW.out.later hB1).later hb) ((HO.out.later hB1).later hb) r2 (by omega) rfl rfl).mono ?_)
      rintro e W' ⟨rfl, ad', cp', hW', own', hb', sz', far'⟩
      refine ⟨_, rfl, ?_⟩
      obtain ⟨u0, u1, u2, u3, u4, u5, u6, u7, u8, u9, u10, u11, u12, u13, u14, u15, u16, u17, u18, u19, u20, u21, u22, u23, u24, u25, u26, u27, u28, u29, u30, u31, u32, u33, u34, u35, u36, u37, u38, u39, u40, u41, u42, u43, u44, u45, u46, u47, u48, u49, u50, u51, u52, u53, u54, u55, u56, u57, u58, u59, u60, u61, u62, u63, u64, u65, u66, u67, u68, u69, u70, u71, u72, u73, u74, u75, u76, u77, u78, u79, u80, u81, u82, u83, rfl⟩ := act84 (hf.2.1.trans rfl) (hf.1.trans rfl)
      have k0 : u0 = _ := hf.2.2 0 (by kernel_rfl)
      have k2 : u2 = _ := hf.2.2 2 (by kernel_rfl)
      have k3 : u3 = _ := hf.2.2 3 (by kernel_rfl)
      have k5 : u5 = _ := hf.2.2 5 (by kernel_rfl)
      have z2 : w.heap.size < W.heap.size := Nat.lt_of_lt_of_le z0 hb.size
      have hfb := far' w.heap.size z2 (fun e => nbN e.symm) HNb.out
      have hfB := far' B (Nat.lt_of_lt_of_le hBz (Nat.le_trans hB1.size hb.size)) (fun e => hNB e.symm) hoB
      have F2 := (F1.out.later hb).far hfb.2
      have RA2 := ((HRw.out.later hB1).later hb).far hfB.2
      have HB2 : Below N w W' := ((hB1.trans (hb.mono hB1.size)).mono (Nat.le_of_lt vz)).trans hb'
      have AT : Hid (_ ∧ _) := ⟨at3_a F2 RA2 hW' own' HB2 nbN hNB (Nat.lt_of_lt_of_le z2 sz') r, at3_b F2 RA2 hW' own' HB2 nbN hNB (Nat.lt_of_lt_of_le z2 sz') r⟩
      have hnb : Hid ((Value.slice ad' (m + 12) cp').ownBlock ≠ some w.heap.size) := hfb.1
      obtain ⟨q0, q1, q2, q3, q4, q5, q6, q7, q8⟩ := F2.z
      obtain ⟨j0, j1, j2, j3, jf, jz⟩ := hW'
      dsimp only [Act.put] at *
      simp only [List.getElem?_toArray, List.getElem?_cons_zero, List.getElem?_cons_succ, Option.getD_some] at k0 k2 k3 k5
      subst k0 k2 k3 k5
      clear hf hd g1 g2 far' hfb hfB F2 RA2 own' r2 hb' sz' HB2
      simp only [List.setIfInBounds_toArray, List.set_cons_zero, List.set_cons_succ]
      go_wp2
      go_cut [] from 9 (fun wx => At3 w N r ka ad' (m + 12) cp' (L ++ tlvB 6 (roB r)) B n (adB a l) ⟨2, s, i, c, a, l, r, t, h⟩ wx)
      case first =>
        go_region
        all_goals
          go_wp2_with fail
          go_meet
          first | exact AT.out.1 | exact AT.out.2
      case rest =>
      clear AT q0 q1 q2 q3 q4 q5 q6 q7 q8 j0 j1 j2 j3 jf jz hb z2
      clear W W'
      obtain ⟨W3, hW3⟩ : ∃ W3, W3 = wc := ⟨_, rfl⟩
      rw [← hW3] at hcut ⊢
      clear hW3
      have F3 : Hid (T9 W3 w.heap.size 0 ⟨2, s, i, c, a, l, r, t, h⟩) := hcut.1
      have RA3 : Hid (Row8 W3 (some ⟨B, 0, none⟩) n (adB a l)) := hcut.2.1
      have HW3 : Hid (WF W3 N true r ka ad' (m + 12) cp') := hcut.2.2.1
      have HO3 : Hid (Own8 W3 (N + 1) 5 (.slice ad' (m + 12) cp') (m + 12) (L ++ tlvB 6 (roB r))) := hcut.2.2.2.1
      have HB3 : Hid (Below N w W3) := hcut.2.2.2.2.1
      have z1 : w.heap.size < W3.heap.size := hcut.2.2.2.2.2
      clear hcut wc
      obtain ⟨q0, q1, q2, q3, q4, q5, q6, q7, q8⟩ := F3.out.z
      obtain ⟨j0, j1, j2, j3, jf, jz⟩ := HW3.out
      go_wp2
      go_quiet ((go_at_call 14; exact Calls.quiet_of_same (squeeze_any _ _ _ _ x0 x1 a0 a1 HQ.out)))
      go_wp2
      obtain ⟨W4, hW4⟩ : ∃ W4, W4 = W3.drewN nq := ⟨_, rfl⟩
      rw [← hW4]
      have hb4 : Below W3.heap.size W3 W4 := by rw [hW4]; exact below_drewN (Below.refl _ _) _
      clear hW4
      have F4 : Hid (T9 W4 w.heap.size 0 ⟨2, s, i, c, a, l, r, t, h⟩) := F3.out.later hb4
      have HW4 : Hid (WF W4 N true r ka ad' (m + 12) cp') := HW3.out.later hb4
      have HO4 : Hid (Own8 W4 (N + 1) 5 (.slice ad' (m + 12) cp') (m + 12) (L ++ tlvB 6 (roB r))) := HO3.out.later hb4
      have RA4 : Hid (Row8 W4 (some ⟨B, 0, none⟩) n (adB a l)) := RA3.out.later hb4
      clear q0 q1 q2 q3 q4 q5 q6 q7 q8 j0 j1 j2 j3 jf jz
      refine wp_region_obl (relOf [fun v _ => v = .pointer (some ⟨N, 0, none⟩), fun v _ => v = .int .u8 l, fun v _ => v = .int .i64 (q : Int), fun v _ => v = .int .u8 (q : Int), fun v W => Is8 W v [1, 128, l, (q : Int)], fun v _ => v = .pointer (some ⟨w.heap.size, 2, none⟩), fun v _ => v = .int .i64 i, fun v W => Is8 W v (b2 i), fun v _ => v = .pointer (some ⟨w.heap.size, 1, none⟩), fun v _ => v = .int .u16 s, fun v W => Is8 W v (b2 s), fun v _ => v = .pointer (some ⟨w.heap.size, 3, none⟩), fun v _ => v = .int .i64 c, fun v W => Is8 W v (b2 c), fun v _ => v = .slice (some ⟨B, 0, none⟩) n 4, fun v _ => v = .int .i64 (q : Int), fun v W => Is8 W v ((adB a l).drop q), fun v _ => v = .pointer (some ⟨w.heap.size, 7, none⟩), fun v _ => v = .int .u16 t, fun v W => Is8 W v (tagB t), fun v W => IsL W v 6 [[1, 128, l, (q : Int)], (b2 i), (b2 s), (b2 c), ((adB a l).drop q), (tagB t)], fun v W => Is8 W v (tlvB 8 U)]) 22 (by kernel_rfl) (by kernel_rfl) (by kernel_rfl) (relOf_mono ⟨stays_eq _, stays_eq _, stays_eq _, stays_eq _, stays_8 _, stays_eq _, stays_eq _, stays_8 _, stays_eq _, stays_eq _, stays_8 _, stays_eq _, stays_eq _, stays_8 _, stays_eq _, stays_eq _, stays_8 _, stays_eq _, stays_eq _, stays_8 _, stays_L _ _, stays_8 _, trivial⟩) ?_
      refine ⟨?_, ?_, ?_, ?_, ?_, ?_, ?_, ?_, ?_, ?_, ?_, ?_, ?_, ?_, ?_, ?_, ?_, ?_, ?_, ?_, ?_, ?_, ?_, trivial⟩
      · refine obl_step rfl fun A W hf hd hb => st_move (.tmp 0) _ rfl (ev_tmp ((hf.2.2 0 (by kernel_rfl)).trans rfl)) rfl
      · refine obl_step rfl fun A W hf hd hb => st_move (.tmp 2) _ rfl (ev_tmp ((hf.2.2 2 (by kernel_rfl)).trans rfl)) rfl
      · refine obl_step rfl fun A W hf hd hb => st_move (.tmp 8) _ rfl (ev_tmp ((hf.2.2 8 (by kernel_rfl)).trans rfl)) rfl
      · refine obl_step rfl fun A W hf hd hb => st_conv 3 5 (.tmp 56) (.int .i64 (q : Int)) (.int .u8 (q : Int)) rfl (ev_tmp (dep hd 2 56 rfl rfl)) (by go_simp; exact wrap8 (by omega) (by omega)) rfl
      · refine obl_step rfl fun A W hf hd hb => st_build 25 4 _ _ _ _ rfl (by simp only [List.map_toArray, List.map_cons, List.map_nil, ev_const, ev_tmp (dep hd 1 55 rfl rfl), ev_tmp (dep hd 3 57 rfl rfl)]) (bsB4 W 1 128 l ((q : Int))) (is8 (row8_at W _ rfl [1, 128, l, (q : Int)] 5 4 rfl (four_bytes (by omega) (by omega) (by omega) (by omega)) (by simp))) (below1 _ _)
      · refine obl_step rfl fun A W hf hd hb => st_field 44 (.tmp 5) 2 ⟨w.heap.size, 0, none⟩ _ rfl (ev_tmp ((hf.2.2 5 (by kernel_rfl)).trans rfl)) (by go_simp) rfl
      · refine obl_step rfl fun A W hf hd hb => ?_
        obtain ⟨c0, c1, c2, c3, c4, c5, c6, c7, c8⟩ := (F4.out.later hb).z
        exact st_load 3 (.tmp 59) ⟨w.heap.size, 2, none⟩ (.int .i64 i) rfl (ev_tmp (dep hd 5 59 rfl rfl)) (by go_simp) rfl
      · refine obl_step rfl fun A W hf hd hb => st_call 41 _ _ #[.int .i64 i] rfl (by kernel_rfl) (by simp only [List.map_toArray, List.map_cons, List.map_nil, ev_tmp (dep hd 6 60 rfl rfl)]) ((put16i_any i W i0 i1).mono ?_)
        rintro e W' ⟨rfl, rfl⟩
        exact ⟨_, rfl, is8 (row_b2 W i0 i1 _ rfl), below1 _ _⟩
      · refine obl_step rfl fun A W hf hd hb => st_field 44 (.tmp 5) 1 ⟨w.heap.size, 0, none⟩ _ rfl (ev_tmp ((hf.2.2 5 (by kernel_rfl)).trans rfl)) (by go_simp) rfl
      · refine obl_step rfl fun A W hf hd hb => ?_
        obtain ⟨c0, c1, c2, c3, c4, c5, c6, c7, c8⟩ := (F4.out.later hb).z
        exact st_load 39 (.tmp 62) ⟨w.heap.size, 1, none⟩ (.int .u16 s) rfl (ev_tmp (dep hd 8 62 rfl rfl)) (by go_simp) rfl
      · refine obl_step rfl fun A W hf hd hb => st_call 42 _ _ #[.int .u16 s] rfl (by kernel_rfl) (by simp only [List.map_toArray, List.map_cons, List.map_nil, ev_tmp (dep hd 9 63 rfl rfl)]) ((put16_any s W s0 s1).mono ?_)
        rintro e W' ⟨rfl, rfl⟩
        exact ⟨_, rfl, is8 (row_b2 W s0 s1 _ rfl), below1 _ _⟩
      · refine obl_step rfl fun A W hf hd hb => st_field 44 (.tmp 5) 3 ⟨w.heap.size, 0, none⟩ _ rfl (ev_tmp ((hf.2.2 5 (by kernel_rfl)).trans rfl)) (by go_simp) rfl
      · refine obl_step rfl fun A W hf hd hb => ?_
        obtain ⟨c0, c1, c2, c3, c4, c5, c6, c7, c8⟩ := (F4.out.later hb).z
        exact st_load 3 (.tmp 65) ⟨w.heap.size, 3, none⟩ (.int .i64 c) rfl (ev_tmp (dep hd 11 65 rfl rfl)) (by go_simp) rfl
      · refine obl_step rfl fun A W hf hd hb => st_call 41 _ _ #[.int .i64 c] rfl (by kernel_rfl) (by simp only [List.map_toArray, List.map_cons, List.map_nil, ev_tmp (dep hd 12 66 rfl rfl)]) ((put16i_any c W c0 c1).mono ?_)
        rintro e W' ⟨rfl, rfl⟩
        exact ⟨_, rfl, is8 (row_b2 W c0 c1 _ rfl), below1 _ _⟩
      · refine obl_step rfl fun A W hf hd hb => st_move (.tmp 3) _ rfl (ev_tmp ((hf.2.2 3 (by kernel_rfl)).trans rfl)) rfl
      · refine obl_step rfl fun A W hf hd hb => st_move (.tmp 8) _ rfl (ev_tmp ((hf.2.2 8 (by kernel_rfl)).trans rfl)) rfl
      · refine obl_step rfl fun A W hf hd hb => st_slice 25 (.tmp 68) (.tmp 69) _ _ _ rfl (ev_tmp (dep hd 14 68 rfl rfl)) (ev_tmp (dep hd 15 69 rfl rfl)) (slice_rest B 0 n 4 q W hqn hn4) (is8 ((RA4.out.later hb).rest q 4 hqn hn4 B 0 rfl))
      · refine obl_step rfl fun A W hf hd hb => st_field 44 (.tmp 5) 6 ⟨w.heap.size, 0, none⟩ _ rfl (ev_tmp ((hf.2.2 5 (by kernel_rfl)).trans rfl)) (by go_simp) rfl
      · refine obl_step rfl fun A W hf hd hb => ?_
        obtain ⟨c0, c1, c2, c3, c4, c5, c6, c7, c8⟩ := (F4.out.later hb).z
        exact st_load 39 (.tmp 71) ⟨w.heap.size, 7, none⟩ (.int .u16 t) rfl (ev_tmp (dep hd 17 71 rfl rfl)) (by go_simp) rfl
      · refine obl_step rfl fun A W hf hd hb => st_call 57 _ _ #[.int .u16 t] rfl (by kernel_rfl) (by simp only [List.map_toArray, List.map_cons, List.map_nil, ev_tmp (dep hd 18 72 rfl rfl)]) ((putTag_any t W t0 t1).mono ?_)
        rintro e W' ⟨x2, y2, rfl, own2, hb2⟩
        exact ⟨_, rfl, is8 (own2.row (tagB_bytes t0 t1) (by have := tagB_len t; omega)), hb2⟩
      · refine obl_step rfl fun A W hf hd hb => ?_
        obtain ⟨x0, y0, g0, r0⟩ : Is8 W _ [1, 128, l, (q : Int)] := dep hd 4 58 rfl rfl
        obtain ⟨x1, y1, g1, r1⟩ : Is8 W _ (b2 i) := dep hd 7 61 rfl rfl
        obtain ⟨x2, y2, g2, r2⟩ : Is8 W _ (b2 s) := dep hd 10 64 rfl rfl
        obtain ⟨x3, y3, g3, r3⟩ : Is8 W _ (b2 c) := dep hd 13 67 rfl rfl
        obtain ⟨x4, y4, g4, r4⟩ : Is8 W _ ((adB a l).drop q) := dep hd 16 70 rfl rfl
        obtain ⟨x5, y5, g5, r5⟩ : Is8 W _ (tagB t) := dep hd 19 73 rfl rfl
        exact st_build 85 6 _ _ _ _ rfl (by simp only [List.map_toArray, List.map_cons, List.map_nil, ev_tmp g0, ev_tmp g1, ev_tmp g2, ev_tmp g3, ev_tmp g4, ev_tmp g5]) (bsL6 W x0 x1 x2 x3 x4 x5 _ y0 _ y1 _ y2 _ y3 _ y4 _ y5) ⟨_, _, rfl, rowL_new W _ rfl 25 [_, _, _, _, _, _] [[1, 128, l, (q : Int)], (b2 i), (b2 s), (b2 c), ((adB a l).drop q), (tagB t)] 6 rfl ⟨is8 r0, is8 r1, is8 r2, is8 r3, is8 r4, is8 r5, trivial⟩⟩ (below1 _ _)
      · refine obl_step rfl fun A W hf hd hb => ?_
        obtain ⟨x1, y1, g1, r1⟩ : IsL W _ 6 [[1, 128, l, (q : Int)], (b2 i), (b2 s), (b2 c), ((adB a l).drop q), (tagB t)] := dep hd 20 74 rfl rfl
        refine st_call 40 _ _ #[.int .u8 8, .slice x1 6 y1] rfl (by kernel_rfl) (by simp only [List.map_toArray, List.map_cons, List.map_nil, ev_const, ev_tmp g1]) ((tlv_any 8 x1 6 y1 [[1, 128, l, (q : Int)], (b2 i), (b2 s), (b2 c), ((adB a l).drop q), (tagB t)] u U W r1 (by decide) (by rw [← HU.out]; simp) HUL.out (by omega)).mono ?_)
        rintro e W' ⟨x2, y2, rfl, own2, hb2⟩
        exact ⟨_, rfl, is8 (own2.row HBT.out (by omega)), hb2⟩
      · refine obl_last fun A W hf hd hb => ?_
        have g1 : _ = _ := dep2 hd 0 54 (by decide) rfl
        obtain ⟨x2, y2, g2, r2⟩ : Is8 W _ (tlvB 8 U) := dep2 hd 21 75 (by decide) rfl
        rw [HTL.out] at g2 r2
        refine wp_callf 39 _ _ #[.pointer (some ⟨N, 0, none⟩), .slice x2 (2 + u) y2] rfl (by kernel_rfl) (by simp only [List.map_toArray, List.map_cons, List.map_nil, ev_tmp g1, ev_tmp g2]) ((add_any N true r ka ad' (m + 12) cp' (L ++ tlvB 6 (roB r)) x2 (2 + u) y2 _ W (HW4.out.later hb) (HO4.out.later hb) r2 (by omega) rfl rfl).mono ?_)
        rintro e W' ⟨rfl, ad'', cp'', hW', own', hb', sz', far'⟩
        refine ⟨_, rfl, ?_⟩
        obtain ⟨u0, u1, u2, u3, u4, u5, u6, u7, u8, u9, u10, u11, u12, u13, u14, u15, u16, u17, u18, u19, u20, u21, u22, u23, u24, u25, u26, u27, u28, u29, u30, u31, u32, u33, u34, u35, u36, u37, u38, u39, u40, u41, u42, u43, u44, u45, u46, u47, u48, u49, u50, u51, u52, u53, u54, u55, u56, u57, u58, u59, u60, u61, u62, u63, u64, u65, u66, u67, u68, u69, u70, u71, u72, u73, u74, u75, u76, u77, u78, u79, u80, u81, u82, u83, rfl⟩ := act84 (hf.2.1.trans rfl) (hf.1.trans rfl)
        have k0 : u0 = _ := hf.2.2 0 (by kernel_rfl)
        have k5 : u5 = _ := hf.2.2 5 (by kernel_rfl)
        have F5 := (F4.out.later hb).far (far' w.heap.size (Nat.lt_of_lt_of_le z1 (Nat.le_trans hb4.size hb.size)) (fun e => nbN e.symm) hnb.out).2
        obtain ⟨q0, q1, q2, q3, q4, q5, q6, q7, q8⟩ := F5.z
        have HW' : Hid (WF W' N true r ka ad'' (m + 12 + (2 + u)) cp'') := hW'
        obtain ⟨j0, j1, j2, j3, jf, jz⟩ := hW'
        dsimp only [Act.put] at *
        simp only [List.getElem?_toArray, List.getElem?_cons_zero, List.getElem?_cons_succ, Option.getD_some] at k0 k5
        subst k0 k5
        clear hf hd g1 g2 far'
        go_wp2
        refine bodyPost_ret (v := .tuple #[]) (by simp [results, Try.results43, go_sem]) rfl ⟨rfl, ad'', cp'', HW'.out.set2, own'.set (by omega), ?_⟩
        exact (((HB3.out.trans (hb4.mono (Nat.le_of_lt (Nat.lt_trans vz z1)))).trans (hb.mono (Nat.le_of_lt (Nat.lt_of_lt_of_le (Nat.lt_trans vz z1) hb4.size)))).trans hb').setCell (Nat.le_refl _) _
end Go.Proofs.Ytakikkigkmcffaa
