/- The contract of writeUpdate. -/
import Derived.Test.YtakikkigkmcffaaCW4
namespace Go.Proofs.Ytakikkigkmcffaa
open Go.RowKit

theorem cons_of {α : Type} {l : List α} {n : Nat} (h : l.length = n + 1) : ∃ x r, l = x :: r ∧ r.length = n := by
  match l, h with
  | x :: r, h => exact ⟨x, r, rfl, by simpa using h⟩
theorem act84 {A : Act} (h : A.tmps.size = 84) (hd : A.defers = []) : ∃ u0 u1 u2 u3 u4 u5 u6 u7 u8 u9 u10 u11 u12 u13 u14 u15 u16 u17 u18 u19 u20 u21 u22 u23 u24 u25 u26 u27 u28 u29 u30 u31 u32 u33 u34 u35 u36 u37 u38 u39 u40 u41 u42 u43 u44 u45 u46 u47 u48 u49 u50 u51 u52 u53 u54 u55 u56 u57 u58 u59 u60 u61 u62 u63 u64 u65 u66 u67 u68 u69 u70 u71 u72 u73 u74 u75 u76 u77 u78 u79 u80 u81 u82 u83 : Value, A = ⟨#[u0, u1, u2, u3, u4, u5, u6, u7, u8, u9, u10, u11, u12, u13, u14, u15, u16, u17, u18, u19, u20, u21, u22, u23, u24, u25, u26, u27, u28, u29, u30, u31, u32, u33, u34, u35, u36, u37, u38, u39, u40, u41, u42, u43, u44, u45, u46, u47, u48, u49, u50, u51, u52, u53, u54, u55, u56, u57, u58, u59, u60, u61, u62, u63, u64, u65, u66, u67, u68, u69, u70, u71, u72, u73, u74, u75, u76, u77, u78, u79, u80, u81, u82, u83], []⟩ := by
  obtain ⟨⟨l⟩, d⟩ := A
  simp only at hd
  subst hd
  have h : l.length = 84 := h
  obtain ⟨u0, l0, rfl, h0⟩ := cons_of h
  obtain ⟨u1, l1, rfl, h1⟩ := cons_of h0
  obtain ⟨u2, l2, rfl, h2⟩ := cons_of h1
  obtain ⟨u3, l3, rfl, h3⟩ := cons_of h2
  obtain ⟨u4, l4, rfl, h4⟩ := cons_of h3
  obtain ⟨u5, l5, rfl, h5⟩ := cons_of h4
  obtain ⟨u6, l6, rfl, h6⟩ := cons_of h5
  obtain ⟨u7, l7, rfl, h7⟩ := cons_of h6
  obtain ⟨u8, l8, rfl, h8⟩ := cons_of h7
  obtain ⟨u9, l9, rfl, h9⟩ := cons_of h8
  obtain ⟨u10, l10, rfl, h10⟩ := cons_of h9
  obtain ⟨u11, l11, rfl, h11⟩ := cons_of h10
  obtain ⟨u12, l12, rfl, h12⟩ := cons_of h11
  obtain ⟨u13, l13, rfl, h13⟩ := cons_of h12
  obtain ⟨u14, l14, rfl, h14⟩ := cons_of h13
  obtain ⟨u15, l15, rfl, h15⟩ := cons_of h14
  obtain ⟨u16, l16, rfl, h16⟩ := cons_of h15
  obtain ⟨u17, l17, rfl, h17⟩ := cons_of h16
  obtain ⟨u18, l18, rfl, h18⟩ := cons_of h17
  obtain ⟨u19, l19, rfl, h19⟩ := cons_of h18
  obtain ⟨u20, l20, rfl, h20⟩ := cons_of h19
  obtain ⟨u21, l21, rfl, h21⟩ := cons_of h20
  obtain ⟨u22, l22, rfl, h22⟩ := cons_of h21
  obtain ⟨u23, l23, rfl, h23⟩ := cons_of h22
  obtain ⟨u24, l24, rfl, h24⟩ := cons_of h23
  obtain ⟨u25, l25, rfl, h25⟩ := cons_of h24
  obtain ⟨u26, l26, rfl, h26⟩ := cons_of h25
  obtain ⟨u27, l27, rfl, h27⟩ := cons_of h26
  obtain ⟨u28, l28, rfl, h28⟩ := cons_of h27
  obtain ⟨u29, l29, rfl, h29⟩ := cons_of h28
  obtain ⟨u30, l30, rfl, h30⟩ := cons_of h29
  obtain ⟨u31, l31, rfl, h31⟩ := cons_of h30
  obtain ⟨u32, l32, rfl, h32⟩ := cons_of h31
  obtain ⟨u33, l33, rfl, h33⟩ := cons_of h32
  obtain ⟨u34, l34, rfl, h34⟩ := cons_of h33
  obtain ⟨u35, l35, rfl, h35⟩ := cons_of h34
  obtain ⟨u36, l36, rfl, h36⟩ := cons_of h35
  obtain ⟨u37, l37, rfl, h37⟩ := cons_of h36
  obtain ⟨u38, l38, rfl, h38⟩ := cons_of h37
  obtain ⟨u39, l39, rfl, h39⟩ := cons_of h38
  obtain ⟨u40, l40, rfl, h40⟩ := cons_of h39
  obtain ⟨u41, l41, rfl, h41⟩ := cons_of h40
  obtain ⟨u42, l42, rfl, h42⟩ := cons_of h41
  obtain ⟨u43, l43, rfl, h43⟩ := cons_of h42
  obtain ⟨u44, l44, rfl, h44⟩ := cons_of h43
  obtain ⟨u45, l45, rfl, h45⟩ := cons_of h44
  obtain ⟨u46, l46, rfl, h46⟩ := cons_of h45
  obtain ⟨u47, l47, rfl, h47⟩ := cons_of h46
  obtain ⟨u48, l48, rfl, h48⟩ := cons_of h47
  obtain ⟨u49, l49, rfl, h49⟩ := cons_of h48
  obtain ⟨u50, l50, rfl, h50⟩ := cons_of h49
  obtain ⟨u51, l51, rfl, h51⟩ := cons_of h50
  obtain ⟨u52, l52, rfl, h52⟩ := cons_of h51
  obtain ⟨u53, l53, rfl, h53⟩ := cons_of h52
  obtain ⟨u54, l54, rfl, h54⟩ := cons_of h53
  obtain ⟨u55, l55, rfl, h55⟩ := cons_of h54
  obtain ⟨u56, l56, rfl, h56⟩ := cons_of h55
  obtain ⟨u57, l57, rfl, h57⟩ := cons_of h56
  obtain ⟨u58, l58, rfl, h58⟩ := cons_of h57
  obtain ⟨u59, l59, rfl, h59⟩ := cons_of h58
  obtain ⟨u60, l60, rfl, h60⟩ := cons_of h59
  obtain ⟨u61, l61, rfl, h61⟩ := cons_of h60
  obtain ⟨u62, l62, rfl, h62⟩ := cons_of h61
  obtain ⟨u63, l63, rfl, h63⟩ := cons_of h62
  obtain ⟨u64, l64, rfl, h64⟩ := cons_of h63
  obtain ⟨u65, l65, rfl, h65⟩ := cons_of h64
  obtain ⟨u66, l66, rfl, h66⟩ := cons_of h65
  obtain ⟨u67, l67, rfl, h67⟩ := cons_of h66
  obtain ⟨u68, l68, rfl, h68⟩ := cons_of h67
  obtain ⟨u69, l69, rfl, h69⟩ := cons_of h68
  obtain ⟨u70, l70, rfl, h70⟩ := cons_of h69
  obtain ⟨u71, l71, rfl, h71⟩ := cons_of h70
  obtain ⟨u72, l72, rfl, h72⟩ := cons_of h71
  obtain ⟨u73, l73, rfl, h73⟩ := cons_of h72
  obtain ⟨u74, l74, rfl, h74⟩ := cons_of h73
  obtain ⟨u75, l75, rfl, h75⟩ := cons_of h74
  obtain ⟨u76, l76, rfl, h76⟩ := cons_of h75
  obtain ⟨u77, l77, rfl, h77⟩ := cons_of h76
  obtain ⟨u78, l78, rfl, h78⟩ := cons_of h77
  obtain ⟨u79, l79, rfl, h79⟩ := cons_of h78
  obtain ⟨u80, l80, rfl, h80⟩ := cons_of h79
  obtain ⟨u81, l81, rfl, h81⟩ := cons_of h80
  obtain ⟨u82, l82, rfl, h82⟩ := cons_of h81
  obtain ⟨u83, l83, rfl, h83⟩ := cons_of h82
  obtain rfl := List.eq_nil_of_length_eq_zero h83
  exact ⟨u0, u1, u2, u3, u4, u5, u6, u7, u8, u9, u10, u11, u12, u13, u14, u15, u16, u17, u18, u19, u20, u21, u22, u23, u24, u25, u26, u27, u28, u29, u30, u31, u32, u33, u34, u35, u36, u37, u38, u39, u40, u41, u42, u43, u44, u45, u46, u47, u48, u49, u50, u51, u52, u53, u54, u55, u56, u57, u58, u59, u60, u61, u62, u63, u64, u65, u66, u67, u68, u69, u70, u71, u72, u73, u74, u75, u76, u77, u78, u79, u80, u81, u82, u83, rfl⟩
theorem Row8.far {W W' : World} {B n : Nat} {L : List Int} (h : Row8 W (some ⟨B, 0, none⟩) n L) (hf : ∀ o, W'.cell? ⟨B, o, none⟩ = W.cell? ⟨B, o, none⟩) : Row8 W' (some ⟨B, 0, none⟩) n L := by
  refine ⟨h.1, h.2.1, h.2.2.1, fun i hi => ?_⟩
  obtain ⟨b, off, e, hc⟩ := h.2.2.2 i hi
  simp only [Option.some.injEq, Addr.mk.injEq, and_true] at e
  obtain ⟨rfl, rfl⟩ := e
  exact ⟨_, _, rfl, (hf _).trans hc⟩
theorem slice_rest (b off n cap q : Nat) (W : World) (h1 : q ≤ n) (h2 : n ≤ cap) : Sem.run Try.prog (Instr.sliceAt 25 (.slice (some ⟨b, off, none⟩) n cap) (some (.int .i64 (q : Int))) none none) W = .ok (.slice (if cap = q then some ⟨b, off, none⟩ else some ⟨b, off + q, none⟩) (n - q) (cap - q)) W := by
  have g1 : (q : Int) ≤ (n : Int) := by omega
  have g2 : (n : Int) ≤ (cap : Int) := by omega
  go_simp
theorem far_set (W : World) (N B o o' : Nat) (v : Value) (h : N ≠ B) : (W.setCell ⟨N, o, none⟩ v).cell? ⟨B, o', none⟩ = W.cell? ⟨B, o', none⟩ := World.cell?_setCell_far _ _ _ _ (by exact h)
set_option maxHeartbeats 4000000 in
theorem wu_told (N : Nat) (kt : Bool) (kr ka : Int) (ad : Option Addr) (m cp : Nat) (L : List Int) (s i c a l r t h : Int) (B n : Nat) (w : World) (hW : WF w N kt kr ka ad m cp) (own : Own8 w (N + 1) 5 (.slice ad m cp) m L) (hm : m ≤ 2000)
    (hok : Tlv.Ok ⟨2, s, i, c, a, l, r, t, h⟩) (hmay : mayT ⟨2, s, i, c, a, l, r, t, h⟩ = true) (hn : nd l = n) (_hNB : N ≠ B) (_hoB : (Value.slice ad m cp).ownBlock ≠ some B) (hBz : B < w.heap.size) (hrow : Row8 w (some ⟨B, 0, none⟩) n (adB a l)) (x0 : 0 ≤ ka) (x1 : ka < 4294967296) (ht : kt = true) (hr : kr = r) :
    Calls Try.prog 43 #[.pointer (some ⟨N, 0, none⟩), valT 2 s i c a l r t h, .int .u8 l, .slice (some ⟨B, 0, none⟩) n 4] w (Wrote w N true r a (m + (2 + (upB ka ⟨2, s, i, c, a, l, r, t, h⟩).length)) (L ++ tlvB 8 (upB ka ⟨2, s, i, c, a, l, r, t, h⟩))) := by
  subst ht hr
  obtain ⟨-, -, l0, l1, ⟨i0, i1⟩, ⟨c0, c1⟩, ⟨h0, h1⟩⟩ := mayT_all hmay
  have s0 := hok.s0
  have s1 := hok.s1
  have a0 := hok.a0
  have a1 := hok.a1
  have r0 := hok.r0
  have r1 := hok.r1
  have t0 := hok.t0
  have t1 := hok.t1
  simp only at l0 l1 i0 i1 c0 c1 h0 h1 s0 s1 a0 a1 r0 r1 t0 t1
  have HBU : Hid (Bytes (upB ka ⟨2, s, i, c, a, l, kr, t, h⟩)) := upB_bytes hok hmay
  have HW : Hid (WF w N true kr ka ad m cp) := hW
  have HO : Hid (Own8 w (N + 1) 5 (.slice ad m cp) m L) := own
  have HRw : Hid (Row8 w (some ⟨B, 0, none⟩) n (adB a l)) := hrow
  have hn4 : n ≤ 4 := by rw [← hn]; exact nd_le l1
  have HN : Hid (nd l = n) := hn
  obtain ⟨q, hq⟩ : ∃ q, sq ka a n = q := ⟨_, rfl⟩
  have hqn : q ≤ n := by rw [← hq]; exact sq_le _ _ _
  have HQ : Hid (sqI ka a (n : Int) = (q : Int)) := by unfold Hid sqI; rw [if_neg (by omega), ← hq]; simp
  have HU : Hid ([1, 128, l, (q : Int)] ++ b2 i ++ b2 s ++ b2 c ++ (adB a l).drop q ++ tagB t = upB ka ⟨2, s, i, c, a, l, kr, t, h⟩) := by unfold Hid upB; simp only [hn, hq]
  have HA : Hid (((adB a l).drop q).length = n - q) := by unfold Hid; rw [List.length_drop, adB_len l1, hn]
  obtain ⟨U, hU⟩ : ∃ U, upB ka ⟨2, s, i, c, a, l, kr, t, h⟩ = U := ⟨_, rfl⟩
  rw [hU] at HU HBU
  have hu18 : U.length ≤ 18 := by rw [← hU]; exact upB_le l1
  obtain ⟨u, hu⟩ : ∃ u, U.length = u := ⟨_, rfl⟩
  rw [hu] at hu18
  have HUL : Hid (U.length = u) := hu
  have HBT : Hid (Bytes (tlvB 8 U)) := tlvB_bytes (by omega) HBU.out (by rw [hu]; omega)
  have HTL : Hid ((tlvB 8 U).length = 2 + u) := by unfold Hid; rw [tlvB_len, hu]
  rw [hU]
  have vz : N < w.heap.size := hW.2.2.2.2.2
  have nbN : N ≠ w.heap.size := by omega
  have nbB : B ≠ w.heap.size := by omega
  have HNb : Hid ((Value.slice ad m cp).ownBlock ≠ some w.heap.size) := own.not_new
  obtain ⟨v0, v1, v2, v3, vf, -⟩ := hW
  obtain ⟨p0, p1, p2, p3, pf, -⟩ := HW.out.later (below1 w (objT 2 s i c a l kr t h))
  clear own hn hq hrow hU hu hok hmay
  rw [HUL.out]
  go_enter Try.func43, Try.ntmps43
  go_wp2
  go_quiet (fail)
  go_wp2
  obtain ⟨W1, hW1⟩ : ∃ W1, W1 = (w.alloc (objT 2 s i c a l kr t h)).drewN nq := ⟨_, rfl⟩
  rw [← hW1]
  have hB : Below w.heap.size w W1 := by rw [hW1]; exact below_drewN (below1 _ _) _
  have F : Hid (T9 W1 w.heap.size 0 ⟨2, s, i, c, a, l, kr, t, h⟩) := by unfold Hid; rw [hW1]; exact (T9.new w 2 s i c a l kr t h).later (below_drewN (Below.refl _ _) _)
  have z1 : w.heap.size < W1.heap.size := by rw [hW1]; simp
  clear hW1 p0 p1 p2 p3 pf v0 v1 v2 v3 vf
  have HWb : Hid (WF W1 N true kr ka ad m cp) := HW.out.later hB
  have HOb : Hid (Own8 W1 (N + 1) 5 (.slice ad m cp) m L) := HO.out.later hB
  have RAb : Hid (Row8 W1 (some ⟨B, 0, none⟩) n (adB a l)) := HRw.out.later hB
  have hnb : Hid ((Value.slice ad m cp).ownBlock ≠ some w.heap.size) := HNb
  obtain ⟨q0, q1, q2, q3, q4, q5, q6, q7, q8⟩ := F.out.z
  obtain ⟨j0, j1, j2, j3, jf, jz⟩ := HWb.out
  go_wp2
  go_quiet ((go_at_call 14; exact Calls.quiet_of_same (squeeze_any _ _ _ _ x0 x1 a0 a1 HQ.out)))
  go_wp2
  obtain ⟨W4, hW4⟩ : ∃ W4, W4 = W1.drewN nq := ⟨_, rfl⟩
  rw [← hW4]
  have hb4 : Below W1.heap.size W1 W4 := by rw [hW4]; exact below_drewN (Below.refl _ _) _
  clear hW4
  have F4 : Hid (T9 W4 w.heap.size 0 ⟨2, s, i, c, a, l, kr, t, h⟩) := F.out.later hb4
  have HW4 : Hid (WF W4 N true kr ka ad m cp) := HWb.out.later hb4
  have HO4 : Hid (Own8 W4 (N + 1) 5 (.slice ad m cp) m L) := HOb.out.later hb4
  have RA4 : Hid (Row8 W4 (some ⟨B, 0, none⟩) n (adB a l)) := RAb.out.later hb4
  clear q0 q1 q2 q3 q4 q5 q6 q7 q8 j0 j1 j2 j3 jf jz
  refine wp_region_obl (relOf [fun v _ => v = .pointer (some ⟨N, 0, none⟩), fun v _ => v = .int .u8 l, fun v _ => v = .int .i64 (q : Int), fun v _ => v = .int .u8 (q : Int), fun v W => Is8 W v [1, 128, l, (q : Int)], fun v _ => v = .pointer (some ⟨w.heap.size, 2, none⟩), fun v _ => v = .int .i64 i, fun v W => Is8 W v (b2 i), fun v _ => v = .pointer (some ⟨w.heap.size, 1, none⟩), fun v _ => v = .int .u16 s, fun v W => Is8 W v (b2 s), fun v _ => v = .pointer (some ⟨w.heap.size, 3, none⟩), fun v _ => v = .int .i64 c, fun v W => Is8 W v (b2 c), fun v _ => v = .slice (some ⟨B, 0, none⟩) n 4, fun v _ => v = .int .i64 (q : Int), fun v W => Is8 W v ((adB a l).drop q), fun v _ => v = .pointer (some ⟨w.heap.size, 7, none⟩), fun v _ => v = .int .u16 t, fun v W => Is8 W v (tagB t), fun v W => IsL W v 6 [[1, 128, l, (q : Int)], (b2 i), (b2 s), (b2 c), ((adB a l).drop q), (tagB t)], fun v W => Is8 W v (tlvB 8 U)]) 22 (by kernel_rfl) (by kernel_rfl) (by kernel_rfl) (relOf_mono ⟨stays_eq _, stays_eq _, stays_eq _, stays_eq _, stays_8 _, stays_eq _, stays_eq _, stays_8 _, stays_eq _, stays_eq _, stays_8 _, stays_eq _, stays_eq _, stays_8 _, stays_eq _, stays_eq _, stays_8 _, stays_eq _, stays_eq _, stays_8 _, stays_L _ _, stays_8 _, trivial⟩) ?_
  refine ⟨?_, ?_, ?_, ?_, ?_, ?_, ?_, ?_, ?_, ?_, ?_, ?_, ?_, ?_, ?_, ?_, ?_, ?_, ?_, ?_, ?_, ?_, ?_, trivial⟩
  · refine obl_step rfl fun A W hf hd hb => st_move (.tmp 0) _ rfl (ev_tmp ((hf.2.2 0 (by kernel_rfl)).trans rfl)) rfl
  · refine obl_step rfl fun A W hf hd hb => st_move (.tmp 2) _ rfl (ev_tmp ((hf.2.2 2 (by kernel_rfl)).trans rfl)) rfl
  · refine obl_step rfl fun A W hf hd hb => st_move (.tmp 8) _ rfl (ev_tmp ((hf.2.2 8 (by kernel_rfl)).trans rfl)) rfl
  · refine obl_step rfl fun A W hf hd hb => st_conv 3 5 (.tmp 56) (.int .i64 (q : Int)) (.int .u8 (q : Int)) rfl (ev_tmp (dep hd 2 56 rfl rfl)) (by go_simp; exact wrap8 (by omega) (by omega)) rfl
  · refine obl_step rfl fun A W hf hd hb => st_build 25 4 _ _ _ _ rfl (by simp only [List.map_toArray, List.map_cons, List.map_nil, ev_const, ev_tmp (dep hd 1 55 rfl rfl), ev_tmp (dep hd 3 57 rfl rfl)]) (bsB4 W 1 128 l ((q : Int))) (is8 (row8_at W _ rfl [1, 128, l, (q : Int)] 5 4 rfl (four_bytes (by omega) (by omega) (by omega) (by omega)) (by simp))) (below1 _ _)
  · refine obl_step rfl fun A W hf hd hb => st_field 44 (.tmp 5) 2 ⟨w.heap.size, 0, none⟩ _ rfl (ev_tmp ((hf.2.2 5 (by kernel_rfl)).trans rfl)) (by go_simp) rfl
  · refine obl_step rfl fun A W hf hd hb => ?_
    obtain ⟨c0, c1, c2, c3, c4, c5, c6, c7, c8⟩ := (F4.out.later hb).z
    exact st_load 3 (.tmp 59) ⟨w.heap.size, 2, none⟩ (.int .i64 i) rfl (ev_tmp (dep hd 5 59 rfl rfl)) (by go_simp) rfl
  · refine obl_step rfl fun A W hf hd hb => st_call 41 _ _ #[.int .i64 i] rfl (by kernel_rfl) (by simp only [List.map_toArray, List.map_cons, List.map_nil, ev_tmp (dep hd 6 60 rfl rfl)]) ((put16i_any i W i0 i1).mono ?_)
    rintro e W' ⟨rfl, rfl⟩
    exact ⟨_, rfl, is8 (row_b2 W i0 i1 _ rfl), below1 _ _⟩
  · refine obl_step rfl fun A W hf hd hb => st_field 44 (.tmp 5) 1 ⟨w.heap.size, 0, none⟩ _ rfl (ev_tmp ((hf.2.2 5 (by kernel_rfl)).trans rfl)) (by go_simp) rfl
  · refine obl_step rfl fun A W hf hd hb => ?_
    obtain ⟨c0, c1, c2, c3, c4, c5, c6, c7, c8⟩ := (F4.out.later hb).z
    exact st_load 39 (.tmp 62) ⟨w.heap.size, 1, none⟩ (.int .u16 s) rfl (ev_tmp (dep hd 8 62 rfl rfl)) (by go_simp) rfl
  · refine obl_step rfl fun A W hf hd hb => st_call 42 _ _ #[.int .u16 s] rfl (by kernel_rfl) (by simp only [List.map_toArray, List.map_cons, List.map_nil, ev_tmp (dep hd 9 63 rfl rfl)]) ((put16_any s W s0 s1).mono ?_)
    rintro e W' ⟨rfl, rfl⟩
    exact ⟨_, rfl, is8 (row_b2 W s0 s1 _ rfl), below1 _ _⟩
  · refine obl_step rfl fun A W hf hd hb => st_field 44 (.tmp 5) 3 ⟨w.heap.size, 0, none⟩ _ rfl (ev_tmp ((hf.2.2 5 (by kernel_rfl)).trans rfl)) (by go_simp) rfl
  · refine obl_step rfl fun A W hf hd hb => ?_
    obtain ⟨c0, c1, c2, c3, c4, c5, c6, c7, c8⟩ := (F4.out.later hb).z
    exact st_load 3 (.tmp 65) ⟨w.heap.size, 3, none⟩ (.int .i64 c) rfl (ev_tmp (dep hd 11 65 rfl rfl)) (by go_simp) rfl
  · refine obl_step rfl fun A W hf hd hb => st_call 41 _ _ #[.int .i64 c] rfl (by kernel_rfl) (by simp only [List.map_toArray, List.map_cons, List.map_nil, ev_tmp (dep hd 12 66 rfl rfl)]) ((put16i_any c W c0 c1).mono ?_)
    rintro e W' ⟨rfl, rfl⟩
    exact ⟨_, rfl, is8 (row_b2 W c0 c1 _ rfl), below1 _ _⟩
  · refine obl_step rfl fun A W hf hd hb => st_move (.tmp 3) _ rfl (ev_tmp ((hf.2.2 3 (by kernel_rfl)).trans rfl)) rfl
  · refine obl_step rfl fun A W hf hd hb => st_move (.tmp 8) _ rfl (ev_tmp ((hf.2.2 8 (by kernel_rfl)).trans rfl)) rfl
  · refine obl_step rfl fun A W hf hd hb => st_slice 25 (.tmp 68) (.tmp 69) _ _ _ rfl (ev_tmp (dep hd 14 68 rfl rfl)) (ev_tmp (dep hd 15 69 rfl rfl)) (slice_rest B 0 n 4 q W hqn hn4) (is8 ((RA4.out.later hb).rest q 4 hqn hn4 B 0 rfl))
  · refine obl_step rfl fun A W hf hd hb => st_field 44 (.tmp 5) 6 ⟨w.heap.size, 0, none⟩ _ rfl (ev_tmp ((hf.2.2 5 (by kernel_rfl)).trans rfl)) (by go_simp) rfl
  · refine obl_step rfl fun A W hf hd hb => ?_
    obtain ⟨c0, c1, c2, c3, c4, c5, c6, c7, c8⟩ := (F4.out.later hb).z
    exact st_load 39 (.tmp 71) ⟨w.heap.size, 7, none⟩ (.int .u16 t) rfl (ev_tmp (dep hd 17 71 rfl rfl)) (by go_simp) rfl
  · refine obl_step rfl fun A W hf hd hb => st_call 57 _ _ #[.int .u16 t] rfl (by kernel_rfl) (by simp only [List.map_toArray, List.map_cons, List.map_nil, ev_tmp (dep hd 18 72 rfl rfl)]) ((putTag_any t W t0 t1).mono ?_)
    rintro e W' ⟨x2, y2, rfl, own2, hb2⟩
    exact ⟨_, rfl, is8 (own2.row (tagB_bytes t0 t1) (by have := tagB_len t; omega)), hb2⟩
  · refine obl_step rfl fun A W hf hd hb => ?_
    obtain ⟨x0, y0, g0, r0⟩ : Is8 W _ [1, 128, l, (q : Int)] := dep hd 4 58 rfl rfl
    obtain ⟨x1, y1, g1, r1⟩ : Is8 W _ (b2 i) := dep hd 7 61 rfl rfl
    obtain ⟨x2, y2, g2, r2⟩ : Is8 W _ (b2 s) := dep hd 10 64 rfl rfl
    obtain ⟨x3, y3, g3, r3⟩ : Is8 W _ (b2 c) := dep hd 13 67 rfl rfl
    obtain ⟨x4, y4, g4, r4⟩ : Is8 W _ ((adB a l).drop q) := dep hd 16 70 rfl rfl
    obtain ⟨x5, y5, g5, r5⟩ : Is8 W _ (tagB t) := dep hd 19 73 rfl rfl
    exact st_build 85 6 _ _ _ _ rfl (by simp only [List.map_toArray, List.map_cons, List.map_nil, ev_tmp g0, ev_tmp g1, ev_tmp g2, ev_tmp g3, ev_tmp g4, ev_tmp g5]) (bsL6 W x0 x1 x2 x3 x4 x5 _ y0 _ y1 _ y2 _ y3 _ y4 _ y5) ⟨_, _, rfl, rowL_new W _ rfl 25 [_, _, _, _, _, _] [[1, 128, l, (q : Int)], (b2 i), (b2 s), (b2 c), ((adB a l).drop q), (tagB t)] 6 rfl ⟨is8 r0, is8 r1, is8 r2, is8 r3, is8 r4, is8 r5, trivial⟩⟩ (below1 _ _)
  · refine obl_step rfl fun A W hf hd hb => ?_
    obtain ⟨x1, y1, g1, r1⟩ : IsL W _ 6 [[1, 128, l, (q : Int)], (b2 i), (b2 s), (b2 c), ((adB a l).drop q), (tagB t)] := dep hd 20 74 rfl rfl
    refine st_call 40 _ _ #[.int .u8 8, .slice x1 6 y1] rfl (by kernel_rfl) (by simp only [List.map_toArray, List.map_cons, List.map_nil, ev_const, ev_tmp g1]) ((tlv_any 8 x1 6 y1 [[1, 128, l, (q : Int)], (b2 i), (b2 s), (b2 c), ((adB a l).drop q), (tagB t)] u U W r1 (by decide) (by rw [← HU.out]; simp) HUL.out (by omega)).mono ?_)
    rintro e W' ⟨x2, y2, rfl, own2, hb2⟩
    exact ⟨_, rfl, is8 (own2.row HBT.out (by omega)), hb2⟩
  · refine obl_last fun A W hf hd hb => ?_
    have g1 : _ = _ := dep2 hd 0 54 (by decide) rfl
    obtain ⟨x2, y2, g2, r2⟩ : Is8 W _ (tlvB 8 U) := dep2 hd 21 75 (by decide) rfl
    rw [HTL.out] at g2 r2
    refine wp_callf 39 _ _ #[.pointer (some ⟨N, 0, none⟩), .slice x2 (2 + u) y2] rfl (by kernel_rfl) (by simp only [List.map_toArray, List.map_cons, List.map_nil, ev_tmp g1, ev_tmp g2]) ((add_any N true kr ka ad m cp L x2 (2 + u) y2 _ W (HW4.out.later hb) (HO4.out.later hb) r2 (by omega) rfl rfl).mono ?_)
    rintro e W' ⟨rfl, ad', cp', hW', own', hb', sz', far'⟩
    refine ⟨_, rfl, ?_⟩
    obtain ⟨u0, u1, u2, u3, u4, u5, u6, u7, u8, u9, u10, u11, u12, u13, u14, u15, u16, u17, u18, u19, u20, u21, u22, u23, u24, u25, u26, u27, u28, u29, u30, u31, u32, u33, u34, u35, u36, u37, u38, u39, u40, u41, u42, u43, u44, u45, u46, u47, u48, u49, u50, u51, u52, u53, u54, u55, u56, u57, u58, u59, u60, u61, u62, u63, u64, u65, u66, u67, u68, u69, u70, u71, u72, u73, u74, u75, u76, u77, u78, u79, u80, u81, u82, u83, rfl⟩ := act84 (hf.2.1.trans rfl) (hf.1.trans rfl)
    have k0 : u0 = _ := hf.2.2 0 (by kernel_rfl)
    have k5 : u5 = _ := hf.2.2 5 (by kernel_rfl)
    have F5 := (F4.out.later hb).far (far' w.heap.size (Nat.lt_of_lt_of_le z1 (Nat.le_trans hb4.size hb.size)) (fun e => nbN e.symm) hnb.out).2
    obtain ⟨q0, q1, q2, q3, q4, q5, q6, q7, q8⟩ := F5.z
    have HW' : Hid (WF W' N true kr ka ad' (m + (2 + u)) cp') := hW'
    obtain ⟨j0, j1, j2, j3, jf, jz⟩ := hW'
    dsimp only [Act.put] at *
    simp only [List.getElem?_toArray, List.getElem?_cons_zero, List.getElem?_cons_succ, Option.getD_some] at k0 k5
    subst k0 k5
    clear hf hd g1 g2 far'
    go_wp2
    refine bodyPost_ret (v := .tuple #[]) (by simp [results, Try.results43, go_sem]) rfl ⟨rfl, ad', cp', HW'.out.set2, own'.set (by omega), ?_⟩
    exact ((((hB.trans (hb4.mono hB.size)).trans (hb.mono (Nat.le_trans hB.size hb4.size))).mono (Nat.le_of_lt vz)).trans hb').setCell (Nat.le_refl _) _
end Go.Proofs.Ytakikkigkmcffaa
