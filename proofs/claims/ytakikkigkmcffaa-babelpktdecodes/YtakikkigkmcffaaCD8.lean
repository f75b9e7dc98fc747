/- The contract of readAskSeq. -/
import Derived.Deep.Cut
import Derived.Test.YtakikkigkmcffaaCDR
import Derived.Test.YtakikkigkmcffaaCD6
namespace Go.Proofs.Ytakikkigkmcffaa
open Go.RowKit

theorem seq_head {l : List Int} (h : seqHead l = false) : seqOk l = false := by unfold seqOk; rw [h]; rfl
theorem seq_is {l : List Int} (h : seqHead l = true) {v : Bool} (hp : pfxOk 0 (at8 l 1) 0 (l.drop 14) = v) {m : Nat} (hm : (l.drop 14).length = m) : seqOk l = (v && decide (m = nd (at8 l 1))) := by unfold seqOk; rw [h, hp, hm]; rfl
set_option maxRecDepth 8000 in
set_option maxHeartbeats 8000000 in
theorem readAskSeq_any (b off n cap : Nat) (l : List Int) (w : World) (hr : Row8 w (some ⟨b, off, none⟩) n l) (hn : n ≤ 255) (hc : n ≤ cap) {v : Bool} (hv : seqOk l = v) :
    Calls Try.prog 65 #[.slice (some ⟨b, off, none⟩) n cap] w (Asked w v (seqT l)) := by
  subst hv
  have HR : Hid (Row8 w (some ⟨b, off, none⟩) n l) := hr
  have HL : Hid (l.length = n) := hr.1
  by_cases h2 : n < 14
  · have HF : Hid (seqOk l = false) := seq_head (by unfold seqHead; rw [decide_eq_false (by rw [HL.out]; omega)]; rfl)
    clear hr
    go_enter Try.func65, Try.ntmps65
    go_wp2
    rw [HF.out]
    exact bodyPost_ret (v := .tuple #[valT 0 0 0 0 0 0 0 0 0, .bool false]) (by simp [results, Try.results65, go_sem]) rfl ⟨0, 0, 0, 0, 0, 0, 0, 0, 0, rfl, (fun h => by cases h), zero_ok, below1 _ _⟩
  obtain ⟨b_, off_, he_, hcell⟩ := hr.at (by omega)
  simp only [Option.some.injEq, Addr.mk.injEq, and_true] at he_
  obtain ⟨rfl, rfl⟩ := he_
  have d0 := hcell 0 (by omega)
  have d1 := hcell 1 (by omega)
  have d4 := hcell 4 (by omega)
  have d5 := hcell 5 (by omega)
  rw [Nat.add_zero] at d0
  have E0 : Hid (at8 l 0 = l[0]?.getD 0) := rfl
  have E1 : Hid (at8 l 1 = l[1]?.getD 0) := rfl
  have E4 : Hid (at8 l 4 = l[4]?.getD 0) := rfl
  have E5 : Hid (at8 l 5 = l[5]?.getD 0) := rfl
  have y1b := hr.2.2.1.at 1
  have h4b := hr.2.2.1.at 4
  generalize l[0]?.getD 0 = x at d0 E0
  generalize l[1]?.getD 0 = y at d1 E1 y1b
  generalize l[4]?.getD 0 = hp at d4 E4 h4b
  generalize l[5]?.getD 0 = x5 at d5 E5
  obtain ⟨y0, y1⟩ := y1b
  obtain ⟨hp0, hp1⟩ := h4b
  have hbz : b < w.heap.size := block_lt_of_cell d0
  have hbn : b ≠ w.heap.size := by omega
  have hbn1 : b ≠ w.heap.size + 1 := by omega
  have hbn2 : w.heap.size + 1 ≠ b := by omega
  have hbn3 : w.heap.size ≠ b := by omega
  have i0 : 0 < n := by omega
  have i1 : 1 < n := by omega
  have i4 : 4 < n := by omega
  have i5 : 5 < n := by omega
  have j0 : (0 : Int) < (n : Int) := by omega
  have j1 : (1 : Int) < (n : Int) := by omega
  have j4' : (4 : Int) < (n : Int) := by omega
  have j5 : (5 : Int) < (n : Int) := by omega
  have HRow : Hid (_) := hr.rest 14 cap (by omega) hc b off rfl
  have sb := getV_h hr.2.2.1 2
  have rb := v8_u hr.2.2.1 6
  obtain ⟨s, hs⟩ : ∃ s, getV l 2 2 = s := ⟨_, rfl⟩
  obtain ⟨r, hrr⟩ : ∃ r, v8 l 6 = r := ⟨_, rfl⟩
  rw [hs] at sb
  rw [hrr] at rb
  obtain ⟨s0, s1⟩ := sb
  obtain ⟨r0, r1⟩ := rb
  have HS : Hid (g16 l 2 = s) := by unfold Hid; rw [g16_is (by rw [HL.out]; omega)]; exact hs
  have HRR : Hid (g64 l 6 = r) := by unfold Hid; rw [g64_is (by rw [HL.out]; omega)]; exact hrr
  clear hr hcell
  by_cases hx : x = 1
  case neg =>
    have HF : Hid (seqOk l = false) := seq_head (by unfold seqHead; rw [E0.out, (by simpa using hx : (x == 1) = false)]; simp)
    have ex : (x != 1) = true := by simpa using hx
    clear hx HRow
    go_enter Try.func65, Try.ntmps65
    go_wp2
    rw [HF.out]
    exact bodyPost_ret (v := .tuple #[valT 0 0 0 0 0 0 0 0 0, .bool false]) (by simp [results, Try.results65, go_sem]) rfl ⟨0, 0, 0, 0, 0, 0, 0, 0, 0, rfl, (fun h => by cases h), zero_ok, below1 _ _⟩
  subst hx
  by_cases hx5 : x5 = 0
  case neg =>
    have HF : Hid (seqOk l = false) := seq_head (by unfold seqHead; rw [E5.out, (by simpa using hx5 : (x5 == 0) = false)]; simp)
    have ex : (x5 != 0) = true := by simpa using hx5
    clear hx5 HRow
    go_enter Try.func65, Try.ntmps65
    go_wp2
    rw [HF.out]
    exact bodyPost_ret (v := .tuple #[valT 0 0 0 0 0 0 0 0 0, .bool false]) (by simp [results, Try.results65, go_sem]) rfl ⟨0, 0, 0, 0, 0, 0, 0, 0, 0, rfl, (fun h => by cases h), zero_ok, below1 _ _⟩
  subst hx5
  have HH : Hid (seqHead l = true) := by unfold Hid seqHead; rw [E0.out, E5.out, HL.out]; simp; omega
  have HDL : Hid ((l.drop 14).length = n - 14) := by unfold Hid; rw [List.length_drop, HL.out]
  have ey : IntKind.i64.wrap y = y := wrap_in (by omega) (by omega)
  have ehp : IntKind.i64.wrap hp = hp := wrap_in (by omega) (by omega)
  have j2 : (14 : Int) ≤ (n : Int) := by omega
  have j3 : (n : Int) ≤ (cap : Int) := by omega
  have j4 : (14 : Int) ≤ (cap : Int) := by omega
  have e4 : decide (2 + 2 ≤ n) = true := by rw [decide_eq_true_eq]; omega
  obtain ⟨vb, hvb⟩ : ∃ vb, pfxOk 0 y 0 (l.drop 14) = vb := ⟨_, rfl⟩
  have HVB : Hid (pfxOk 0 y 0 (l.drop 14) = vb) := hvb
  have HV : Hid (seqOk l = (vb && decide (n - 14 = nd y))) := by
    unfold Hid; rw [seq_is HH.out (v := vb) (by rw [E1.out, hvb]) HDL.out, E1.out]
  have HT : Hid (seqT l = ⟨4, s, 0, 0, mix 0 0 ((l.drop 14).take (nd y)), y, r, 0, hp⟩) := by unfold Hid seqT; rw [E1.out, E4.out, hs, hrr]
  have HLe : Hid (vb = true → nd y ≤ n - 14) := by
    intro h; have h' := hvb.trans h; unfold pfxOk at h'; simp only [Bool.and_eq_true, decide_eq_true_eq] at h'; have := h'.1.2; rw [HDL.out] at this; omega
  clear hvb hs hrr
  by_cases hc2 : cap = 14
  · obtain rfl : n = 14 := by omega
    subst hc2
    have HRw : Hid (Row8 w (some ⟨b, off, none⟩) 0 (l.drop 14)) := by have := HRow.out; rw [if_pos rfl] at this; exact this
    clear HRow
    go_enter Try.func65, Try.ntmps65
    go_wp2
    go_cut [4, 5, 6] from 7 (fun s4 s5 s6 wx => ∃ P z5 y5 ra5 q5 c5, s4 = .pointer (some ⟨P, 0, none⟩) ∧ s5 = .slice ra5 q5 c5 ∧ s6 = .bool vb ∧ PV 0 y 0 b (off) (0) (0) (l.drop 14) vb z5 y5 ra5 q5 c5 ∧ PfxAt (w.alloc objZ) z5 y5 P wx)
    case first =>
      go_region_held3 (fun w' => w'.cell? ⟨b, off + 1, none⟩ = some (.int .u8 y)) (first | exact q1 | go_keep)
        ((go_at_call 70; refine (readPrefix_any0 0 y b off 0 0 (l.drop 14) _ (HRw.out.later (by first | exact (below1 _ _).drew | exact (below2 _ _ _).drew)) (by omega) (by omega) (by decide) (by decide) y0 (by omega) HVB.out).mono ?_; rintro e W1 ⟨z5, y5, ra5, q5, c5, rfl, hb1, hPV⟩; first | (have PA := pre_a (N := w.heap.size + 1) (by simp) hb1; have PA' := PA; obtain ⟨c0, c1, cf, cz, hB1⟩ := PA'; have q1 := cell_later (Below.out1 hB1) d1) | (have PB := hb1; have hB1 : Below w.heap.size w W1 := Below.out1 ((Below.refl _ _).drew.trans hb1); have q1 := cell_later hB1 d1)))
      all_goals
        go_wp2_with fail
        go_meet
        first | exact ⟨_, _, _, _, _, _, rfl, rfl, rfl, hPV, pfx_b z5 y5 PB⟩ | exact ⟨_, _, _, _, _, _, rfl, rfl, rfl, hPV, pfx_a z5 y5 (by simp) PA⟩
    case rest =>
      obtain ⟨P, z5, y5, ra5, q5, c5', rfl, rfl, rfl, hPV, hP⟩ := hcut
      obtain ⟨F1, nf, lt1, hB1, ne1, ne2⟩ := hP.res
      obtain ⟨p0, p1, -, -, -⟩ := hP
      obtain ⟨c0, c1, c2, c3, c4, c5, c6, c7, c8⟩ := F1.z
      obtain ⟨zz0, zz1, yy0, yy1, hT⟩ := hPV
      have HRc : Hid (Row8 wc (some ⟨b, off, none⟩) 14 l) := HR.out.later hB1
      have k4 := cell_later hB1 d4
      clear d0 d1 d4 d5
      have HOK : Hid (Tlv.Ok ⟨4, s, 0, 0, z5, y5, r, 0, hp⟩) := by unfold Hid; constructor <;> simp only <;> omega
      have HFin : Hid (∃ v, seqOk l = v ∧ (vb && decide (q5 = 0)) = v ∧ (v = true → (⟨4, s, 0, 0, z5, y5, r, 0, hp⟩ : Tlv) = seqT l)) := by
        unfold Hid
        rw [HV.out]
        cases vb
        · exact ⟨false, rfl, rfl, fun h => by cases h⟩
        · obtain ⟨hz, hy, hq5, -, -⟩ := hT rfl
          rw [Nat.sub_zero] at hz hq5
          have hle := HLe.out rfl
          refine ⟨decide (q5 = 0), by rw [hq5]; simp; omega, rfl, fun _ => by rw [HT.out, ← hz, ← hy]⟩
      obtain ⟨v, hv1, hv2, hv3⟩ := HFin.out
      clear hT HFin
      have HV1 : Hid (seqOk l = v) := hv1
      clear hv1
      go_wp2_with (go_at_call 49; refine (get16_any _ _ _ l _ HRc.out (by omega) 2 HS.out).mono ?_; rintro e w' ⟨rfl, rfl⟩; first | rw [e4] | skip)
      refine wp_region_S (relV [fun x => x = .int .u16 s, fun x => x = .agg #[.int .u32 z5, .int .i64 y5], fun x => x = .slice (some ⟨b, off, none⟩) 14 14, fun x => x = .int .u64 r, fun x => x = .slice (some ⟨b, off, none⟩) 14 14, fun x => x = .pointer (some ⟨b, off + 4, none⟩), fun x => x = .int .u8 hp, fun x => x = .int .i64 hp, fun x => x = valT 4 s 0 0 z5 y5 r 0 hp, fun x => x = .bool vb, fun x => x = .bool vb, fun x => vb = true → x = .slice ra5 q5 c5', fun x => vb = true → x = .int .i64 (q5 : Int), fun x => vb = true → x = .bool (decide (q5 = 0)), fun x => x = .bool v]) (fun W => T9 W w.heap.size 0 ⟨4, s, 0, 0, z5, y5, r, 0, hp⟩ ∧ Below w.heap.size w W) 15 16 (by kernel_rfl) (by kernel_rfl) (by kernel_rfl) ?_
      refine ⟨?_, ?_, ?_, ?_, ?_, ?_, ?_, ?_, ?_, ?_, ?_, ?_, ?_, ?_, ?_, ?_, ?_, trivial⟩
      · exact oblS_step (pre := true) rfl rfl (by kernel_rfl) (stepS rfl fun A W hf hd hb => sv_move (.tmp 7) _ rfl (ev_tmp ((hf.2.2 7 (by kernel_rfl)).trans rfl)) rfl)
      · exact oblS_step (pre := true) rfl rfl (by kernel_rfl) (stepS rfl fun A W hf hd hb => sv_load 41 _ ⟨P, 0, none⟩ _ rfl (ev_tmp ((hf.2.2 4 (by kernel_rfl)).trans rfl)) (ld41 (cell_later (hb rfl) p0) (cell_later (hb rfl) p1)) rfl)
      · exact oblS_step (pre := true) rfl rfl (by kernel_rfl) (stepS rfl fun A W hf hd hb => sv_move (.tmp 0) _ rfl (ev_tmp ((hf.2.2 0 (by kernel_rfl)).trans rfl)) rfl)
      · exact oblS_step (pre := true) rfl rfl (by kernel_rfl) (stepS rfl fun A W hf hd hb => sv_call 69 _ _ #[.slice (some ⟨b, off, none⟩) 14 14, .int .i64 6] rfl (by kernel_rfl) (by simp only [List.map_toArray, List.map_cons, List.map_nil, ev_const, ev_tmp (depV hd 2 43 rfl rfl)]) ((get64_any _ _ _ l _ (HRc.out.later (hb rfl)) (by omega) 6 (by omega) HRR.out).mono (by rintro e W' ⟨rfl, rfl⟩; exact ⟨_, rfl, rfl, rfl⟩)))
      · exact oblS_step (pre := true) rfl rfl (by kernel_rfl) (stepS rfl fun A W hf hd hb => sv_move (.tmp 0) _ rfl (ev_tmp ((hf.2.2 0 (by kernel_rfl)).trans rfl)) rfl)
      · exact oblS_step (pre := true) rfl rfl (by kernel_rfl) (stepS rfl fun A W hf hd hb => sv_index 25 _ _ _ _ _ rfl (ev_tmp (depV hd 4 45 rfl rfl)) (ev_const _) (idx25 W b off 14 14 4 (by omega)) rfl)
      · exact oblS_step (pre := true) rfl rfl (by kernel_rfl) (stepS rfl fun A W hf hd hb => sv_load 5 _ ⟨b, off + 4, none⟩ _ rfl (ev_tmp (depV hd 5 46 rfl rfl)) (ld5 (cell_later (hb rfl) k4)) rfl)
      · exact oblS_step (pre := true) rfl rfl (by kernel_rfl) (stepS rfl fun A W hf hd hb => sv_conv 5 3 _ _ _ rfl (ev_tmp (depV hd 6 47 rfl rfl)) (cv8 W hp0 (by omega)) rfl)
      · exact oblS_step (pre := true) rfl rfl (by kernel_rfl) (stepS rfl fun A W hf hd hb => sv_build 44 _ _ _ rfl (by simp only [List.map_toArray, List.map_cons, List.map_nil, ev_const, ev_tmp (depV hd 0 41 rfl rfl), ev_tmp (depV hd 1 42 rfl rfl), ev_tmp (depV hd 3 44 rfl rfl), ev_tmp (depV hd 7 48 rfl rfl)]) (bd44s W s z5 y5 r hp) rfl)
      · exact oblS_step (pre := false) rfl rfl (by kernel_rfl) (stepS rfl fun A W hf hd hb => sv_move (.tmp 6) _ rfl (ev_tmp ((hf.2.2 6 (by kernel_rfl)).trans rfl)) rfl)
      · exact oblS_step (pre := true) rfl rfl (by kernel_rfl) (stepS rfl fun A W hf hd hb => sv_move (.tmp 50) _ rfl (ev_tmp (depV hd 9 50 rfl rfl)) rfl)
      · exact oblS_step (pre := false) rfl rfl (by kernel_rfl) (stepG 10 51 vb rfl rfl rfl (fun _ h => h) (fun h => by rw [h]; exact fun h => by cases h) fun hg A W hf hd hb => sv_move (.tmp 5) _ rfl (ev_tmp ((hf.2.2 5 (by kernel_rfl)).trans rfl)) (fun _ => rfl))
      · exact oblS_step (pre := false) rfl rfl (by kernel_rfl) (stepG 10 51 vb rfl rfl rfl (fun _ h => h) (fun h => by rw [h]; exact fun h => by cases h) fun hg A W hf hd hb => sv_len 52 ra5 q5 c5' rfl (depV hd 11 52 rfl rfl hg) (fun _ => rfl))
      · exact oblS_step (pre := false) rfl rfl (by kernel_rfl) (stepG 10 51 vb rfl rfl rfl (fun _ h => h) (fun h => by rw [h]; exact fun h => by cases h) fun hg A W hf hd hb => sv_bin _ _ _ _ _ _ _ _ rfl (ev_tmp (depV hd 12 53 rfl rfl hg)) (ev_const _) (eq0 W q5 _ _) (fun _ => rfl))
      · exact oblS_step (pre := false) rfl rfl (by kernel_rfl) (stepS rfl fun A W hf hd hb => sv_pick _ _ _ vb _ rfl (ev_tmp (depV hd 10 51 rfl rfl)) (fun h => by rw [ev_tmp (depV hd 13 54 rfl rfl h), ← hv2, h]; rfl) (fun h => by rw [ev_const, ← hv2, h]; rfl) rfl)
      · exact oblS_store rfl fun A W hf hd hb => sv_store 44 _ _ ⟨w.heap.size, 0, none⟩ _ _ rfl rfl (ev_tmp ((hf.2.2 2 (by kernel_rfl)).trans rfl)) (ev_tmp (depV hd 8 49 rfl rfl)) (st44 (F1.later hb) (fun o => (hb.frozen (p := ⟨w.heap.size, o, none⟩) lt1).trans (nf o)) 4 s 0 0 z5 y5 r 0 hp) ⟨put9_T (F1.later hb) _ _ _ _ _ _ _ _ _, put9_b (hB1.trans (hb.mono hB1.size)) (Nat.le_refl _) _ _ _ _ _ _ _ _ _⟩
      · refine oblS_last fun A W hf hd hS => ?_
        refine sv_assign _ _ rfl (ev_tmp (depV2 hd 14 55 (by decide) rfl)) ?_
        go_wp2
        rw [HV1.out]
        exact bodyPost_ret (res_two (c := 2) (s := 3) rfl ((hf.2.2 2 (by kernel_rfl)).trans rfl) (by decide) (by rw [hf.2.1]; exact (by decide : 3 < 56)) hS.1) hf.1 ⟨4, s, 0, 0, z5, y5, r, 0, hp, rfl, hv3, HOK.out, hS.2⟩
  · have HRw : Hid (Row8 w (some ⟨b, off + 14, none⟩) (n - 14) (l.drop 14)) := by have := HRow.out; rw [if_neg (by omega)] at this; exact this
    clear HRow
    go_enter Try.func65, Try.ntmps65
    go_wp2
    go_cut [4, 5, 6] from 7 (fun s4 s5 s6 wx => ∃ P z5 y5 ra5 q5 c5, s4 = .pointer (some ⟨P, 0, none⟩) ∧ s5 = .slice ra5 q5 c5 ∧ s6 = .bool vb ∧ PV 0 y 0 b (off + 14) (n - 14) (cap - 14) (l.drop 14) vb z5 y5 ra5 q5 c5 ∧ PfxAt (w.alloc objZ) z5 y5 P wx)
    case first =>
      go_region_held3 (fun w' => w'.cell? ⟨b, off + 1, none⟩ = some (.int .u8 y)) (first | exact q1 | go_keep)
        ((go_at_call 70; refine (readPrefix_any0 0 y b (off + 14) (n - 14) (cap - 14) (l.drop 14) _ (HRw.out.later (by first | exact (below1 _ _).drew | exact (below2 _ _ _).drew)) (by omega) (by omega) (by decide) (by decide) y0 (by omega) HVB.out).mono ?_; rintro e W1 ⟨z5, y5, ra5, q5, c5, rfl, hb1, hPV⟩; first | (have PA := pre_a (N := w.heap.size + 1) (by simp) hb1; have PA' := PA; obtain ⟨c0, c1, cf, cz, hB1⟩ := PA'; have q1 := cell_later (Below.out1 hB1) d1) | (have PB := hb1; have hB1 : Below w.heap.size w W1 := Below.out1 ((Below.refl _ _).drew.trans hb1); have q1 := cell_later hB1 d1)))
      all_goals
        go_wp2_with fail
        go_meet
        first | exact ⟨_, _, _, _, _, _, rfl, rfl, rfl, hPV, pfx_b z5 y5 PB⟩ | exact ⟨_, _, _, _, _, _, rfl, rfl, rfl, hPV, pfx_a z5 y5 (by simp) PA⟩
    case rest =>
      obtain ⟨P, z5, y5, ra5, q5, c5', rfl, rfl, rfl, hPV, hP⟩ := hcut
      obtain ⟨F1, nf, lt1, hB1, ne1, ne2⟩ := hP.res
      obtain ⟨p0, p1, -, -, -⟩ := hP
      obtain ⟨c0, c1, c2, c3, c4, c5, c6, c7, c8⟩ := F1.z
      obtain ⟨zz0, zz1, yy0, yy1, hT⟩ := hPV
      have HRc : Hid (Row8 wc (some ⟨b, off, none⟩) n l) := HR.out.later hB1
      have k4 := cell_later hB1 d4
      clear d0 d1 d4 d5
      have HOK : Hid (Tlv.Ok ⟨4, s, 0, 0, z5, y5, r, 0, hp⟩) := by unfold Hid; constructor <;> simp only <;> omega
      have HFin : Hid (∃ v, seqOk l = v ∧ (vb && decide (q5 = 0)) = v ∧ (v = true → (⟨4, s, 0, 0, z5, y5, r, 0, hp⟩ : Tlv) = seqT l)) := by
        unfold Hid
        rw [HV.out]
        cases vb
        · exact ⟨false, rfl, rfl, fun h => by cases h⟩
        · obtain ⟨hz, hy, hq5, -, -⟩ := hT rfl
          rw [Nat.sub_zero] at hz hq5
          have hle := HLe.out rfl
          refine ⟨decide (q5 = 0), by rw [hq5]; simp; omega, rfl, fun _ => by rw [HT.out, ← hz, ← hy]⟩
      obtain ⟨v, hv1, hv2, hv3⟩ := HFin.out
      clear hT HFin
      have HV1 : Hid (seqOk l = v) := hv1
      clear hv1
      go_wp2_with (go_at_call 49; refine (get16_any _ _ _ l _ HRc.out (by omega) 2 HS.out).mono ?_; rintro e w' ⟨rfl, rfl⟩; first | rw [e4] | skip)
      refine wp_region_S (relV [fun x => x = .int .u16 s, fun x => x = .agg #[.int .u32 z5, .int .i64 y5], fun x => x = .slice (some ⟨b, off, none⟩) n cap, fun x => x = .int .u64 r, fun x => x = .slice (some ⟨b, off, none⟩) n cap, fun x => x = .pointer (some ⟨b, off + 4, none⟩), fun x => x = .int .u8 hp, fun x => x = .int .i64 hp, fun x => x = valT 4 s 0 0 z5 y5 r 0 hp, fun x => x = .bool vb, fun x => x = .bool vb, fun x => vb = true → x = .slice ra5 q5 c5', fun x => vb = true → x = .int .i64 (q5 : Int), fun x => vb = true → x = .bool (decide (q5 = 0)), fun x => x = .bool v]) (fun W => T9 W w.heap.size 0 ⟨4, s, 0, 0, z5, y5, r, 0, hp⟩ ∧ Below w.heap.size w W) 15 16 (by kernel_rfl) (by kernel_rfl) (by kernel_rfl) ?_
      refine ⟨?_, ?_, ?_, ?_, ?_, ?_, ?_, ?_, ?_, ?_, ?_, ?_, ?_, ?_, ?_, ?_, ?_, trivial⟩
      · exact oblS_step (pre := true) rfl rfl (by kernel_rfl) (stepS rfl fun A W hf hd hb => sv_move (.tmp 7) _ rfl (ev_tmp ((hf.2.2 7 (by kernel_rfl)).trans rfl)) rfl)
      · exact oblS_step (pre := true) rfl rfl (by kernel_rfl) (stepS rfl fun A W hf hd hb => sv_load 41 _ ⟨P, 0, none⟩ _ rfl (ev_tmp ((hf.2.2 4 (by kernel_rfl)).trans rfl)) (ld41 (cell_later (hb rfl) p0) (cell_later (hb rfl) p1)) rfl)
      · exact oblS_step (pre := true) rfl rfl (by kernel_rfl) (stepS rfl fun A W hf hd hb => sv_move (.tmp 0) _ rfl (ev_tmp ((hf.2.2 0 (by kernel_rfl)).trans rfl)) rfl)
      · exact oblS_step (pre := true) rfl rfl (by kernel_rfl) (stepS rfl fun A W hf hd hb => sv_call 69 _ _ #[.slice (some ⟨b, off, none⟩) n cap, .int .i64 6] rfl (by kernel_rfl) (by simp only [List.map_toArray, List.map_cons, List.map_nil, ev_const, ev_tmp (depV hd 2 43 rfl rfl)]) ((get64_any _ _ _ l _ (HRc.out.later (hb rfl)) (by omega) 6 (by omega) HRR.out).mono (by rintro e W' ⟨rfl, rfl⟩; exact ⟨_, rfl, rfl, rfl⟩)))
      · exact oblS_step (pre := true) rfl rfl (by kernel_rfl) (stepS rfl fun A W hf hd hb => sv_move (.tmp 0) _ rfl (ev_tmp ((hf.2.2 0 (by kernel_rfl)).trans rfl)) rfl)
      · exact oblS_step (pre := true) rfl rfl (by kernel_rfl) (stepS rfl fun A W hf hd hb => sv_index 25 _ _ _ _ _ rfl (ev_tmp (depV hd 4 45 rfl rfl)) (ev_const _) (idx25 W b off n cap 4 (by omega)) rfl)
      · exact oblS_step (pre := true) rfl rfl (by kernel_rfl) (stepS rfl fun A W hf hd hb => sv_load 5 _ ⟨b, off + 4, none⟩ _ rfl (ev_tmp (depV hd 5 46 rfl rfl)) (ld5 (cell_later (hb rfl) k4)) rfl)
      · exact oblS_step (pre := true) rfl rfl (by kernel_rfl) (stepS rfl fun A W hf hd hb => sv_conv 5 3 _ _ _ rfl (ev_tmp (depV hd 6 47 rfl rfl)) (cv8 W hp0 (by omega)) rfl)
      · exact oblS_step (pre := true) rfl rfl (by kernel_rfl) (stepS rfl fun A W hf hd hb => sv_build 44 _ _ _ rfl (by simp only [List.map_toArray, List.map_cons, List.map_nil, ev_const, ev_tmp (depV hd 0 41 rfl rfl), ev_tmp (depV hd 1 42 rfl rfl), ev_tmp (depV hd 3 44 rfl rfl), ev_tmp (depV hd 7 48 rfl rfl)]) (bd44s W s z5 y5 r hp) rfl)
      · exact oblS_step (pre := false) rfl rfl (by kernel_rfl) (stepS rfl fun A W hf hd hb => sv_move (.tmp 6) _ rfl (ev_tmp ((hf.2.2 6 (by kernel_rfl)).trans rfl)) rfl)
      · exact oblS_step (pre := true) rfl rfl (by kernel_rfl) (stepS rfl fun A W hf hd hb => sv_move (.tmp 50) _ rfl (ev_tmp (depV hd 9 50 rfl rfl)) rfl)
      · exact oblS_step (pre := false) rfl rfl (by kernel_rfl) (stepG 10 51 vb rfl rfl rfl (fun _ h => h) (fun h => by rw [h]; exact fun h => by cases h) fun hg A W hf hd hb => sv_move (.tmp 5) _ rfl (ev_tmp ((hf.2.2 5 (by kernel_rfl)).trans rfl)) (fun _ => rfl))
      · exact oblS_step (pre := false) rfl rfl (by kernel_rfl) (stepG 10 51 vb rfl rfl rfl (fun _ h => h) (fun h => by rw [h]; exact fun h => by cases h) fun hg A W hf hd hb => sv_len 52 ra5 q5 c5' rfl (depV hd 11 52 rfl rfl hg) (fun _ => rfl))
      · exact oblS_step (pre := false) rfl rfl (by kernel_rfl) (stepG 10 51 vb rfl rfl rfl (fun _ h => h) (fun h => by rw [h]; exact fun h => by cases h) fun hg A W hf hd hb => sv_bin _ _ _ _ _ _ _ _ rfl (ev_tmp (depV hd 12 53 rfl rfl hg)) (ev_const _) (eq0 W q5 _ _) (fun _ => rfl))
      · exact oblS_step (pre := false) rfl rfl (by kernel_rfl) (stepS rfl fun A W hf hd hb => sv_pick _ _ _ vb _ rfl (ev_tmp (depV hd 10 51 rfl rfl)) (fun h => by rw [ev_tmp (depV hd 13 54 rfl rfl h), ← hv2, h]; rfl) (fun h => by rw [ev_const, ← hv2, h]; rfl) rfl)
      · exact oblS_store rfl fun A W hf hd hb => sv_store 44 _ _ ⟨w.heap.size, 0, none⟩ _ _ rfl rfl (ev_tmp ((hf.2.2 2 (by kernel_rfl)).trans rfl)) (ev_tmp (depV hd 8 49 rfl rfl)) (st44 (F1.later hb) (fun o => (hb.frozen (p := ⟨w.heap.size, o, none⟩) lt1).trans (nf o)) 4 s 0 0 z5 y5 r 0 hp) ⟨put9_T (F1.later hb) _ _ _ _ _ _ _ _ _, put9_b (hB1.trans (hb.mono hB1.size)) (Nat.le_refl _) _ _ _ _ _ _ _ _ _⟩
      · refine oblS_last fun A W hf hd hS => ?_
        refine sv_assign _ _ rfl (ev_tmp (depV2 hd 14 55 (by decide) rfl)) ?_
        go_wp2
        rw [HV1.out]
        exact bodyPost_ret (res_two (c := 2) (s := 3) rfl ((hf.2.2 2 (by kernel_rfl)).trans rfl) (by decide) (by rw [hf.2.1]; exact (by decide : 3 < 56)) hS.1) hf.1 ⟨4, s, 0, 0, z5, y5, r, 0, hp, rfl, hv3, HOK.out, hS.2⟩
end Go.Proofs.Ytakikkigkmcffaa
