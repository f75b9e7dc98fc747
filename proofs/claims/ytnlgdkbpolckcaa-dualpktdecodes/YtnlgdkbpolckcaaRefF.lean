/- The document's Decode. -/
import Derived.Test.YtnlgdkbpolckcaaRefF0
import Derived.Deep.Cut
namespace Go.Proofs.Ytnlgdkbpolckcaa
open Go.RowKit

set_option maxRecDepth 8000 in
set_option maxHeartbeats 2000000 in
theorem refDecode_any (a : Option Addr) (n cap : Nat) (l : List Int) (w : World) (hr : Row8 w a n l) (hn : n ≤ 3000) :
    Calls Try.prog 13 #[.slice a n cap] w (DecD w (dec l)) := by
  have HL : Hid (l.length = n) := hr.1
  by_cases h16 : n < 16
  · have HD : Hid (dec l = (pk0, 2)) := dec_frame (by unfold framed; rw [HL.out, decide_eq_false (by omega)]; rfl)
    have i16 : (n : Int) < 16 := by omega
    clear hr
    go_enter Try.func13, Try.ntmps13
    go_wp2
    rw [HD.out]
    exact bodyPost_ret (v := .tuple #[valP 0 false 0 0 none 0 0, .int .i64 2]) (by simp [results, Try.results13, go_sem]) rfl ⟨none, 0, 0, rfl, rowE_none _, below2 _ _ _⟩
  obtain ⟨b, off, rfl, hcell⟩ := hr.at' (by omega)
  have HR : Hid (Row8 w (some ⟨b, off, none⟩) n l) := hr
  have HBy : Hid (Bytes l) := hr.2.2.1
  have HCell : Hid (∀ i, i < n → w.cell? ⟨b, off + i, none⟩ = some (.int .u8 (l[i]?.getD 0))) := hcell
  have d0 := hcell 0 (by omega)
  rw [Nat.add_zero] at d0
  have E0 : Hid (at8 l 0 = l[0]?.getD 0) := rfl
  generalize l[0]?.getD 0 = x at d0 E0
  have hbz : b < w.heap.size := block_lt_of_cell d0
  have j16 : ¬ (n : Int) < 16 := by omega
  have i0 : 0 < n := by omega
  have j0 : (0 : Int) < (n : Int) := by omega
  obtain ⟨r, hrr⟩ : ∃ r, n - 16 = r := ⟨_, rfl⟩
  have w1 : IntKind.i64.wrap ((n : Int) - 16) = (r : Int) := by rw [wrap_in (by omega) (by omega)]; omega
  obtain ⟨q, hq⟩ : ∃ q : Nat, r % 20 = q := ⟨_, rfl⟩
  have w2 : (r : Int).tmod 20 = (q : Int) := by rw [Int.tmod_eq_emod_of_nonneg (by omega)]; omega
  have w3 : IntKind.i64.wrap (q : Int) = (q : Int) := wrap_in (by omega) (by omega)
  clear hr hcell
  by_cases hq0 : q = 0
  case neg =>
    have HD : Hid (dec l = (pk0, 2)) := dec_frame (by unfold framed; rw [HL.out, hrr, hq, decide_eq_false hq0]; simp)
    have e1 : ((q : Int) != 0) = true := by rw [bne_iff_ne]; omega
    clear hq hrr
    go_enter Try.func13, Try.ntmps13
    go_wp2
    rw [HD.out]
    exact bodyPost_ret (v := .tuple #[valP 0 false 0 0 none 0 0, .int .i64 2]) (by simp [results, Try.results13, go_sem]) rfl ⟨none, 0, 0, rfl, rowE_none _, below2 _ _ _⟩
  subst hq0
  have e1 : (((0 : Nat) : Int) != 0) = false := by simp
  by_cases hx : x = 2
  case neg =>
    have HD : Hid (dec l = (pk0, 2)) := dec_frame (by unfold framed; rw [E0.out, (by simpa using hx : (x == 2) = false)]; simp)
    have ex : (x != 2) = true := by simpa using hx
    clear hq hrr hx
    go_enter Try.func13, Try.ntmps13
    go_wp2
    rw [HD.out]
    exact bodyPost_ret (v := .tuple #[valP 0 false 0 0 none 0 0, .int .i64 2]) (by simp [results, Try.results13, go_sem]) rfl ⟨none, 0, 0, rfl, rowE_none _, below2 _ _ _⟩
  subst hx
  have HFr : Hid (framed l = true) := by unfold Hid framed; rw [HL.out, hrr, hq, E0.out, decide_eq_true (by omega)]; rfl
  obtain ⟨m, hm⟩ : ∃ m : Nat, r / 20 = m := ⟨_, rfl⟩
  have HM : Hid (n = 16 + 20 * m) := by unfold Hid; omega
  have w4 : (r : Int).tdiv 20 = (m : Int) := by rw [Int.tdiv_eq_ediv_of_nonneg (by omega)]; omega
  have w5 : IntKind.i64.wrap (m : Int) = (m : Int) := wrap_in (by omega) (by omega)
  have gb := getV_small HBy.out 2 2 (by omega)
  have gb2 := getV_bd HBy.out 2 2
  obtain ⟨g, hg⟩ : ∃ g, getV l 2 2 = g := ⟨_, rfl⟩
  have HG : Hid (getV l 2 2 = g) := hg
  rw [hg] at gb gb2
  obtain ⟨g0, -⟩ := gb
  have g1 : g < 65536 := gb2.2
  have HPB : Hid (Bytes (plain l)) := (HBy.out.set 2 0 (by omega)).set 3 0 (by omega)
  have sb := sumI_bd HPB.out
  obtain ⟨y, hy⟩ : ∃ y, sumI (plain l) = y := ⟨_, rfl⟩
  have HY : Hid (sumI (plain l) = y) := hy
  rw [hy] at sb
  obtain ⟨y0, y1⟩ := sb
  have ey : IntKind.u32.wrap y = y := wrapU y0 (by omega)
  have HS : Hid (sumOk l = (y == g)) := by unfold Hid sumOk; rw [hy, hg]
  have i2 : 2 < n := by omega
  have i3 : 3 < n := by omega
  have j2 : (2 : Int) < (n : Int) := by omega
  have j3 : (3 : Int) < (n : Int) := by omega
  clear hq hrr hm hg hy gb2 e1 d0
  have d0 := HCell.out 0 (by omega)
  rw [Nat.add_zero] at d0
  have hl0 : l[0]?.getD 0 = 2 := E0.out.symm.symm
  rw [hl0] at d0
  clear hl0
  by_cases hyg : y = g
  case neg =>
    have HD : Hid (dec l = (pk0, 8)) := dec_sum HFr.out (by rw [HS.out]; simpa using hyg)
    have e2 : (y != g) = true := by simpa using hyg
    clear hyg
    go_enter Try.func13, Try.ntmps13
    go_wp2_with (first
      | (at_builtin; refine wpList_app8 _ rfl (.const (.slice none 0 0)) (.tmp 33) 27 5 rfl (w.heap.size + 2) Try.underlying27 info5 _ 0 [] rfl (own8_nil _ _ _) _ _ _ _ rfl (HR.out.later (below2 _ _ _)) n (by omega) _ rfl (by omega) (by simp) ?_; intro a1 p1 W1 own1 hb1; rw [List.nil_append] at own1; have HB1 : Hid (_) := hb1; obtain ⟨⟨z0, z1, z2, z3, z4, zz⟩, ⟨v0, v1, v2, v3, v4, vz⟩, nfz⟩ := boxes hb1; have CL1 : Hid (n ≤ p1) := own1.cap_le; obtain ⟨gg, rfl, hgg, hgz, row1, nf1⟩ := own1.head HBy.out (by omega) (by omega); have ROW1 : Hid (_) := row1; obtain ⟨-, -, -, hcl⟩ := row1; obtain ⟨b2, o2, e2_, cl2⟩ := hcl 2 (by omega); obtain ⟨b3, o3, e3_, cl3⟩ := hcl 3 (by omega); simp only [Option.some.injEq, Addr.mk.injEq, and_true] at e2_ e3_; obtain ⟨rfl, rfl⟩ := e2_; obtain ⟨rfl, rfl⟩ := e3_; rw [Nat.zero_add] at cl2 cl3; clear hcl; have n1 : gg ≠ w.heap.size := by { omega }; have n2 : gg ≠ w.heap.size + 1 := by { omega }; have n3 : w.heap.size ≠ gg := by { omega }; have n4 : w.heap.size + 1 ≠ gg := by { omega })
      | (go_at_call 26; go_loud (refine (refGet_yes _ _ _ l 2 2 _ (HR.out.low (B2 hb1 hgg) hbz) hn (by omega) (by omega)).mono ?_; rw [HG.out]; rintro e_ W_ ⟨rfl, rfl⟩))
      | (go_at_call 21; go_loud (have R2 := row8_set2 ROW1.out (by omega) (x := 0) (y := 0) (by decide) (by decide) (by decide) (by decide); refine (refSum_any _ _ _ (plain l) _ R2).mono ?_; rw [HY.out]; rintro e_ W_ ⟨rfl, rfl⟩)))
    rw [HD.out]
    exact fin5 (p := pk0) (P2 HB1.out hgg) (B2 HB1.out hgg) rfl rfl rfl (rowE_none _)
  subst hyg
  have HSok : Hid (sumOk l = true) := by unfold Hid; rw [HS.out]; simp
  have HM20 : Hid ((l.length - 16) / 20 = m) := by unfold Hid; rw [HL.out]; have := HM.out; omega
  by_cases h40 : 40 < m
  · have HD : Hid (dec l = (pk0, 9)) := dec_long HFr.out HSok.out (by rw [HM20.out]; exact h40)
    have j40 : (40 : Int) < (m : Int) := by omega
    go_enter Try.func13, Try.ntmps13
    go_wp2_with (first
      | (at_builtin; refine wpList_app8 _ rfl (.const (.slice none 0 0)) (.tmp 33) 27 5 rfl (w.heap.size + 2) Try.underlying27 info5 _ 0 [] rfl (own8_nil _ _ _) _ _ _ _ rfl (HR.out.later (below2 _ _ _)) n (by omega) _ rfl (by omega) (by simp) ?_; intro a1 p1 W1 own1 hb1; rw [List.nil_append] at own1; have HB1 : Hid (_) := hb1; obtain ⟨⟨z0, z1, z2, z3, z4, zz⟩, ⟨v0, v1, v2, v3, v4, vz⟩, nfz⟩ := boxes hb1; have CL1 : Hid (n ≤ p1) := own1.cap_le; obtain ⟨gg, rfl, hgg, hgz, row1, nf1⟩ := own1.head HBy.out (by omega) (by omega); have ROW1 : Hid (_) := row1; obtain ⟨-, -, -, hcl⟩ := row1; obtain ⟨b2, o2, e2_, cl2⟩ := hcl 2 (by omega); obtain ⟨b3, o3, e3_, cl3⟩ := hcl 3 (by omega); simp only [Option.some.injEq, Addr.mk.injEq, and_true] at e2_ e3_; obtain ⟨rfl, rfl⟩ := e2_; obtain ⟨rfl, rfl⟩ := e3_; rw [Nat.zero_add] at cl2 cl3; clear hcl; have n1 : gg ≠ w.heap.size := by { omega }; have n2 : gg ≠ w.heap.size + 1 := by { omega }; have n3 : w.heap.size ≠ gg := by { omega }; have n4 : w.heap.size + 1 ≠ gg := by { omega })
      | (go_at_call 26; go_loud (refine (refGet_yes _ _ _ l 2 2 _ (HR.out.low (B2 hb1 hgg) hbz) hn (by omega) (by omega)).mono ?_; rw [HG.out]; rintro e_ W_ ⟨rfl, rfl⟩))
      | (go_at_call 21; go_loud (have R2 := row8_set2 ROW1.out (by omega) (x := 0) (y := 0) (by decide) (by decide) (by decide) (by decide); refine (refSum_any _ _ _ (plain l) _ R2).mono ?_; rw [HY.out]; rintro e_ W_ ⟨rfl, rfl⟩)))
    rw [HD.out]
    exact fin5 (p := pk0) (P2 HB1.out hgg) (B2 HB1.out hgg) rfl rfl rfl (rowE_none _)
  have j40 : ¬ (40 : Int) < (m : Int) := by omega
  have hm40 : m ≤ 40 := by omega
  have HDD : Hid (dec l = _) := dec_rest HFr.out HSok.out (by rw [HM20.out]; exact h40)
  have d1 := HCell.out 1 (by omega)
  have d4 := HCell.out 4 (by omega)
  have E1 : Hid (at8 l 1 = l[1]?.getD 0) := rfl
  have E4 : Hid (at8 l 4 = l[4]?.getD 0) := rfl
  have cb := HBy.out.at 1
  generalize l[1]?.getD 0 = c at d1 E1 cb
  generalize l[4]?.getD 0 = x4 at d4 E4
  obtain ⟨c0, c1⟩ := cb
  have ec : IntKind.i64.wrap c = c := wrap_in (by omega) (by omega)
  obtain ⟨i, hi⟩ : ∃ i, (x4 == 1) = i := ⟨_, rfl⟩
  have sb := getV_bd HBy.out 8 4
  have kb := getV_bd HBy.out 12 4
  obtain ⟨s, hs⟩ : ∃ s, getV l 8 4 = s := ⟨_, rfl⟩
  obtain ⟨k, hk⟩ : ∃ k, getV l 12 4 = k := ⟨_, rfl⟩
  have HSv : Hid (getV l 8 4 = s) := hs
  have HKv : Hid (getV l 12 4 = k) := hk
  rw [hs] at sb
  rw [hk] at kb
  have s0 : 0 ≤ s := sb.1
  have s1 : s < 4294967296 := sb.2
  have k0 : 0 ≤ k := kb.1
  have k1 : k < 4294967296 := kb.2
  have HPK : Hid (pkOf l = ⟨c, i, s, k, ents m (l.drop 16)⟩) := by unfold Hid pkOf; rw [E1.out, E4.out, hi, hs, hk, HM20.out]
  have i1 : 1 < n := by omega
  have i4 : 4 < n := by omega
  have j1 : (1 : Int) < (n : Int) := by omega
  have j4 : (4 : Int) < (n : Int) := by omega
  clear hs hk sb kb
  go_enter Try.func13, Try.ntmps13
  go_wp2_with (first
    | (at_builtin; refine wpList_app8 _ rfl (.const (.slice none 0 0)) (.tmp 33) 27 5 rfl (w.heap.size + 2) Try.underlying27 info5 _ 0 [] rfl (own8_nil _ _ _) _ _ _ _ rfl (HR.out.later (below2 _ _ _)) n (by omega) _ rfl (by omega) (by simp) ?_; intro a1 p1 W1 own1 hb1; rw [List.nil_append] at own1; have HB1 : Hid (_) := hb1; obtain ⟨⟨z0, z1, z2, z3, z4, zz⟩, ⟨v0, v1, v2, v3, v4, vz⟩, nfz⟩ := boxes hb1; have CL1 : Hid (n ≤ p1) := own1.cap_le; obtain ⟨gg, rfl, hgg, hgz, row1, nf1⟩ := own1.head HBy.out (by omega) (by omega); have ROW1 : Hid (_) := row1; obtain ⟨-, -, -, hcl⟩ := row1; obtain ⟨b2, o2, e2_, cl2⟩ := hcl 2 (by omega); obtain ⟨b3, o3, e3_, cl3⟩ := hcl 3 (by omega); simp only [Option.some.injEq, Addr.mk.injEq, and_true] at e2_ e3_; obtain ⟨rfl, rfl⟩ := e2_; obtain ⟨rfl, rfl⟩ := e3_; rw [Nat.zero_add] at cl2 cl3; clear hcl; have n1 : gg ≠ w.heap.size := by { omega }; have n2 : gg ≠ w.heap.size + 1 := by { omega }; have n3 : w.heap.size ≠ gg := by { omega }; have n4 : w.heap.size + 1 ≠ gg := by { omega })
    | (go_at_call 26; go_loud (refine (refGet_yes _ _ _ l 2 2 _ (HR.out.low (B2 hb1 hgg) hbz) hn (by omega) (by omega)).mono ?_; rw [HG.out]; rintro e_ W_ ⟨rfl, rfl⟩))
    | (go_at_call 21; go_loud (have R2 := row8_set2 ROW1.out (by omega) (x := 0) (y := 0) (by decide) (by decide) (by decide) (by decide); refine (refSum_any _ _ _ (plain l) _ R2).mono ?_; rw [HY.out]; rintro e_ W_ ⟨rfl, rfl⟩)))
  obtain ⟨V, hV⟩ : ∃ V, V = (W1.setCell ⟨gg, 2, none⟩ (.int .u8 0)).setCell ⟨gg, 3, none⟩ (.int .u8 0) := ⟨_, rfl⟩
  rw [← hV]
  have HBV : Hid (Below w.heap.size w V) := by unfold Hid; rw [hV]; exact B2 HB1.out hgg
  have HP0 : Hid (P5 V w.heap.size 0 false 0 0 none 0 0) := by unfold Hid; rw [hV]; exact P2 HB1.out hgg
  have HP1 : Hid (P5 V (w.heap.size + 1) 0 false 0 0 none 0 0) := by unfold Hid; rw [hV]; exact (boxes HB1.out).2.1.lift (B := w.heap.size + 2) (((Below.refl _ _).setCell (p := ⟨gg, 2, none⟩) hgg _).setCell (p := ⟨gg, 3, none⟩) hgg _) (by omega)
  have HNF : Hid (∀ o, V.frozen? ⟨w.heap.size, o, none⟩ = false) := fun o => by rw [hV]; simp [go_sem, nfz]
  have HRV : Hid (Row8 V (some ⟨b, off, none⟩) n l) := HR.out.later HBV.out
  have q1 := cell_later HBV.out d1
  have q4 := cell_later HBV.out d4
  have hbV : b ≠ V.heap.size := by have := HBV.out.size; omega
  have hbV2 : V.heap.size ≠ b := by have := HBV.out.size; omega
  clear hV z0 z1 z2 z3 z4 zz v0 v1 v2 v3 v4 vz nfz cl2 cl3 nf1 own1 n1 n2 n3 n4 d0 d1 d4
  go_cut [8] from 9 (fun s8 wx => s8 = .pointer (some ⟨V.heap.size, 0, none⟩) ∧ wx = (V.alloc (objP c i s k none 0 0)).drew)
  case first =>
    go_region_held3 (fun w' => w'.cell? ⟨b, off + 1, none⟩ = some (.int .u8 c) ∧ w'.cell? ⟨b, off + 4, none⟩ = some (.int .u8 x4)) (go_keep)
      (first
        | (go_at_call_of 27 (Value.int IntKind.i64 8); refine (refGet4_any _ _ _ l _ (HRV.out.later (by first | exact (Below.refl _ _).drew | exact (below1 _ _).drew)) hn 8 (by omega) HSv.out).mono ?_; rintro e_ W_ ⟨rfl, rfl⟩)
        | (go_at_call_of 27 (Value.int IntKind.i64 12); refine (refGet4_any _ _ _ l _ (HRV.out.later (by first | exact (Below.refl _ _).drew | exact (below1 _ _).drew)) hn 12 (by omega) HKv.out).mono ?_; rintro e_ W_ ⟨rfl, rfl⟩))
    all_goals
      go_wp2_with fail
      go_meet
      exact ⟨rfl, by simp⟩
  case rest =>
    obtain ⟨rfl, hwc⟩ := hcut
    have HPc : Hid (PF5 wc V.heap.size c i s k none 0 0) := by unfold Hid; rw [hwc]; exact (PF5.new V c i s k none 0 0).later (Below.refl _ _).drew
    have HBc : Hid (Below V.heap.size V wc) := by unfold Hid; rw [hwc]; exact (below1 _ _).drew
    have hzV : w.heap.size + 1 < V.heap.size := HP1.out.2.2.2.2.2
    clear hwc q1 q4
    try clear i0
    try clear i1
    try clear i2
    try clear i3
    try clear i4
    try clear j0
    try clear j1
    try clear j2
    try clear j3
    try clear j4
    try clear j16
    try clear j40
    try clear w1
    try clear w2
    try clear w3
    try clear w4
    try clear w5
    try clear ey
    try clear ec
    try clear hi
    try clear hbV
    try clear hbV2
    try clear y0
    try clear y1
    try clear g0
    try clear g1
    try clear HY
    try clear HG
    try clear HPB
    try clear HS
    try clear hb1
    try clear CL1
    try clear ROW1
    try clear HSok
    try clear HFr
    try clear E0
    try clear E1
    try clear E4
    try clear HSv
    try clear HKv
    try clear h16
    try clear h40
    try clear hgz
    go_wp2
    go_loopw [9] (fun i_ W => ∃ (j : Nat) (ad : Option Addr) (cp : Nat), j ≤ m ∧ i_ = .int .i64 ((16 + 20 * j : Nat) : Int) ∧ Hid (PF5 W V.heap.size c i s k ad j cp) ∧ Hid (OwnE W (V.heap.size + 1) (.slice ad j cp) j (ents j (l.drop 16))) ∧ Below V.heap.size V W) (fun i_ _ => n - (intOf i_).toNat)
    case atStart => exact ⟨0, none, 0, Nat.zero_le _, rfl, HPc, ownE_nil _ _, HBc.out⟩
    case round =>
      obtain ⟨j, ad, cp, hj, rfl, HP, HO, hB⟩ := hrel
      have hBw : Below w.heap.size w wr := HBV.out.trans (hB.mono HBV.out.size)
      have HBw : Hid (Below w.heap.size w wr) := hBw
      obtain ⟨t0, ht0⟩ : ∃ t, 16 + 20 * j = t := ⟨_, rfl⟩
      have HT0 : Hid (16 + 20 * j = t0) := ht0
      rw [ht0]
      by_cases hlt : j < m
      · have hend : t0 + 20 ≤ n := by have := HM.out; omega
        have hlt' : (t0 : Int) < (n : Int) := by omega
        obtain ⟨t4, h4⟩ : ∃ t, t0 + 4 = t := ⟨_, rfl⟩
        obtain ⟨t5, h5⟩ : ∃ t, t0 + 5 = t := ⟨_, rfl⟩
        obtain ⟨t6, h6⟩ : ∃ t, t0 + 6 = t := ⟨_, rfl⟩
        obtain ⟨t8, h8⟩ : ∃ t, t0 + 8 = t := ⟨_, rfl⟩
        obtain ⟨t12, h12⟩ : ∃ t, t0 + 12 = t := ⟨_, rfl⟩
        have u4 : IntKind.i64.wrap ((t0 : Int) + 4) = (t4 : Int) := by rw [wrap_in (by omega) (by omega)]; omega
        have u5 : IntKind.i64.wrap ((t0 : Int) + 5) = (t5 : Int) := by rw [wrap_in (by omega) (by omega)]; omega
        have u6 : IntKind.i64.wrap ((t0 : Int) + 6) = (t6 : Int) := by rw [wrap_in (by omega) (by omega)]; omega
        have u8 : IntKind.i64.wrap ((t0 : Int) + 8) = (t8 : Int) := by rw [wrap_in (by omega) (by omega)]; omega
        have u12 : IntKind.i64.wrap ((t0 : Int) + 12) = (t12 : Int) := by rw [wrap_in (by omega) (by omega)]; omega
        have k4 : (t4 : Int) < (n : Int) := by omega
        have k5 : (t5 : Int) < (n : Int) := by omega
        have q4 := cell_later hBw (HCell.out t4 (by omega))
        have q5 := cell_later hBw (HCell.out t5 (by omega))
        have xb := HBy.out.at t4
        have yb := HBy.out.at t5
        have HEnt : Hid (ents (j + 1) (l.drop 16) = ents j (l.drop 16) ++ [⟨getV l t0 4, l[t4]?.getD 0, getV l t8 4, getV l t12 4, l[t5]?.getD 0, getV l t6 2⟩]) := by
          unfold Hid; rw [ents_snoc, entOf_at, List.drop_drop, show 16 + 20 * j = t0 from ht0]; simp only [getV_off, at8_off, Nat.add_zero]; rw [h4, h5, h6, h8, h12]
        obtain ⟨ea0, ea1⟩ := getV_bd HBy.out t0 4
        obtain ⟨et0, et1⟩ := getV_bd HBy.out t6 2
        obtain ⟨eb0, eb1⟩ := getV_bd HBy.out t8 4
        obtain ⟨ed0, ed1⟩ := getV_bd HBy.out t12 4
        obtain ⟨ea, hea⟩ : ∃ x, getV l t0 4 = x := ⟨_, rfl⟩
        obtain ⟨et, het⟩ : ∃ x, getV l t6 2 = x := ⟨_, rfl⟩
        obtain ⟨eb, heb⟩ : ∃ x, getV l t8 4 = x := ⟨_, rfl⟩
        obtain ⟨ed, hed⟩ : ∃ x, getV l t12 4 = x := ⟨_, rfl⟩
        have HEA : Hid (getV l t0 4 = ea) := hea
        have HET : Hid (getV l t6 2 = et) := het
        have HEB : Hid (getV l t8 4 = eb) := heb
        have HED : Hid (getV l t12 4 = ed) := hed
        rw [hea] at ea0 ea1 HEnt
        rw [het] at et0 et1 HEnt
        rw [heb] at eb0 eb1 HEnt
        rw [hed] at ed0 ed1 HEnt
        have ea1 : ea < 4294967296 := ea1
        have et1 : et < 65536 := et1
        have eb1 : eb < 4294967296 := eb1
        have ed1 : ed < 4294967296 := ed1
        generalize l[t4]?.getD 0 = el at q4 xb HEnt
        generalize l[t5]?.getD 0 = eh at q5 yb HEnt
        obtain ⟨el0, el1⟩ := xb
        obtain ⟨eh0, eh1⟩ := yb
        have wl : IntKind.i64.wrap el = el := wrap_in (by omega) (by omega)
        have wh : IntKind.i64.wrap eh = eh := wrap_in (by omega) (by omega)
        have wb : IntKind.i64.wrap eb = eb := wrap_in (by omega) (by omega)
        have wd : IntKind.i64.wrap ed = ed := wrap_in (by omega) (by omega)
        have wt' : IntKind.u16.wrap et = et := by simp [IntKind.wrap, IntKind.signed, IntKind.bits]; omega
        have HRr : Hid (Row8 wr (some ⟨b, off, none⟩) n l) := HR.out.later hBw
        have b1 : b ≠ wr.heap.size := by have := hBw.size; omega
        have b2 : wr.heap.size ≠ b := by have := hBw.size; omega
        have HL4 : Hid (t0 + 4 ≤ n ∧ t6 + 2 ≤ n ∧ t8 + 4 ≤ n ∧ t12 + 4 ≤ n) := by unfold Hid; omega
        obtain ⟨t20, ht20⟩ : ∃ t, t0 + 20 = t := ⟨_, rfl⟩
        have u20 : IntKind.i64.wrap ((t0 : Int) + 20) = (t20 : Int) := by rw [wrap_in (by omega) (by omega)]; omega
        have HN0 : Hid (16 + 20 * (j + 1) = t20) := by unfold Hid; omega
        have HOK : Hid (Ent.Ok ⟨ea, el, eb, ed, eh, et⟩) := by unfold Hid; constructor <;> simp only <;> omega
        clear ht20
        clear hea het heb hed h4 h5 h6 h8 h12 ht0
        go_wp2_with (go_at_call 26; refine (refGet_yes _ _ _ l t6 2 _ HRr.out hn (by omega) HL4.out.2.1).mono ?_; rw [HET.out]; rintro e_ wr ⟨rfl, rfl⟩)
        go_region_held3 (fun w' => w'.cell? ⟨b, off + t4, none⟩ = some (.int .u8 el) ∧ w'.cell? ⟨b, off + t5, none⟩ = some (.int .u8 eh)) (go_keep)
          ((go_at_call 27; refine (refGet4_any _ _ _ l _ (HRr.out.later (by first | exact (Below.refl _ _).drew | exact (below1 _ _).drew)) hn t0 HL4.out.1 HEA.out).mono ?_; rintro e_ W_ ⟨rfl, rfl⟩))
        all_goals
          go_wp2
          go_region_held3 (fun w' => w'.cell? ⟨b, off + t5, none⟩ = some (.int .u8 eh)) (go_keep)
            (first
              | (go_at_call_of 27 (Value.int IntKind.i64 t8); refine (refGet4_any _ _ _ l _ (HRr.out.later (by first | exact (below1 _ _).drew | exact (below1 _ _).drew.drew)) hn t8 HL4.out.2.2.1 HEB.out).mono ?_; rintro e_ W_ ⟨rfl, rfl⟩)
              | (go_at_call_of 27 (Value.int IntKind.i64 t12); refine (refGet4_any _ _ _ l _ (HRr.out.later (by first | exact (below1 _ _).drew | exact (below1 _ _).drew.drew)) hn t12 HL4.out.2.2.2 HED.out).mono ?_; rintro e_ W_ ⟨rfl, rfl⟩))
        all_goals
          obtain ⟨X, hX⟩ : ∃ X, X = (wr.alloc (objE ea el eb ed eh et)).drew.drew := ⟨_, rfl⟩
          rw [← hX]
          have hbX : Below wr.heap.size wr X := by rw [hX]; exact (below1 _ _).drew.drew
          obtain ⟨y0_, y1_, y2_, y3_, y4_, y5_⟩ : E6 X wr.heap.size 0 ⟨ea, el, eb, ed, eh, et⟩ := by rw [hX]; exact (E6.new wr ea el eb ed eh et).later (Below.refl _ _).drew.drew
          simp only [Nat.zero_add] at y0_ y1_ y2_ y3_ y4_ y5_
          have HPX : Hid (PF5 X V.heap.size c i s k ad j cp) := HP.out.later hbX
          have HOX : Hid (OwnE X (V.heap.size + 1) (.slice ad j cp) j (ents j (l.drop 16))) := HO.out.later hbX
          have hBX : Below V.heap.size V X := hB.trans (hbX.mono hB.size)
          have szX : V.heap.size < X.heap.size := HPX.out.1.2.2.2.2.2
          obtain ⟨⟨g0_, g1_, g2_, g3_, g4_, gz_⟩, gf_⟩ := HPX.out
          clear hX hbX q4 q5
          go_wp2_with (at_builtin; refine wpList_appE _ rfl (.tmp 114) (.tmp 116) 23 rfl (V.heap.size + 1) Try.underlying23 infoE _ j _ rfl (HOX.out.later (below1 _ _)) _ 1 1 [⟨ea, el, eb, ed, eh, et⟩] rfl (rowE_one (E6.newAt X _ rfl ea el eb ed eh et) rfl HOK.out) (j + 1) rfl _ HEnt.out.symm (by omega) (by simp; omega) ?_; intro a3 c3 W3 own3 hb3; have HP3 : Hid (PF5 W3 V.heap.size c i s k ad j cp) := (HPX.out.later (below1 X (objE ea el eb ed eh et))).lift hb3 (by omega); have hB3 : Below V.heap.size V W3 := (hBX.trans ((below1 X (objE ea el eb ed eh et)).mono hBX.size)).trans (hb3.mono (by omega)); obtain ⟨⟨g0_, g1_, g2_, g3_, g4_, gz_⟩, gf_⟩ := HP3.out)
          go_roundw
          case rel => exact ⟨j + 1, a3, c3, by omega, by rw [HN0.out], HP3.out.set4 _ _ _, own3.set (by omega), hB3.setCell (p := ⟨V.heap.size, 4, none⟩) (Nat.le_refl _) _⟩
          case measure => have := HT0.out; have := HN0.out; simp [intOf]; omega
      · obtain rfl : j = m := by omega
        have hlt' : ¬ (t0 : Int) < (n : Int) := by have := HM.out; omega
        have HE : Hid (RowE wr ad j (ents j (l.drop 16))) := HO.out.row (ents_ok (drop_b HBy.out 16) j)
        obtain ⟨⟨g0_, g1_, g2_, g3_, g4_, gz_⟩, gf_⟩ := HP.out
        have HP0r : Hid (P5 wr w.heap.size 0 false 0 0 none 0 0) := HP0.out.lift hB (by omega)
        have HP1r : Hid (P5 wr (w.heap.size + 1) 0 false 0 0 none 0 0) := HP1.out.lift hB (by omega)
        have HNFr : Hid (∀ o, wr.frozen? ⟨w.heap.size, o, none⟩ = false) := fun o => (hB.frozen (p := ⟨w.heap.size, o, none⟩) (by show w.heap.size < _; omega)).trans (HNF.out o)
        obtain ⟨x, hx⟩ : ∃ x, encX ⟨c, i, s, k, ents j (l.drop 16)⟩ = x := ⟨_, rfl⟩
        have HX : Hid (encX ⟨c, i, s, k, ents j (l.drop 16)⟩ = x) := hx
        by_cases hx0 : x = 0
        case neg =>
          have HD : Hid (dec l = (pk0, 2)) := by unfold Hid; rw [HDD.out, if_neg (fun h => hx0 (by rw [← hx, ← HPK.out]; exact h.1))]
          have ex0 : (x != 0) = true := by simpa using hx0
          clear hx hx0
          go_wp2_with (go_at_call 11; refine (refEncode_any c i s k ad j cp (ents j (l.drop 16)) _ HE.out (by omega) s0 (by omega) k0 (by omega)).mono ?_; rintro e_ W2 ⟨a2, m2, p2, rfl, own2, hb2⟩; rw [HX.out]; have HP0s : Hid (P5 W2 w.heap.size 0 false 0 0 none 0 0) := HP0r.out.later hb2; have HP1s := HP1r.out.later hb2; have HPs := HP.out.later hb2; have hB2 := stp HBw.out hb2; obtain ⟨z0, z1, z2, z3, z4, zz⟩ := HP0s.out; obtain ⟨v0, v1, v2, v3, v4, vz⟩ := HP1s; obtain ⟨⟨g0_, g1_, g2_, g3_, g4_, gz_⟩, gf_⟩ := HPs; have nfz : ∀ o, W2.frozen? ⟨w.heap.size, o, none⟩ = false := fun o => (hb2.frozen (p := ⟨w.heap.size, o, none⟩) HP0r.out.2.2.2.2.2).trans (HNFr.out o))
          rw [HD.out]
          exact fin5 (p := pk0) HP0s.out hB2 rfl rfl rfl (rowE_none _)
        subst hx0
        have HBE : Hid (Bytes (encB ⟨c, i, s, k, ents j (l.drop 16)⟩)) := encB_bytes ⟨by simp only; omega, by simp only; omega, s0, by simp only; omega, k0, by simp only; omega, ents_ok (drop_b HBy.out 16) j⟩
        have HSE : Hid ((encB ⟨c, i, s, k, ents j (l.drop 16)⟩).length ≤ 816) := encB_short _
        obtain ⟨s1_, hs1⟩ : ∃ t, strOfNums (encB ⟨c, i, s, k, ents j (l.drop 16)⟩) = t := ⟨_, rfl⟩
        obtain ⟨s2_, hs2⟩ : ∃ t, strOfNums l = t := ⟨_, rfl⟩
        have HS1 : Hid (strOfNums (encB ⟨c, i, s, k, ents j (l.drop 16)⟩) = s1_) := hs1
        have HS2 : Hid (strOfNums l = s2_) := hs2
        by_cases hE : encB ⟨c, i, s, k, ents j (l.drop 16)⟩ = l
        · have HD : Hid (dec l = (⟨c, i, s, k, ents j (l.drop 16)⟩, 0)) := by unfold Hid; rw [HDD.out, HPK.out, if_pos ⟨hx, hE⟩]
          obtain rfl : s1_ = s2_ := by rw [← hs1, hE, hs2]
          clear hx hE hs1 hs2
          go_wp2_with (go_at_call 11; refine (refEncode_any c i s k ad j cp (ents j (l.drop 16)) _ HE.out (by omega) s0 (by omega) k0 (by omega)).mono ?_; rintro e_ W2 ⟨a2, m2, p2, rfl, own2, hb2⟩; rw [HX.out]; have HP0s : Hid (P5 W2 w.heap.size 0 false 0 0 none 0 0) := HP0r.out.later hb2; have HP1s := HP1r.out.later hb2; have HPs := HP.out.later hb2; have hB2 := stp HBw.out hb2; obtain ⟨z0, z1, z2, z3, z4, zz⟩ := HP0s.out; obtain ⟨v0, v1, v2, v3, v4, vz⟩ := HP1s; obtain ⟨⟨g0_, g1_, g2_, g3_, g4_, gz_⟩, gf_⟩ := HPs; have nfz : ∀ o, W2.frozen? ⟨w.heap.size, o, none⟩ = false := fun o => (hb2.frozen (p := ⟨w.heap.size, o, none⟩) HP0r.out.2.2.2.2.2).trans (HNFr.out o); have hm2 : m2 ≤ 816 := by { have h1 := own2.len; have h2 := HSE.out; omega }; have r1 := conv_any p2 (own2.row HBE.out (by omega)); have r2 := conv_any cap (HR.out.later hB2); rw [HS1.out] at r1; rw [HS2.out] at r2; have HOs : Hid (OwnE W2 (V.heap.size + 1) (.slice ad j cp) j (ents j (l.drop 16))) := HO.out.later hb2)
          rw [HD.out]
          exact fin5 (p := ⟨c, i, s, k, ents j (l.drop 16)⟩) HP0s.out hB2 rfl rfl rfl ((((((HOs.out.set (by omega)).set (by omega)).set (by omega)).set (by omega)).set (by omega)).row (ents_ok (drop_b HBy.out 16) j))
        · have HD : Hid (dec l = (pk0, 2)) := by unfold Hid; rw [HDD.out, HPK.out, if_neg (fun h => hE h.2)]
          have hne2 : (s1_.toList == s2_.toList) = false := by rw [beq_eq_false_iff_ne, ← hs1, ← hs2]; exact fun h => hE (str_inj HBE.out HBy.out (by rw [ByteArray.toList_eq, ByteArray.toList_eq] at h; exact ByteArray.ext (Array.ext' h)))
          clear hx hE hs1 hs2
          go_wp2_with (go_at_call 11; refine (refEncode_any c i s k ad j cp (ents j (l.drop 16)) _ HE.out (by omega) s0 (by omega) k0 (by omega)).mono ?_; rintro e_ W2 ⟨a2, m2, p2, rfl, own2, hb2⟩; rw [HX.out]; have HP0s : Hid (P5 W2 w.heap.size 0 false 0 0 none 0 0) := HP0r.out.later hb2; have HP1s := HP1r.out.later hb2; have HPs := HP.out.later hb2; have hB2 := stp HBw.out hb2; obtain ⟨z0, z1, z2, z3, z4, zz⟩ := HP0s.out; obtain ⟨v0, v1, v2, v3, v4, vz⟩ := HP1s; obtain ⟨⟨g0_, g1_, g2_, g3_, g4_, gz_⟩, gf_⟩ := HPs; have nfz : ∀ o, W2.frozen? ⟨w.heap.size, o, none⟩ = false := fun o => (hb2.frozen (p := ⟨w.heap.size, o, none⟩) HP0r.out.2.2.2.2.2).trans (HNFr.out o); have hm2 : m2 ≤ 816 := by { have h1 := own2.len; have h2 := HSE.out; omega }; have r1 := conv_any p2 (own2.row HBE.out (by omega)); have r2 := conv_any cap (HR.out.later hB2); rw [HS1.out] at r1; rw [HS2.out] at r2)
          rw [HD.out]
          exact fin5 (p := pk0) HP0s.out hB2 rfl rfl rfl (rowE_none _)
end Go.Proofs.Ytnlgdkbpolckcaa
