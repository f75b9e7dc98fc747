/- The contract of readAsk. -/
import Derived.Deep.Cut
import Derived.Test.YtakikkigkmcffaaCD6
namespace Go.Proofs.Ytakikkigkmcffaa
open Go.RowKit

set_option maxHeartbeats 1000000 in
theorem readAsk_any (b off n cap : Nat) (l : List Int) (w : World) (hr : Row8 w (some ⟨b, off, none⟩) n l) (hn : n ≤ 255) (hc : n ≤ cap) {v : Bool} (hv : askOk l = v) :
    Calls Try.prog 64 #[.slice (some ⟨b, off, none⟩) n cap] w (Asked w v (askT l)) := by
  subst hv
  have HR : Hid (Row8 w (some ⟨b, off, none⟩) n l) := hr
  have HL : Hid (l.length = n) := hr.1
  by_cases h2 : n < 2
  · have HF : Hid (askOk l = false) := ask_head (by unfold askHead; rw [decide_eq_false (by rw [HL.out]; omega)]; rfl)
    clear hr
    go_enter Try.func64, Try.ntmps64
    go_wp2
    rw [HF.out]
    exact bodyPost_ret (v := .tuple #[valT 0 0 0 0 0 0 0 0 0, .bool false]) (by simp [results, Try.results64, go_sem]) rfl ⟨0, 0, 0, 0, 0, 0, 0, 0, 0, rfl, (fun h => by cases h), zero_ok, below1 _ _⟩
  obtain ⟨b_, off_, he_, hcell⟩ := hr.at (by omega)
  simp only [Option.some.injEq, Addr.mk.injEq, and_true] at he_
  obtain ⟨rfl, rfl⟩ := he_
  have d0 := hcell 0 (by omega)
  have d1 := hcell 1 (by omega)
  rw [Nat.add_zero] at d0
  have E0 : Hid (at8 l 0 = l[0]?.getD 0) := rfl
  have E1 : Hid (at8 l 1 = l[1]?.getD 0) := rfl
  have y1b := hr.2.2.1.at 1
  generalize l[0]?.getD 0 = x at d0 E0
  generalize l[1]?.getD 0 = y at d1 E1 y1b
  obtain ⟨y0, y1⟩ := y1b
  have hbz : b < w.heap.size := block_lt_of_cell d0
  have hbn : b ≠ w.heap.size := by omega
  have hbn1 : b ≠ w.heap.size + 1 := by omega
  have hbn2 : w.heap.size + 1 ≠ b := by omega
  have i0 : 0 < n := by omega
  have i1 : 1 < n := by omega
  have j0 : (0 : Int) < (n : Int) := by omega
  have j1 : (1 : Int) < (n : Int) := by omega
  have HRow : Hid (_) := hr.rest 2 cap (by omega) hc b off rfl
  clear hr hcell
  by_cases hx : x = 1
  · subst hx
    have HH : Hid (askHead l = true) := by unfold Hid askHead; rw [E0.out, HL.out]; simp; omega
    have HDL : Hid ((l.drop 2).length = n - 2) := by unfold Hid; rw [List.length_drop, HL.out]
    have ey : IntKind.i64.wrap y = y := wrap_in (by omega) (by omega)
    have j2 : (2 : Int) ≤ (n : Int) := by omega
    have j3 : (n : Int) ≤ (cap : Int) := by omega
    have j4 : (2 : Int) ≤ (cap : Int) := by omega
    obtain ⟨vb, hvb⟩ : ∃ vb, pfxOk 0 y 0 (l.drop 2) = vb := ⟨_, rfl⟩
    have HVB : Hid (pfxOk 0 y 0 (l.drop 2) = vb) := hvb
    have HV : Hid (askOk l = (vb && decide (n - 2 = nd y))) := by
      unfold Hid; rw [ask_is HH.out (v := vb) (by rw [E1.out, hvb]) HDL.out, E1.out]
    have HT : Hid (askT l = ⟨3, 0, 0, 0, mix 0 0 ((l.drop 2).take (nd y)), y, 0, 0, 0⟩) := by unfold Hid askT; rw [E1.out]
    have HLe : Hid (vb = true → nd y ≤ n - 2) := by
      intro h; have h' := hvb.trans h; unfold pfxOk at h'; simp only [Bool.and_eq_true, decide_eq_true_eq] at h'; have := h'.1.2; rw [HDL.out] at this; omega
    clear hvb
    by_cases hc2 : cap = 2
    · obtain rfl : n = 2 := by omega
      subst hc2
      have HRw : Hid (Row8 w (some ⟨b, off, none⟩) 0 (l.drop 2)) := by have := HRow.out; rw [if_pos rfl] at this; exact this
      go_enter Try.func64, Try.ntmps64
      go_wp2
      go_cut [4, 5, 6] from 7 (fun s4 s5 s6 wx => ∃ P z5 y5 ra5 q5 c5, s4 = .pointer (some ⟨P, 0, none⟩) ∧ s5 = .slice ra5 q5 c5 ∧ s6 = .bool vb ∧ PV 0 y 0 b (off) (0) (0) (l.drop 2) vb z5 y5 ra5 q5 c5 ∧ PfxAt (w.alloc objZ) z5 y5 P wx)
      case first =>
        go_region_held3 (fun w' => w'.cell? ⟨b, off + 1, none⟩ = some (.int .u8 y)) (first | exact q1 | go_keep)
          ((go_at_call 70; refine (readPrefix_any0 0 y b off 0 0 (l.drop 2) _ (HRw.out.later (by first | exact (below1 _ _).drew | exact (below2 _ _ _).drew)) (by omega) (by omega) (by decide) (by decide) y0 (by omega) HVB.out).mono ?_; rintro e W1 ⟨z5, y5, ra5, q5, c5, rfl, hb1, hPV⟩; first | (have PA := pre_a (N := w.heap.size + 1) (by simp) hb1; have PA' := PA; obtain ⟨c0, c1, cf, cz, hB1⟩ := PA'; have q1 := cell_later (Below.out1 hB1) d1) | (have PB := hb1; have hB1 : Below w.heap.size w W1 := Below.out1 ((Below.refl _ _).drew.trans hb1); have q1 := cell_later hB1 d1)))
        all_goals
          go_wp2_with fail
          go_meet
          first | exact ⟨_, _, _, _, _, _, rfl, rfl, rfl, hPV, pfx_b z5 y5 PB⟩ | exact ⟨_, _, _, _, _, _, rfl, rfl, rfl, hPV, pfx_a z5 y5 (by simp) PA⟩
      case rest =>
        obtain ⟨P, z5, y5, ra5, q5, c5', rfl, rfl, rfl, hPV, hP⟩ := hcut
        obtain ⟨F1, nf, lt1, hB1, ne1, ne2⟩ := hP.res
        obtain ⟨p0, p1, -, -, -⟩ := hP
        obtain ⟨c0, c1, c2, c3, c4, c5, c6, c7, c8⟩ := F1.z
        obtain ⟨zz0, zz1, yy0, yy1, hT⟩ := hPV
        have HOK : Hid (Tlv.Ok ⟨3, 0, 0, 0, z5, y5, 0, 0, 0⟩) := by unfold Hid; constructor <;> simp only <;> omega
        cases vb
        · clear hT
          have HA : Hid (askOk l = false) := by unfold Hid; rw [HV.out]; rfl
          go_wp2
          rw [HA.out]
          refine bodyPost_ret (v := .tuple #[valT 3 0 0 0 z5 y5 0 0 0, .bool false]) (by simp [results, Try.results64, go_sem, c0, c1, c2, c3, c4, c5, c6, c7, c8]) rfl ⟨3, 0, 0, 0, z5, y5, 0, 0, 0, rfl, (fun h => by cases h), HOK.out, ?_⟩
          exact (((((((((hB1.setCell (Nat.le_refl _) _).setCell (Nat.le_refl _) _).setCell (Nat.le_refl _) _).setCell (Nat.le_refl _) _).setCell (Nat.le_refl _) _).setCell (Nat.le_refl _) _).setCell (Nat.le_refl _) _).setCell (Nat.le_refl _) _).setCell (Nat.le_refl _) _)
        · obtain ⟨hz, hy, hq5, -, -⟩ := hT rfl
          clear hT
          rw [Nat.sub_zero] at hz hq5
          have hle := HLe.out rfl
          by_cases hq : q5 = 0
          · have HA : Hid (askOk l = true) := by unfold Hid; rw [HV.out, decide_eq_true (by omega)]; rfl
            have HT' : Hid ((⟨3, 0, 0, 0, z5, y5, 0, 0, 0⟩ : Tlv) = askT l) := by unfold Hid; rw [HT.out, ← hz, ← hy]
            subst hq
            clear hz hy hq5 hle
            go_wp2
            rw [HA.out]
            refine bodyPost_ret (v := .tuple #[valT 3 0 0 0 z5 y5 0 0 0, .bool true]) (by simp [results, Try.results64, go_sem, c0, c1, c2, c3, c4, c5, c6, c7, c8]) rfl ⟨3, 0, 0, 0, z5, y5, 0, 0, 0, rfl, (fun _ => HT'.out), HOK.out, ?_⟩
            exact (((((((((hB1.setCell (Nat.le_refl _) _).setCell (Nat.le_refl _) _).setCell (Nat.le_refl _) _).setCell (Nat.le_refl _) _).setCell (Nat.le_refl _) _).setCell (Nat.le_refl _) _).setCell (Nat.le_refl _) _).setCell (Nat.le_refl _) _).setCell (Nat.le_refl _) _)
          · have e5 : ((q5 : Int) == 0) = false := by rw [beq_eq_false_iff_ne]; omega
            have HA : Hid (askOk l = false) := by unfold Hid; rw [HV.out, decide_eq_false (by omega)]; rfl
            clear hz hy hq5 hle
            go_wp2
            rw [HA.out]
            refine bodyPost_ret (v := .tuple #[valT 3 0 0 0 z5 y5 0 0 0, .bool false]) (by simp [results, Try.results64, go_sem, c0, c1, c2, c3, c4, c5, c6, c7, c8]) rfl ⟨3, 0, 0, 0, z5, y5, 0, 0, 0, rfl, (fun h => by cases h), HOK.out, ?_⟩
            exact (((((((((hB1.setCell (Nat.le_refl _) _).setCell (Nat.le_refl _) _).setCell (Nat.le_refl _) _).setCell (Nat.le_refl _) _).setCell (Nat.le_refl _) _).setCell (Nat.le_refl _) _).setCell (Nat.le_refl _) _).setCell (Nat.le_refl _) _).setCell (Nat.le_refl _) _)
    · have HRw : Hid (Row8 w (some ⟨b, off + 2, none⟩) (n - 2) (l.drop 2)) := by have := HRow.out; rw [if_neg (by omega)] at this; exact this
      go_enter Try.func64, Try.ntmps64
      go_wp2
      go_cut [4, 5, 6] from 7 (fun s4 s5 s6 wx => ∃ P z5 y5 ra5 q5 c5, s4 = .pointer (some ⟨P, 0, none⟩) ∧ s5 = .slice ra5 q5 c5 ∧ s6 = .bool vb ∧ PV 0 y 0 b (off + 2) (n - 2) (cap - 2) (l.drop 2) vb z5 y5 ra5 q5 c5 ∧ PfxAt (w.alloc objZ) z5 y5 P wx)
      case first =>
        go_region_held3 (fun w' => w'.cell? ⟨b, off + 1, none⟩ = some (.int .u8 y)) (first | exact q1 | go_keep)
          ((go_at_call 70; refine (readPrefix_any0 0 y b (off + 2) (n - 2) (cap - 2) (l.drop 2) _ (HRw.out.later (by first | exact (below1 _ _).drew | exact (below2 _ _ _).drew)) (by omega) (by omega) (by decide) (by decide) y0 (by omega) HVB.out).mono ?_; rintro e W1 ⟨z5, y5, ra5, q5, c5, rfl, hb1, hPV⟩; first | (have PA := pre_a (N := w.heap.size + 1) (by simp) hb1; have PA' := PA; obtain ⟨c0, c1, cf, cz, hB1⟩ := PA'; have q1 := cell_later (Below.out1 hB1) d1) | (have PB := hb1; have hB1 : Below w.heap.size w W1 := Below.out1 ((Below.refl _ _).drew.trans hb1); have q1 := cell_later hB1 d1)))
        all_goals
          go_wp2_with fail
          go_meet
          first | exact ⟨_, _, _, _, _, _, rfl, rfl, rfl, hPV, pfx_b z5 y5 PB⟩ | exact ⟨_, _, _, _, _, _, rfl, rfl, rfl, hPV, pfx_a z5 y5 (by simp) PA⟩
      case rest =>
        obtain ⟨P, z5, y5, ra5, q5, c5', rfl, rfl, rfl, hPV, hP⟩ := hcut
        obtain ⟨F1, nf, lt1, hB1, ne1, ne2⟩ := hP.res
        obtain ⟨p0, p1, -, -, -⟩ := hP
        obtain ⟨c0, c1, c2, c3, c4, c5, c6, c7, c8⟩ := F1.z
        obtain ⟨zz0, zz1, yy0, yy1, hT⟩ := hPV
        have HOK : Hid (Tlv.Ok ⟨3, 0, 0, 0, z5, y5, 0, 0, 0⟩) := by unfold Hid; constructor <;> simp only <;> omega
        cases vb
        · clear hT
          have HA : Hid (askOk l = false) := by unfold Hid; rw [HV.out]; rfl
          go_wp2
          rw [HA.out]
          refine bodyPost_ret (v := .tuple #[valT 3 0 0 0 z5 y5 0 0 0, .bool false]) (by simp [results, Try.results64, go_sem, c0, c1, c2, c3, c4, c5, c6, c7, c8]) rfl ⟨3, 0, 0, 0, z5, y5, 0, 0, 0, rfl, (fun h => by cases h), HOK.out, ?_⟩
          exact (((((((((hB1.setCell (Nat.le_refl _) _).setCell (Nat.le_refl _) _).setCell (Nat.le_refl _) _).setCell (Nat.le_refl _) _).setCell (Nat.le_refl _) _).setCell (Nat.le_refl _) _).setCell (Nat.le_refl _) _).setCell (Nat.le_refl _) _).setCell (Nat.le_refl _) _)
        · obtain ⟨hz, hy, hq5, -, -⟩ := hT rfl
          clear hT
          rw [Nat.sub_zero] at hz hq5
          have hle := HLe.out rfl
          by_cases hq : q5 = 0
          · have HA : Hid (askOk l = true) := by unfold Hid; rw [HV.out, decide_eq_true (by omega)]; rfl
            have HT' : Hid ((⟨3, 0, 0, 0, z5, y5, 0, 0, 0⟩ : Tlv) = askT l) := by unfold Hid; rw [HT.out, ← hz, ← hy]
            subst hq
            clear hz hy hq5 hle
            go_wp2
            rw [HA.out]
            refine bodyPost_ret (v := .tuple #[valT 3 0 0 0 z5 y5 0 0 0, .bool true]) (by simp [results, Try.results64, go_sem, c0, c1, c2, c3, c4, c5, c6, c7, c8]) rfl ⟨3, 0, 0, 0, z5, y5, 0, 0, 0, rfl, (fun _ => HT'.out), HOK.out, ?_⟩
            exact (((((((((hB1.setCell (Nat.le_refl _) _).setCell (Nat.le_refl _) _).setCell (Nat.le_refl _) _).setCell (Nat.le_refl _) _).setCell (Nat.le_refl _) _).setCell (Nat.le_refl _) _).setCell (Nat.le_refl _) _).setCell (Nat.le_refl _) _).setCell (Nat.le_refl _) _)
          · have e5 : ((q5 : Int) == 0) = false := by rw [beq_eq_false_iff_ne]; omega
            have HA : Hid (askOk l = false) := by unfold Hid; rw [HV.out, decide_eq_false (by omega)]; rfl
            clear hz hy hq5 hle
            go_wp2
            rw [HA.out]
            refine bodyPost_ret (v := .tuple #[valT 3 0 0 0 z5 y5 0 0 0, .bool false]) (by simp [results, Try.results64, go_sem, c0, c1, c2, c3, c4, c5, c6, c7, c8]) rfl ⟨3, 0, 0, 0, z5, y5, 0, 0, 0, rfl, (fun h => by cases h), HOK.out, ?_⟩
            exact (((((((((hB1.setCell (Nat.le_refl _) _).setCell (Nat.le_refl _) _).setCell (Nat.le_refl _) _).setCell (Nat.le_refl _) _).setCell (Nat.le_refl _) _).setCell (Nat.le_refl _) _).setCell (Nat.le_refl _) _).setCell (Nat.le_refl _) _).setCell (Nat.le_refl _) _)
  · have HF : Hid (askOk l = false) := ask_head (by unfold askHead; rw [E0.out]; simp [hx])
    have ex : (x != 1) = true := by simpa using hx
    clear hx HRow
    go_enter Try.func64, Try.ntmps64
    go_wp2
    rw [HF.out]
    exact bodyPost_ret (v := .tuple #[valT 0 0 0 0 0 0 0 0 0, .bool false]) (by simp [results, Try.results64, go_sem]) rfl ⟨0, 0, 0, 0, 0, 0, 0, 0, 0, rfl, (fun h => by cases h), zero_ok, below1 _ _⟩
end Go.Proofs.Ytakikkigkmcffaa
