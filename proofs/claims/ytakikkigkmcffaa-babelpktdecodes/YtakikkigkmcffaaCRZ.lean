/- The document's reader, and a part in a block. -/
import Derived.Test.YtakikkigkmcffaaCR2
import Derived.Test.YtakikkigkmcffaaCDZ
import Derived.Test.YtakikkigkmcffaaCDR
import Derived.Deep.Cut
import Derived.Deep.RegionLaw
import Derived.Test.YtakikkigkmcffaaCD9
namespace Go.Proofs.Ytakikkigkmcffaa
open Go.RowKit

/-- The reader, and a part p in block M; what stood behind the reader stands as it was. -/
def BR (w W1 : World) (N M : Nat) (K : Kn) (ad : Option Addr) (k cp : Nat) (p : Tlv) : Prop :=
  RR W1 N K ad k cp ∧ Below N w W1 ∧ (∀ j, N < j → j < w.heap.size → W1.heap[j]? = w.heap[j]?) ∧ T9 W1 M 0 p ∧ (∀ o, W1.frozen? ⟨M, o, none⟩ = false) ∧ M < W1.heap.size ∧ w.heap.size ≤ M ∧ N < w.heap.size
section
variable {w W1 W2 : World} {N M : Nat} {K : Kn} {ad : Option Addr} {k cp : Nat} {p : Tlv}
theorem BR.later (h : BR w W1 N M K ad k cp p) (hb : Below W1.heap.size W1 W2) : BR w W2 N M K ad k cp p := by
  obtain ⟨hF, hB, hj, hT, hf, hz, hM, hN⟩ := h
  have hs := hB.size
  exact ⟨hF.later hb, hB.trans (hb.mono (by omega)), fun j h1 h2 => (hb.block j (by omega)).trans (hj j h1 h2), hT.later hb, fun o => (hb.frozen (p := ⟨M, o, none⟩) hz).trans (hf o), Nat.lt_of_lt_of_le hz hb.size, hM, hN⟩
theorem BR.own {es : List Tlv} (h : BR w W1 N M K ad k cp p) (hO : OwnT w (N + 1) (.slice ad k cp) k es) : OwnT W1 (N + 1) (.slice ad k cp) k es := hO.mid0 h.2.2.1
/-- A new part. -/
theorem BR.new (hF : RR w N K ad k cp) (hb : Below w.heap.size w W1) (k9 s i c a l r t h : Int) : BR w (W1.alloc (objT k9 s i c a l r t h)) N W1.heap.size K ad k cp ⟨k9, s, i, c, a, l, r, t, h⟩ := by
  have hz := hF.2.2.2.2.2
  have hs := hb.size
  have hb2 := hb.trans ((below1 W1 (objT k9 s i c a l r t h)).mono hs)
  exact ⟨hF.later hb2, hb2.mono (Nat.le_of_lt hz), fun j _ hj => hb2.block j hj, T9.new W1 k9 s i c a l r t h, fun o => by simp [go_sem], by simp, hs, hz⟩
/-- A cell of the part is turned. -/
theorem BR.setc (h : BR w W1 N M K ad k cp p) (o : Nat) (v : Value) {p' : Tlv} (hT : T9 (W1.setCell ⟨M, o, none⟩ v) M 0 p') : BR w (W1.setCell ⟨M, o, none⟩ v) N M K ad k cp p' := by
  obtain ⟨hF, hB, hj, -, hf, hz, hM, hN⟩ := h
  have hb : Below M W1 (W1.setCell ⟨M, o, none⟩ v) := (Below.refl M W1).setCell (p := ⟨M, o, none⟩) (Nat.le_refl _) v
  exact ⟨hF.lift hb (by omega), hB.trans (hb.mono (by omega)), fun j h1 h2 => (setCell_block _ _ _ j (by show M ≠ j; omega)).trans (hj j h1 h2), hT, fun o => by simp [go_sem, hf], by simpa using hz, hM, hN⟩
/-- The address of the reader is turned. -/
theorem BR.setA (h : BR w W1 N M K ad k cp p) (x : Int) : BR w (W1.setCell ⟨N, 2, none⟩ (.int .u32 x)) N M ⟨K.told, K.r, x⟩ ad k cp p := by
  obtain ⟨hF, hB, hj, hT, hf, hz, hM, hN⟩ := h
  refine ⟨hF.setA x, hB.setCell (p := ⟨N, 2, none⟩) (Nat.le_refl _) _, fun j h1 h2 => (setCell_block _ _ _ j (by show N ≠ j; omega)).trans (hj j h1 h2), hT.far fun o => World.cell?_setCell_far _ _ _ _ (by show N ≠ M; omega), fun o => ?_, by simpa using hz, hM, hN⟩
  have := setCell_block W1 ⟨N, 2, none⟩ (.int .u32 x) M (by show N ≠ M; omega)
  rw [World.frozen?_of_block this]
  exact hf o
end
theorem T9.set4 {W : World} {M : Nat} {k s i c a l r t h : Int} (hT : T9 W M 0 ⟨k, s, i, c, a, l, r, t, h⟩) (z y : Int) : T9 ((W.setCell ⟨M, 4, none⟩ (.int .u32 z)).setCell ⟨M, 5, none⟩ (.int .i64 y)) M 0 ⟨k, s, i, c, z, y, r, t, h⟩ := by
  obtain ⟨c0, c1, c2, c3, c4, c5, c6, c7, c8⟩ := hT.z
  unfold T9
  simp [go_sem, c0, c1, c2, c3, c4, c5, c6, c7, c8]
theorem BR.pfx {w W1 : World} {N M : Nat} {K : Kn} {ad : Option Addr} {k cp : Nat} {k9 s i c a l r t h : Int} (hb : BR w W1 N M K ad k cp ⟨k9, s, i, c, a, l, r, t, h⟩) (z y : Int) : BR w ((W1.setCell ⟨M, 4, none⟩ (.int .u32 z)).setCell ⟨M, 5, none⟩ (.int .i64 y)) N M K ad k cp ⟨k9, s, i, c, z, y, r, t, h⟩ := by
  have h1 : T9 (W1.setCell ⟨M, 4, none⟩ (.int .u32 z)) M 0 ⟨k9, s, i, c, z, l, r, t, h⟩ := by
    obtain ⟨c0, c1, c2, c3, c4, c5, c6, c7, c8⟩ := hb.2.2.2.1.z
    unfold T9
    simp [go_sem, c0, c1, c2, c3, c4, c5, c6, c7, c8]
  exact (hb.setc 4 _ h1).setc 5 _ (hb.2.2.2.1.set4 z y)
theorem BR.all {w W1 : World} {N M : Nat} {K : Kn} {ad : Option Addr} {k cp : Nat} {p : Tlv} (hb : BR w W1 N M K ad k cp p) (k9 s i c a l r t h : Int) : BR w (put9 W1 M k9 s i c a l r t h) N M K ad k cp ⟨k9, s, i, c, a, l, r, t, h⟩ := by
  have hT := put9_T hb.2.2.2.1 k9 s i c a l r t h
  obtain ⟨hF, hB, hj, -, hf, hz, hM, hN⟩ := hb
  refine ⟨hF.lift (put9_b (Below.refl M W1) (Nat.le_refl _) _ _ _ _ _ _ _ _ _) (by omega), put9_b hB (by omega) _ _ _ _ _ _ _ _ _, fun j h1 h2 => ?_, hT, fun o => by simp [go_sem, hf], by simpa using hz, hM, hN⟩
  unfold put9
  iterate 9 rw [setCell_block _ _ _ j (by show M ≠ j; omega)]
  exact hj j h1 h2
theorem rp_is {y : Int} {L : List Int} : (pfxOk 0 y 0 L && decide (L.length = nd y)) = rpOk y L := by
  unfold pfxOk rpOk
  by_cases h : L.length = nd y
  · have e : L.take (nd y - 0) = L := by rw [Nat.sub_zero, ← h]; exact List.take_length
    rw [e]
    simp [h]
  · simp [h]
theorem rp_take {y : Int} {L : List Int} (h : rpOk y L = true) : L.take (nd y) = L := by
  unfold rpOk at h
  simp only [Bool.and_eq_true, decide_eq_true_eq] at h
  rw [← h.1.2]
  exact List.take_length
theorem ask_rp {S : St} {l : List Int} (h : askHead l = true) {y : Int} (hy : at8 l 1 = y) {v : Bool} (hv : rpOk y (l.drop 2) = v) : tk S 9 l = if v = true then some (S.add ⟨3, 0, 0, 0, mix 0 0 (l.drop 2), y, 0, 0, 0⟩) else none := by
  have e : askOk l = v := by unfold askOk; rw [h, hy, Bool.true_and, rp_is, hv]
  unfold tk
  rw [if_neg (by decide), if_neg (by decide), if_neg (by decide), if_neg (by decide), if_pos rfl, e]
  cases v
  · rfl
  · unfold askT; rw [hy, rp_take hv]
theorem ask_no {S : St} {l : List Int} (h : askHead l = false) : tk S 9 l = none := by
  unfold tk
  rw [if_neg (by decide), if_neg (by decide), if_neg (by decide), if_neg (by decide), if_pos rfl]
  unfold askOk; rw [h]; simp
theorem seq_rp {S : St} {l : List Int} (h : seqHead l = true) {y s r hp : Int} (hy : at8 l 1 = y) (hs : getV l 2 2 = s) (hr : v8 l 6 = r) (hh : at8 l 4 = hp) {v : Bool} (hv : rpOk y (l.drop 14) = v) : tk S 10 l = if v = true then some (S.add ⟨4, s, 0, 0, mix 0 0 (l.drop 14), y, r, 0, hp⟩) else none := by
  have e : seqOk l = v := by unfold seqOk; rw [h, hy, Bool.true_and, rp_is, hv]
  unfold tk
  rw [if_neg (by decide), if_neg (by decide), if_neg (by decide), if_neg (by decide), if_neg (by decide), if_pos rfl, e]
  cases v
  · rfl
  · unfold seqT; rw [hy, hs, hr, hh, rp_take hv]
theorem seq_no {S : St} {l : List Int} (h : seqHead l = false) : tk S 10 l = none := by
  unfold tk
  rw [if_neg (by decide), if_neg (by decide), if_neg (by decide), if_neg (by decide), if_neg (by decide), if_pos rfl]
  unfold seqOk; rw [h]; simp
/-- A prefix in a block of its own, and the part. -/
theorem BR.pfxAt {w V wx : World} {N M P : Nat} {K : Kn} {ad : Option Addr} {k cp : Nat} {p : Tlv} {z y : Int} (hb : BR w V N M K ad k cp p) (h : PfxAt V z y P wx) : BR w wx N M K ad k cp p := hb.later h.2.2.2.2
end Go.Proofs.Ytakikkigkmcffaa
/- The document's ask. -/
namespace Go.Proofs.Ytakikkigkmcffaa
open Go.RowKit

set_option maxRecDepth 8000 in
set_option maxHeartbeats 4000000 in
theorem ask_9 (N : Nat) (S : St) (ad : Option Addr) (k cp : Nat) (b off n cap : Nat) (l : List Int) (w : World) (hF : RR w N S.kn ad k cp) (hO : OwnT w (N + 1) (.slice ad k cp) k S.ps) (hk : k ≤ 5000) (hr : Row8 w (some ⟨b, off, none⟩) n l) (hn : n ≤ 255) (hc : n ≤ cap) :
    Calls Try.prog 54 #[.pointer (some ⟨N, 0, none⟩), .int .u8 9, .slice (some ⟨b, off, none⟩) n cap] w (Took w N (tk S 9 l)) := by
  have HR : Hid (Row8 w (some ⟨b, off, none⟩) n l) := hr
  have HL : Hid (l.length = n) := hr.1
  have HF : Hid (RR w N S.kn ad k cp) := hF
  have HO : Hid (OwnT w (N + 1) (.slice ad k cp) k S.ps) := hO
  have hz : N < w.heap.size := hF.2.2.2.2.2
  clear hF hO
  by_cases h2 : n < 2
  · have HT : Hid (tk S 9 l = none) := ask_no (by unfold askHead; rw [HL.out, decide_eq_false (by omega)]; rfl)
    have i2 : (n : Int) < 2 := by omega
    clear hr
    go_enter Try.func54, Try.ntmps54
    go_wp2
    go_ret
    rw [HT.out]
    exact ⟨rfl, Below.refl _ _⟩
  have j2 : ¬ (n : Int) < 2 := by omega
  obtain ⟨b_, off_, he_, hcell⟩ := hr.at (by omega)
  simp only [Option.some.injEq, Addr.mk.injEq, and_true] at he_
  obtain ⟨rfl, rfl⟩ := he_
  have d0 := hcell 0 (by omega)
  have d1 := hcell 1 (by omega)
  rw [Nat.add_zero] at d0
  have E0 : Hid (at8 l 0 = l[0]?.getD 0) := rfl
  have E1 : Hid (at8 l 1 = l[1]?.getD 0) := rfl
  have y1b := hr.2.2.1.at 1
  generalize l[0]?.getD 0 = x at d0 E0
  generalize l[1]?.getD 0 = y at d1 E1 y1b
  obtain ⟨y0, y1⟩ := y1b
  have hbz : b < w.heap.size := block_lt_of_cell d0
  have hbn : b ≠ w.heap.size := by omega
  have hbn1 : b ≠ w.heap.size + 1 := by omega
  have hbn2 : w.heap.size + 1 ≠ b := by omega
  have hbn3 : w.heap.size ≠ b := by omega
  have i0 : 0 < n := by omega
  have i1 : 1 < n := by omega
  have j0 : (0 : Int) < (n : Int) := by omega
  have j1 : (1 : Int) < (n : Int) := by omega
  by_cases hx : x = 1
  case neg =>
    have HT : Hid (tk S 9 l = none) := ask_no (by unfold askHead; rw [E0.out, (by simpa using hx : (x == 1) = false)]; simp)
    have ex : (x != 1) = true := by simpa using hx
    clear hr hx hcell
    go_enter Try.func54, Try.ntmps54
    go_wp2
    go_ret
    rw [HT.out]
    exact ⟨rfl, Below.refl _ _⟩
  subst hx
  have ey : IntKind.i64.wrap y = y := wrap_in (by omega) (by omega)
  have HH : Hid (askHead l = true) := by unfold Hid askHead; rw [E0.out, HL.out]; simp; omega
  obtain ⟨vb, hvb⟩ : ∃ vb, rpOk y (l.drop 2) = vb := ⟨_, rfl⟩
  have HVB : Hid (rpOk y (l.drop 2) = vb) := hvb
  have HT : Hid (tk S 9 l = _) := ask_rp (S := S) HH.out E1.out hvb
  have HBV : Hid (BR w (w.alloc (objT 3 0 0 0 0 0 0 0 0)) N w.heap.size S.kn ad k cp ⟨3, 0, 0, 0, 0, 0, 0, 0, 0⟩) := BR.new HF.out (Below.refl _ _) 3 0 0 0 0 0 0 0 0
  have HD1 : Hid ((w.alloc (objT 3 0 0 0 0 0 0 0 0)).cell? ⟨b, off + 1, none⟩ = some (.int .u8 y)) := cell_later (below1 _ _) d1
  have j3 : (n : Int) ≤ (cap : Int) := by omega
  have j4 : (2 : Int) ≤ (n : Int) := by omega
  have j5 : (2 : Int) ≤ (cap : Int) := by omega
  have HRow : Hid (_) := hr.rest 2 cap (by omega) hc b off rfl
  clear hr hcell hvb
  by_cases hc2 : cap = 2
  · obtain rfl : n = 2 := by omega
    subst hc2
    have HRV : Hid (Row8 (w.alloc (objT 3 0 0 0 0 0 0 0 0)) (some ⟨b, off, none⟩) 0 (l.drop 2)) := by have := HRow.out; rw [if_pos rfl] at this; exact Row8.later this (below1 _ _)
    clear HRow
    go_enter Try.func54, Try.ntmps54
    go_wp2
    go_cut [9, 10] from 11 (fun s9 s10 wx => ∃ P z5 y5, s9 = .pointer (some ⟨P, 0, none⟩) ∧ s10 = .bool vb ∧ (vb = true → z5 = mix 0 0 (l.drop 2) ∧ y5 = y) ∧ (0 ≤ z5 ∧ z5 < 4294967296 ∧ 0 ≤ y5 ∧ y5 ≤ 255) ∧ PfxAt (w.alloc (objT 3 0 0 0 0 0 0 0 0)) z5 y5 P wx)
    case first =>
      go_region_held3 (fun w' => w'.cell? ⟨b, off + 1, none⟩ = some (.int .u8 y)) (first | exact q1 | go_keep)
        ((go_at_call 67; refine (refPrefix_any y _ _ _ (l.drop 2) _ (HRV.out.later (by first | exact (Below.refl _ _).drew | exact (below1 _ _).drew)) (by omega) y0 y1 HVB.out).mono ?_; rintro e W1 ⟨z5, y5, rfl, h5, b0, b1, b2, b3, hb1⟩; first | (have PA := pre_a (N := w.heap.size + 1) (by simp) hb1; have PA' := PA; obtain ⟨c0, c1, cf, cz, hB1⟩ := PA'; have q1 := cell_later hB1 HD1.out) | (have PB := hb1; have hB1 := (Below.refl (w.alloc (objT 3 0 0 0 0 0 0 0 0)).heap.size (w.alloc (objT 3 0 0 0 0 0 0 0 0))).drew.trans hb1; have q1 := cell_later hB1 HD1.out)))
      all_goals
        go_wp2_with fail
        go_meet
        first | exact ⟨_, _, _, rfl, rfl, h5, ⟨b0, b1, b2, b3⟩, pfx_b z5 y5 PB⟩ | exact ⟨_, _, _, rfl, rfl, h5, ⟨b0, b1, b2, b3⟩, pfx_a z5 y5 (by simp) PA⟩
    case rest =>
      obtain ⟨P, z5, y5, rfl, rfl, h5, ⟨b0, b1, b2, b3⟩, hP⟩ := hcut
      have HB1 : Hid (BR w wc N w.heap.size S.kn ad k cp ⟨3, 0, 0, 0, 0, 0, 0, 0, 0⟩) := HBV.out.pfxAt hP
      obtain ⟨q0, q1, -, -, -⟩ := hP
      have H5 : Hid (_) := h5
      have HOK : Hid (Tlv.Ok ⟨3, 0, 0, 0, z5, y5, 0, 0, 0⟩) := by unfold Hid; constructor <;> simp only <;> omega
      obtain ⟨-, -, -, hT1, nf, lt1, -, -⟩ := HB1.out
      obtain ⟨c0, c1, c2, c3, c4, c5, c6, c7, c8⟩ := hT1.z
      clear hT1 h5
      go_wp2
      obtain ⟨W2, hW2⟩ : ∃ W2, W2 = (wc.setCell ⟨w.heap.size, 4, none⟩ (.int .u32 z5)).setCell ⟨w.heap.size, 5, none⟩ (.int .i64 y5) := ⟨_, rfl⟩
      rw [← hW2]
      have HB2 : Hid (BR w W2 N w.heap.size S.kn ad k cp ⟨3, 0, 0, 0, z5, y5, 0, 0, 0⟩) := by unfold Hid; rw [hW2]; exact HB1.out.pfx z5 y5
      clear hW2 c0 c1 c2 c3 c4 c5 c6 c7 c8 nf lt1 q0 q1
      obtain ⟨⟨f0, f1, f2, f3, ff, fz⟩, -, -, hT2, nf2, lt2, -, hN⟩ := HB2.out
      obtain ⟨c0, c1, c2, c3, c4, c5, c6, c7, c8⟩ := hT2.z
      clear hT2
      go_region_law
        (first
          | (refine step_appT _ (by rfl) _ _ 22 (by rfl) (N + 1) Try.underlying22 info44 _ k S.ps (by rfl) ((HB2.out.own HO.out).later (below1 _ _).drew) _ 1 1 [⟨3, 0, 0, 0, z5, y5, 0, 0, 0⟩] (by rfl) (rowT_one ((T9.newAt W2 W2.heap.size rfl 3 0 0 0 z5 y5 0 0 0).later (Below.refl _ _).drew) rfl HOK.out) (k + 1) (by rfl) (S.ps ++ [⟨3, 0, 0, 0, z5, y5, 0, 0, 0⟩]) (by rfl) (by omega) (by simp [World.drew]; omega) ?_; intro a3 c3' W3 own3 hb3; have HF3 : Hid (RR W3 N S.kn ad k cp) := (HB2.out.1.later (below1 W2 (objT 3 0 0 0 z5 y5 0 0 0)).drew).lift hb3 (by omega); obtain ⟨g0, g1, g2, g3, gf, gz⟩ := HF3.out))
      all_goals
        go_wp2
        go_ret
        have hB3 : Below N w W3 := (HB2.out.2.1.trans ((below1 W2 (objT 3 0 0 0 z5 y5 0 0 0)).drew.mono (Nat.le_of_lt fz))).trans (hb3.mono (by omega))
        rw [HT.out]
        cases vb
        · exact ⟨rfl, hB3.setCell (p := ⟨N, 3, none⟩) (Nat.le_refl _) _⟩
        · obtain ⟨e5, e6⟩ := H5.out rfl
          rw [if_pos rfl, ← e5, ← e6]
          exact ⟨rfl, a3, k + 1, c3', RR.set3 HF3.out _ _ _, own3.set (by omega), hB3.setCell (p := ⟨N, 3, none⟩) (Nat.le_refl _) _⟩
  · have HRV : Hid (Row8 (w.alloc (objT 3 0 0 0 0 0 0 0 0)) (some ⟨b, off + 2, none⟩) (n - 2) (l.drop 2)) := by have := HRow.out; rw [if_neg (by omega)] at this; exact Row8.later this (below1 _ _)
    clear HRow
    go_enter Try.func54, Try.ntmps54
    go_wp2
    go_cut [9, 10] from 11 (fun s9 s10 wx => ∃ P z5 y5, s9 = .pointer (some ⟨P, 0, none⟩) ∧ s10 = .bool vb ∧ (vb = true → z5 = mix 0 0 (l.drop 2) ∧ y5 = y) ∧ (0 ≤ z5 ∧ z5 < 4294967296 ∧ 0 ≤ y5 ∧ y5 ≤ 255) ∧ PfxAt (w.alloc (objT 3 0 0 0 0 0 0 0 0)) z5 y5 P wx)
    case first =>
      go_region_held3 (fun w' => w'.cell? ⟨b, off + 1, none⟩ = some (.int .u8 y)) (first | exact q1 | go_keep)
        ((go_at_call 67; refine (refPrefix_any y _ _ _ (l.drop 2) _ (HRV.out.later (by first | exact (Below.refl _ _).drew | exact (below1 _ _).drew)) (by omega) y0 y1 HVB.out).mono ?_; rintro e W1 ⟨z5, y5, rfl, h5, b0, b1, b2, b3, hb1⟩; first | (have PA := pre_a (N := w.heap.size + 1) (by simp) hb1; have PA' := PA; obtain ⟨c0, c1, cf, cz, hB1⟩ := PA'; have q1 := cell_later hB1 HD1.out) | (have PB := hb1; have hB1 := (Below.refl (w.alloc (objT 3 0 0 0 0 0 0 0 0)).heap.size (w.alloc (objT 3 0 0 0 0 0 0 0 0))).drew.trans hb1; have q1 := cell_later hB1 HD1.out)))
      all_goals
        go_wp2_with fail
        go_meet
        first | exact ⟨_, _, _, rfl, rfl, h5, ⟨b0, b1, b2, b3⟩, pfx_b z5 y5 PB⟩ | exact ⟨_, _, _, rfl, rfl, h5, ⟨b0, b1, b2, b3⟩, pfx_a z5 y5 (by simp) PA⟩
    case rest =>
      obtain ⟨P, z5, y5, rfl, rfl, h5, ⟨b0, b1, b2, b3⟩, hP⟩ := hcut
      have HB1 : Hid (BR w wc N w.heap.size S.kn ad k cp ⟨3, 0, 0, 0, 0, 0, 0, 0, 0⟩) := HBV.out.pfxAt hP
      obtain ⟨q0, q1, -, -, -⟩ := hP
      have H5 : Hid (_) := h5
      have HOK : Hid (Tlv.Ok ⟨3, 0, 0, 0, z5, y5, 0, 0, 0⟩) := by unfold Hid; constructor <;> simp only <;> omega
      obtain ⟨-, -, -, hT1, nf, lt1, -, -⟩ := HB1.out
      obtain ⟨c0, c1, c2, c3, c4, c5, c6, c7, c8⟩ := hT1.z
      clear hT1 h5
      go_wp2
      obtain ⟨W2, hW2⟩ : ∃ W2, W2 = (wc.setCell ⟨w.heap.size, 4, none⟩ (.int .u32 z5)).setCell ⟨w.heap.size, 5, none⟩ (.int .i64 y5) := ⟨_, rfl⟩
      rw [← hW2]
      have HB2 : Hid (BR w W2 N w.heap.size S.kn ad k cp ⟨3, 0, 0, 0, z5, y5, 0, 0, 0⟩) := by unfold Hid; rw [hW2]; exact HB1.out.pfx z5 y5
      clear hW2 c0 c1 c2 c3 c4 c5 c6 c7 c8 nf lt1 q0 q1
      obtain ⟨⟨f0, f1, f2, f3, ff, fz⟩, -, -, hT2, nf2, lt2, -, hN⟩ := HB2.out
      obtain ⟨c0, c1, c2, c3, c4, c5, c6, c7, c8⟩ := hT2.z
      clear hT2
      go_region_law
        (first
          | (refine step_appT _ (by rfl) _ _ 22 (by rfl) (N + 1) Try.underlying22 info44 _ k S.ps (by rfl) ((HB2.out.own HO.out).later (below1 _ _).drew) _ 1 1 [⟨3, 0, 0, 0, z5, y5, 0, 0, 0⟩] (by rfl) (rowT_one ((T9.newAt W2 W2.heap.size rfl 3 0 0 0 z5 y5 0 0 0).later (Below.refl _ _).drew) rfl HOK.out) (k + 1) (by rfl) (S.ps ++ [⟨3, 0, 0, 0, z5, y5, 0, 0, 0⟩]) (by rfl) (by omega) (by simp [World.drew]; omega) ?_; intro a3 c3' W3 own3 hb3; have HF3 : Hid (RR W3 N S.kn ad k cp) := (HB2.out.1.later (below1 W2 (objT 3 0 0 0 z5 y5 0 0 0)).drew).lift hb3 (by omega); obtain ⟨g0, g1, g2, g3, gf, gz⟩ := HF3.out))
      all_goals
        go_wp2
        go_ret
        have hB3 : Below N w W3 := (HB2.out.2.1.trans ((below1 W2 (objT 3 0 0 0 z5 y5 0 0 0)).drew.mono (Nat.le_of_lt fz))).trans (hb3.mono (by omega))
        rw [HT.out]
        cases vb
        · exact ⟨rfl, hB3.setCell (p := ⟨N, 3, none⟩) (Nat.le_refl _) _⟩
        · obtain ⟨e5, e6⟩ := H5.out rfl
          rw [if_pos rfl, ← e5, ← e6]
          exact ⟨rfl, a3, k + 1, c3', RR.set3 HF3.out _ _ _, own3.set (by omega), hB3.setCell (p := ⟨N, 3, none⟩) (Nat.le_refl _) _⟩
end Go.Proofs.Ytakikkigkmcffaa
/- The document's ask for a number. -/
namespace Go.Proofs.Ytakikkigkmcffaa
open Go.RowKit

set_option maxRecDepth 8000 in
set_option maxHeartbeats 4000000 in
theorem ask_10 (N : Nat) (S : St) (ad : Option Addr) (k cp : Nat) (b off n cap : Nat) (l : List Int) (w : World) (hF : RR w N S.kn ad k cp) (hO : OwnT w (N + 1) (.slice ad k cp) k S.ps) (hk : k ≤ 5000) (hr : Row8 w (some ⟨b, off, none⟩) n l) (hn : n ≤ 255) (hc : n ≤ cap) :
    Calls Try.prog 54 #[.pointer (some ⟨N, 0, none⟩), .int .u8 10, .slice (some ⟨b, off, none⟩) n cap] w (Took w N (tk S 10 l)) := by
  have HR : Hid (Row8 w (some ⟨b, off, none⟩) n l) := hr
  have HL : Hid (l.length = n) := hr.1
  have HF : Hid (RR w N S.kn ad k cp) := hF
  have HO : Hid (OwnT w (N + 1) (.slice ad k cp) k S.ps) := hO
  have hz : N < w.heap.size := hF.2.2.2.2.2
  clear hF hO
  by_cases h2 : n < 2
  · have HT : Hid (tk S 10 l = none) := seq_no (by unfold seqHead; rw [HL.out, decide_eq_false (by omega)]; rfl)
    have i2 : (n : Int) < 2 := by omega
    clear hr
    go_enter Try.func54, Try.ntmps54
    go_wp2
    go_ret
    rw [HT.out]
    exact ⟨rfl, Below.refl _ _⟩
  have j2 : ¬ (n : Int) < 2 := by omega
  obtain ⟨b_, off_, he_, hcell⟩ := hr.at (by omega)
  simp only [Option.some.injEq, Addr.mk.injEq, and_true] at he_
  obtain ⟨rfl, rfl⟩ := he_
  have d0 := hcell 0 (by omega)
  have d1 := hcell 1 (by omega)
  rw [Nat.add_zero] at d0
  have E0 : Hid (at8 l 0 = l[0]?.getD 0) := rfl
  have E1 : Hid (at8 l 1 = l[1]?.getD 0) := rfl
  have y1b := hr.2.2.1.at 1
  generalize l[0]?.getD 0 = x at d0 E0
  generalize l[1]?.getD 0 = y at d1 E1 y1b
  obtain ⟨y0, y1⟩ := y1b
  have hbz : b < w.heap.size := block_lt_of_cell d0
  have hbn : b ≠ w.heap.size := by omega
  have hbn1 : b ≠ w.heap.size + 1 := by omega
  have hbn2 : w.heap.size + 1 ≠ b := by omega
  have hbn3 : w.heap.size ≠ b := by omega
  have i0 : 0 < n := by omega
  have i1 : 1 < n := by omega
  have j0 : (0 : Int) < (n : Int) := by omega
  have j1 : (1 : Int) < (n : Int) := by omega
  by_cases hx : x = 1
  case neg =>
    have HT : Hid (tk S 10 l = none) := seq_no (by unfold seqHead; rw [E0.out, (by simpa using hx : (x == 1) = false)]; simp)
    have ex : (x != 1) = true := by simpa using hx
    clear hr hx hcell
    go_enter Try.func54, Try.ntmps54
    go_wp2
    go_ret
    rw [HT.out]
    exact ⟨rfl, Below.refl _ _⟩
  subst hx
  have ey : IntKind.i64.wrap y = y := wrap_in (by omega) (by omega)
  by_cases h14 : n < 14
  · have HT : Hid (tk S 10 l = none) := seq_no (by unfold seqHead; rw [HL.out, decide_eq_false (by omega)]; rfl)
    have i14 : (n : Int) < 14 := by omega
    clear hr hcell
    go_enter Try.func54, Try.ntmps54
    go_wp2
    go_ret
    rw [HT.out]
    exact ⟨rfl, (below1 _ _).mono (Nat.le_of_lt hz)⟩
  have j14 : ¬ (n : Int) < 14 := by omega
  have d4 := hcell 4 (by omega)
  have d5 := hcell 5 (by omega)
  have E4 : Hid (at8 l 4 = l[4]?.getD 0) := rfl
  have E5 : Hid (at8 l 5 = l[5]?.getD 0) := rfl
  have h4b := hr.2.2.1.at 4
  generalize l[4]?.getD 0 = hp at d4 E4 h4b
  generalize l[5]?.getD 0 = x5 at d5 E5
  obtain ⟨hp0, hp1⟩ := h4b
  have i4 : 4 < n := by omega
  have i5 : 5 < n := by omega
  have j4 : (4 : Int) < (n : Int) := by omega
  have j5 : (5 : Int) < (n : Int) := by omega
  by_cases hx5 : x5 = 0
  case neg =>
    have HT : Hid (tk S 10 l = none) := seq_no (by unfold seqHead; rw [E5.out, (by simpa using hx5 : (x5 == 0) = false)]; simp)
    have ex : (x5 != 0) = true := by simpa using hx5
    clear hr hx5 hcell
    go_enter Try.func54, Try.ntmps54
    go_wp2
    go_ret
    rw [HT.out]
    exact ⟨rfl, (below1 _ _).mono (Nat.le_of_lt hz)⟩
  subst hx5
  have ehp : IntKind.i64.wrap hp = hp := wrap_in (by omega) (by omega)
  have HH : Hid (seqHead l = true) := by unfold Hid seqHead; rw [E0.out, E5.out, HL.out]; simp; omega
  have sb := getV_h hr.2.2.1 2
  have rb := v8_u hr.2.2.1 6
  obtain ⟨s, hs⟩ : ∃ s, getV l 2 2 = s := ⟨_, rfl⟩
  obtain ⟨r, hrr⟩ : ∃ r, v8 l 6 = r := ⟨_, rfl⟩
  have HS : Hid (getV l 2 2 = s) := hs
  have HRR : Hid (v8 l 6 = r) := hrr
  rw [hs] at sb
  rw [hrr] at rb
  obtain ⟨s0, s1⟩ := sb
  obtain ⟨r0, r1⟩ := rb
  have es : IntKind.u16.wrap s = s := by simp [IntKind.wrap, IntKind.signed, IntKind.bits]; omega
  obtain ⟨vb, hvb⟩ : ∃ vb, rpOk y (l.drop 14) = vb := ⟨_, rfl⟩
  have HVB : Hid (rpOk y (l.drop 14) = vb) := hvb
  have HT : Hid (tk S 10 l = _) := seq_rp (S := S) HH.out E1.out hs hrr E4.out hvb
  have HBV0 : Hid (BR w (w.alloc (objT 3 0 0 0 0 0 0 0 0)) N w.heap.size S.kn ad k cp ⟨3, 0, 0, 0, 0, 0, 0, 0, 0⟩) := BR.new HF.out (Below.refl _ _) 3 0 0 0 0 0 0 0 0
  have g3 : (n : Int) ≤ (cap : Int) := by omega
  have g4 : (14 : Int) ≤ (n : Int) := by omega
  have g5 : (14 : Int) ≤ (cap : Int) := by omega
  have HRow : Hid (_) := hr.rest 14 cap (by omega) hc b off rfl
  have HRA : Hid (Row8 (w.alloc (objT 3 0 0 0 0 0 0 0 0)) (some ⟨b, off, none⟩) n l) := hr.later (below1 _ _)
  clear hr hcell hvb hs hrr
  by_cases hc2 : cap = 14
  · obtain rfl : n = 14 := by omega
    subst hc2
    have HRW : Hid (Row8 w (some ⟨b, off, none⟩) 0 (l.drop 14)) := by have := HRow.out; rw [if_pos rfl] at this; exact this
    clear HRow
    go_enter Try.func54, Try.ntmps54
    go_wp2
    go_region_held3 (fun w' => w'.cell? ⟨b, off + 4, none⟩ = some (.int .u8 hp)) (go_keep)
      (first
        | (go_at_call 32; refine (num2_any _ _ _ l _ (by first | exact HRA.out | exact HRA.out.later (Below.refl _ _).drew) (by omega) 2 (by omega) HS.out).mono ?_; rintro e w' ⟨rfl, rfl⟩)
        | (go_at_call 66; refine (num8_any _ _ _ l _ (by first | exact HRA.out | exact HRA.out.later (Below.refl _ _).drew) (by omega) 6 (by omega) HRR.out).mono ?_; rintro e w' ⟨rfl, rfl⟩))
    go_wp2
    obtain ⟨V, hV⟩ : ∃ V, V = (w.alloc (objT 4 s 0 0 0 0 r 0 hp)).drew := ⟨_, rfl⟩
    rw [← hV]
    have hBV : Below w.heap.size w V := by rw [hV]; exact (below1 _ _).drew
    have HBV : Hid (BR w V N w.heap.size S.kn ad k cp ⟨4, s, 0, 0, 0, 0, r, 0, hp⟩) := by unfold Hid; rw [hV]; exact (BR.new HF.out (Below.refl _ _) 4 s 0 0 0 0 r 0 hp).later (Below.refl _ _).drew
    have HRV : Hid (Row8 V (some ⟨b, off, none⟩) (0) (l.drop 14)) := HRW.out.later hBV
    have hd1 := cell_later hBV d1
    have HD1 : Hid (V.cell? ⟨b, off + 1, none⟩ = some (.int .u8 y)) := hd1
    have hbV : b ≠ V.heap.size := by have := hBV.size; omega
    have hbV2 : V.heap.size ≠ b := by have := hBV.size; omega
    clear hV hBV d0 d1 d4 d5
    go_cut [9, 10] from 11 (fun s9 s10 wx => ∃ P z5 y5, s9 = .pointer (some ⟨P, 0, none⟩) ∧ s10 = .bool vb ∧ (vb = true → z5 = mix 0 0 (l.drop 14) ∧ y5 = y) ∧ (0 ≤ z5 ∧ z5 < 4294967296 ∧ 0 ≤ y5 ∧ y5 ≤ 255) ∧ PfxAt (V) z5 y5 P wx)
    case first =>
      go_region_held3 (fun w' => w'.cell? ⟨b, off + 1, none⟩ = some (.int .u8 y)) (first | exact q1 | go_keep)
        ((go_at_call 67; refine (refPrefix_any y _ _ _ (l.drop 14) _ (HRV.out.later (by first | exact (Below.refl _ _).drew | exact (below1 _ _).drew)) (by omega) y0 y1 HVB.out).mono ?_; rintro e W1 ⟨z5, y5, rfl, h5, b0, b1, b2, b3, hb1⟩; first | (have PA := pre_a (N := V.heap.size) (by simp) hb1; have PA' := PA; obtain ⟨c0, c1, cf, cz, hB1⟩ := PA'; have q1 := cell_later hB1 HD1.out) | (have PB := hb1; have hB1 := (Below.refl (V).heap.size (V)).drew.trans hb1; have q1 := cell_later hB1 HD1.out)))
      all_goals
        go_wp2_with fail
        go_meet
        first | exact ⟨_, _, _, rfl, rfl, h5, ⟨b0, b1, b2, b3⟩, pfx_b z5 y5 PB⟩ | exact ⟨_, _, _, rfl, rfl, h5, ⟨b0, b1, b2, b3⟩, pfx_a z5 y5 (by simp) PA⟩
    case rest =>
      obtain ⟨P, z5, y5, rfl, rfl, h5, ⟨b0, b1, b2, b3⟩, hP⟩ := hcut
      have HB1 : Hid (BR w wc N w.heap.size S.kn ad k cp ⟨4, s, 0, 0, 0, 0, r, 0, hp⟩) := HBV.out.pfxAt hP
      obtain ⟨q0, q1, -, -, -⟩ := hP
      have H5 : Hid (_) := h5
      have HOK : Hid (Tlv.Ok ⟨4, s, 0, 0, z5, y5, r, 0, hp⟩) := by unfold Hid; constructor <;> simp only <;> omega
      obtain ⟨-, -, -, hT1, nf, lt1, -, -⟩ := HB1.out
      obtain ⟨c0, c1, c2, c3, c4, c5, c6, c7, c8⟩ := hT1.z
      clear hT1 h5
      go_wp2
      obtain ⟨W2, hW2⟩ : ∃ W2, W2 = (wc.setCell ⟨w.heap.size, 4, none⟩ (.int .u32 z5)).setCell ⟨w.heap.size, 5, none⟩ (.int .i64 y5) := ⟨_, rfl⟩
      rw [← hW2]
      have HB2 : Hid (BR w W2 N w.heap.size S.kn ad k cp ⟨4, s, 0, 0, z5, y5, r, 0, hp⟩) := by unfold Hid; rw [hW2]; exact HB1.out.pfx z5 y5
      clear hW2 c0 c1 c2 c3 c4 c5 c6 c7 c8 nf lt1 q0 q1
      obtain ⟨⟨f0, f1, f2, f3, ff, fz⟩, -, -, hT2, nf2, lt2, -, hN⟩ := HB2.out
      obtain ⟨c0, c1, c2, c3, c4, c5, c6, c7, c8⟩ := hT2.z
      clear hT2
      go_region_law
        (first
          | (refine step_appT _ (by rfl) _ _ 22 (by rfl) (N + 1) Try.underlying22 info44 _ k S.ps (by rfl) ((HB2.out.own HO.out).later (below1 _ _).drew) _ 1 1 [⟨4, s, 0, 0, z5, y5, r, 0, hp⟩] (by rfl) (rowT_one ((T9.newAt W2 W2.heap.size rfl 4 s 0 0 z5 y5 r 0 hp).later (Below.refl _ _).drew) rfl HOK.out) (k + 1) (by rfl) (S.ps ++ [⟨4, s, 0, 0, z5, y5, r, 0, hp⟩]) (by rfl) (by omega) (by simp [World.drew]; omega) ?_; intro a3 c3' W3 own3 hb3; have HF3 : Hid (RR W3 N S.kn ad k cp) := (HB2.out.1.later (below1 W2 (objT 4 s 0 0 z5 y5 r 0 hp)).drew).lift hb3 (by omega); obtain ⟨g0, g1, g2, g3, gf, gz⟩ := HF3.out))
      all_goals
        go_wp2
        go_ret
        have hB3 : Below N w W3 := (HB2.out.2.1.trans ((below1 W2 (objT 4 s 0 0 z5 y5 r 0 hp)).drew.mono (Nat.le_of_lt fz))).trans (hb3.mono (by omega))
        rw [HT.out]
        cases vb
        · exact ⟨rfl, hB3.setCell (p := ⟨N, 3, none⟩) (Nat.le_refl _) _⟩
        · obtain ⟨e5, e6⟩ := H5.out rfl
          rw [if_pos rfl, ← e5, ← e6]
          exact ⟨rfl, a3, k + 1, c3', RR.set3 HF3.out _ _ _, own3.set (by omega), hB3.setCell (p := ⟨N, 3, none⟩) (Nat.le_refl _) _⟩
  · have HRW : Hid (Row8 w (some ⟨b, off + 14, none⟩) (n - 14) (l.drop 14)) := by have := HRow.out; rw [if_neg (by omega)] at this; exact this
    clear HRow
    go_enter Try.func54, Try.ntmps54
    go_wp2
    go_region_held3 (fun w' => w'.cell? ⟨b, off + 4, none⟩ = some (.int .u8 hp)) (go_keep)
      (first
        | (go_at_call 32; refine (num2_any _ _ _ l _ (by first | exact HRA.out | exact HRA.out.later (Below.refl _ _).drew) (by omega) 2 (by omega) HS.out).mono ?_; rintro e w' ⟨rfl, rfl⟩)
        | (go_at_call 66; refine (num8_any _ _ _ l _ (by first | exact HRA.out | exact HRA.out.later (Below.refl _ _).drew) (by omega) 6 (by omega) HRR.out).mono ?_; rintro e w' ⟨rfl, rfl⟩))
    go_wp2
    obtain ⟨V, hV⟩ : ∃ V, V = (w.alloc (objT 4 s 0 0 0 0 r 0 hp)).drew := ⟨_, rfl⟩
    rw [← hV]
    have hBV : Below w.heap.size w V := by rw [hV]; exact (below1 _ _).drew
    have HBV : Hid (BR w V N w.heap.size S.kn ad k cp ⟨4, s, 0, 0, 0, 0, r, 0, hp⟩) := by unfold Hid; rw [hV]; exact (BR.new HF.out (Below.refl _ _) 4 s 0 0 0 0 r 0 hp).later (Below.refl _ _).drew
    have HRV : Hid (Row8 V (some ⟨b, off + 14, none⟩) (n - 14) (l.drop 14)) := HRW.out.later hBV
    have hd1 := cell_later hBV d1
    have HD1 : Hid (V.cell? ⟨b, off + 1, none⟩ = some (.int .u8 y)) := hd1
    have hbV : b ≠ V.heap.size := by have := hBV.size; omega
    have hbV2 : V.heap.size ≠ b := by have := hBV.size; omega
    clear hV hBV d0 d1 d4 d5
    go_cut [9, 10] from 11 (fun s9 s10 wx => ∃ P z5 y5, s9 = .pointer (some ⟨P, 0, none⟩) ∧ s10 = .bool vb ∧ (vb = true → z5 = mix 0 0 (l.drop 14) ∧ y5 = y) ∧ (0 ≤ z5 ∧ z5 < 4294967296 ∧ 0 ≤ y5 ∧ y5 ≤ 255) ∧ PfxAt (V) z5 y5 P wx)
    case first =>
      go_region_held3 (fun w' => w'.cell? ⟨b, off + 1, none⟩ = some (.int .u8 y)) (first | exact q1 | go_keep)
        ((go_at_call 67; refine (refPrefix_any y _ _ _ (l.drop 14) _ (HRV.out.later (by first | exact (Below.refl _ _).drew | exact (below1 _ _).drew)) (by omega) y0 y1 HVB.out).mono ?_; rintro e W1 ⟨z5, y5, rfl, h5, b0, b1, b2, b3, hb1⟩; first | (have PA := pre_a (N := V.heap.size) (by simp) hb1; have PA' := PA; obtain ⟨c0, c1, cf, cz, hB1⟩ := PA'; have q1 := cell_later hB1 HD1.out) | (have PB := hb1; have hB1 := (Below.refl (V).heap.size (V)).drew.trans hb1; have q1 := cell_later hB1 HD1.out)))
      all_goals
        go_wp2_with fail
        go_meet
        first | exact ⟨_, _, _, rfl, rfl, h5, ⟨b0, b1, b2, b3⟩, pfx_b z5 y5 PB⟩ | exact ⟨_, _, _, rfl, rfl, h5, ⟨b0, b1, b2, b3⟩, pfx_a z5 y5 (by simp) PA⟩
    case rest =>
      obtain ⟨P, z5, y5, rfl, rfl, h5, ⟨b0, b1, b2, b3⟩, hP⟩ := hcut
      have HB1 : Hid (BR w wc N w.heap.size S.kn ad k cp ⟨4, s, 0, 0, 0, 0, r, 0, hp⟩) := HBV.out.pfxAt hP
      obtain ⟨q0, q1, -, -, -⟩ := hP
      have H5 : Hid (_) := h5
      have HOK : Hid (Tlv.Ok ⟨4, s, 0, 0, z5, y5, r, 0, hp⟩) := by unfold Hid; constructor <;> simp only <;> omega
      obtain ⟨-, -, -, hT1, nf, lt1, -, -⟩ := HB1.out
      obtain ⟨c0, c1, c2, c3, c4, c5, c6, c7, c8⟩ := hT1.z
      clear hT1 h5
      go_wp2
      obtain ⟨W2, hW2⟩ : ∃ W2, W2 = (wc.setCell ⟨w.heap.size, 4, none⟩ (.int .u32 z5)).setCell ⟨w.heap.size, 5, none⟩ (.int .i64 y5) := ⟨_, rfl⟩
      rw [← hW2]
      have HB2 : Hid (BR w W2 N w.heap.size S.kn ad k cp ⟨4, s, 0, 0, z5, y5, r, 0, hp⟩) := by unfold Hid; rw [hW2]; exact HB1.out.pfx z5 y5
      clear hW2 c0 c1 c2 c3 c4 c5 c6 c7 c8 nf lt1 q0 q1
      obtain ⟨⟨f0, f1, f2, f3, ff, fz⟩, -, -, hT2, nf2, lt2, -, hN⟩ := HB2.out
      obtain ⟨c0, c1, c2, c3, c4, c5, c6, c7, c8⟩ := hT2.z
      clear hT2
      go_region_law
        (first
          | (refine step_appT _ (by rfl) _ _ 22 (by rfl) (N + 1) Try.underlying22 info44 _ k S.ps (by rfl) ((HB2.out.own HO.out).later (below1 _ _).drew) _ 1 1 [⟨4, s, 0, 0, z5, y5, r, 0, hp⟩] (by rfl) (rowT_one ((T9.newAt W2 W2.heap.size rfl 4 s 0 0 z5 y5 r 0 hp).later (Below.refl _ _).drew) rfl HOK.out) (k + 1) (by rfl) (S.ps ++ [⟨4, s, 0, 0, z5, y5, r, 0, hp⟩]) (by rfl) (by omega) (by simp [World.drew]; omega) ?_; intro a3 c3' W3 own3 hb3; have HF3 : Hid (RR W3 N S.kn ad k cp) := (HB2.out.1.later (below1 W2 (objT 4 s 0 0 z5 y5 r 0 hp)).drew).lift hb3 (by omega); obtain ⟨g0, g1, g2, g3, gf, gz⟩ := HF3.out))
      all_goals
        go_wp2
        go_ret
        have hB3 : Below N w W3 := (HB2.out.2.1.trans ((below1 W2 (objT 4 s 0 0 z5 y5 r 0 hp)).drew.mono (Nat.le_of_lt fz))).trans (hb3.mono (by omega))
        rw [HT.out]
        cases vb
        · exact ⟨rfl, hB3.setCell (p := ⟨N, 3, none⟩) (Nat.le_refl _) _⟩
        · obtain ⟨e5, e6⟩ := H5.out rfl
          rw [if_pos rfl, ← e5, ← e6]
          exact ⟨rfl, a3, k + 1, c3', RR.set3 HF3.out _ _ _, own3.set (by omega), hB3.setCell (p := ⟨N, 3, none⟩) (Nat.le_refl _) _⟩
end Go.Proofs.Ytakikkigkmcffaa
/- The document's update. -/
namespace Go.Proofs.Ytakikkigkmcffaa
open Go.RowKit

theorem up_no {S : St} {l : List Int} (h : upOk S.kn l = false) : tk S 8 l = none := by
  unfold tk
  rw [if_neg (by decide), if_neg (by decide), if_neg (by decide), if_pos rfl, h]; simp
theorem up_yes {S : St} {l : List Int} (h : upOk S.kn l = true) : tk S 8 l = some ⟨⟨true, S.kn.r, upA S.kn l⟩, S.ps ++ [upT S.kn l]⟩ := by
  unfold tk
  rw [if_neg (by decide), if_neg (by decide), if_neg (by decide), if_pos rfl, if_pos h]
theorem mix_join {x : Int} {om : Nat} {L : List Int} (h : om ≤ 4) : mix 0 0 ((b4 x).take om ++ L) = mix x om L := by
  unfold mix mixL
  congr 1
  have e : ((b4 x).take om).length = om := by rw [List.length_take]; show min om 4 = om; omega
  simp [e, Nat.sub_sub]
theorem rp_join {x y : Int} {om : Nat} {L : List Int} (hy : y ≤ 32) (h : om ≤ nd y) (hL : L.length = nd y - om) : rpOk y ((b4 x).take om ++ L) = mayB (mix x om L) y := by
  have h4 := nd_le hy
  have e : ((b4 x).take om).length = om := by rw [List.length_take]; show min om 4 = om; omega
  unfold rpOk
  rw [mix_join (by omega), List.length_append, e, hL, decide_eq_true hy, decide_eq_true (by omega)]
  rfl
theorem T9.set7 {W : World} {M : Nat} {k s i c a l r t h : Int} (hT : T9 W M 0 ⟨k, s, i, c, a, l, r, t, h⟩) (x : Int) : T9 (W.setCell ⟨M, 7, none⟩ (.int .u16 x)) M 0 ⟨k, s, i, c, a, l, r, x, h⟩ := by
  obtain ⟨c0, c1, c2, c3, c4, c5, c6, c7, c8⟩ := hT.z
  unfold T9
  simp [go_sem, c0, c1, c2, c3, c4, c5, c6, c7, c8]
set_option maxRecDepth 8000 in
set_option maxHeartbeats 8000000 in
theorem upd_any (N : Nat) (S : St) (ad : Option Addr) (k cp : Nat) (b off n cap : Nat) (l : List Int) (w : World) (hF : RR w N S.kn ad k cp) (hO : OwnT w (N + 1) (.slice ad k cp) k S.ps) (hk : k ≤ 5000) (hr : Row8 w (some ⟨b, off, none⟩) n l) (hn : n ≤ 255) (hc : n ≤ cap) (hK : S.kn.Ok) :
    Calls Try.prog 53 #[.pointer (some ⟨N, 0, none⟩), .slice (some ⟨b, off, none⟩) n cap] w (Took w N (tk S 8 l)) := by
  have HR : Hid (Row8 w (some ⟨b, off, none⟩) n l) := hr
  have HL : Hid (l.length = n) := hr.1
  have HF : Hid (RR w N S.kn ad k cp) := hF
  have HO : Hid (OwnT w (N + 1) (.slice ad k cp) k S.ps) := hO
  have hz : N < w.heap.size := hF.2.2.2.2.2
  obtain ⟨f0, f1, f2, f3, ff, -⟩ := hF
  clear hO f0 f3 ff
  cases ht : S.kn.told
  · have HT : Hid (tk S 8 l = none) := up_no (up_head (by unfold upHead; rw [ht]; rfl))
    rw [ht] at f1
    clear hr f2
    go_enter Try.func53, Try.ntmps53
    go_wp2
    go_ret
    rw [HT.out]
    exact ⟨rfl, Below.refl _ _⟩
  rw [ht] at f1
  have HTold : Hid (S.kn.told = true) := ht
  by_cases h10 : n < 10
  · have HT : Hid (tk S 8 l = none) := up_no (up_head (by unfold upHead; rw [HL.out, decide_eq_false (p := 10 ≤ n) (by omega)]; simp))
    have i10 : (n : Int) < 10 := by omega
    clear hr f2 ht
    go_enter Try.func53, Try.ntmps53
    go_wp2
    go_ret
    rw [HT.out]
    exact ⟨rfl, Below.refl _ _⟩
  have j10 : ¬ (n : Int) < 10 := by omega
  obtain ⟨b_, off_, he_, hcell⟩ := hr.at (by omega)
  simp only [Option.some.injEq, Addr.mk.injEq, and_true] at he_
  obtain ⟨rfl, rfl⟩ := he_
  have d0 := hcell 0 (by omega)
  have d1 := hcell 1 (by omega)
  have d2 := hcell 2 (by omega)
  have d3 := hcell 3 (by omega)
  rw [Nat.add_zero] at d0
  have E0 : Hid (at8 l 0 = l[0]?.getD 0) := rfl
  have E1 : Hid (at8 l 1 = l[1]?.getD 0) := rfl
  have E2 : Hid (at8 l 2 = l[2]?.getD 0) := rfl
  have E3 : Hid (at8 l 3 = l[3]?.getD 0) := rfl
  have y2b := hr.2.2.1.at 2
  have y3b := hr.2.2.1.at 3
  generalize l[0]?.getD 0 = x at d0 E0
  generalize l[1]?.getD 0 = x1 at d1 E1
  generalize l[2]?.getD 0 = y at d2 E2 y2b
  generalize l[3]?.getD 0 = om0 at d3 E3 y3b
  obtain ⟨y0, y1⟩ := y2b
  obtain ⟨om, rfl⟩ : ∃ om : Nat, om0 = (om : Int) := ⟨om0.toNat, by omega⟩
  have hom : om ≤ 255 := by omega
  have hbz : b < w.heap.size := block_lt_of_cell d0
  have i0 : 0 < n := by omega
  have i1 : 1 < n := by omega
  have i2 : 2 < n := by omega
  have i3 : 3 < n := by omega
  have j0 : (0 : Int) < (n : Int) := by omega
  have j1 : (1 : Int) < (n : Int) := by omega
  have j2 : (2 : Int) < (n : Int) := by omega
  have j3 : (3 : Int) < (n : Int) := by omega
  by_cases hx : x = 1
  case neg =>
    have HT : Hid (tk S 8 l = none) := up_no (up_head (by unfold upHead; rw [E0.out, (by simpa using hx : (x == 1) = false)]; simp))
    have ex : (x != 1) = true := by simpa using hx
    clear hr f2 ht hx hcell
    go_enter Try.func53, Try.ntmps53
    go_wp2
    go_ret
    rw [HT.out]
    exact ⟨rfl, Below.refl _ _⟩
  subst hx
  by_cases hx1 : x1 = 128
  case neg =>
    have HT : Hid (tk S 8 l = none) := up_no (up_head (by unfold upHead; rw [E1.out, (by simpa using hx1 : (x1 == 128) = false)]; simp))
    have ex : (x1 != 128) = true := by simpa using hx1
    clear hr f2 ht hx1 hcell
    go_enter Try.func53, Try.ntmps53
    go_wp2
    go_ret
    rw [HT.out]
    exact ⟨rfl, Below.refl _ _⟩
  subst hx1
  have HH : Hid (upHead S.kn.told l = true) := by unfold Hid upHead; rw [E0.out, E1.out, HL.out, ht]; simp; omega
  have HUP : Hid (∀ v, pfxOk S.kn.a y om (l.drop 10) = v → upOk S.kn l = (v && tagOk ((l.drop 10).drop (nd y - om)))) := fun v hv => up_is HH.out E2.out E3.out hv
  have HDL : Hid ((l.drop 10).length = n - 10) := by unfold Hid; rw [List.length_drop, HL.out]
  by_cases h32 : 32 < y
  · have HT : Hid (tk S 8 l = none) := up_no ((HUP.out false (pfx_len h32)).trans rfl)
    clear hr f2 ht hcell
    go_enter Try.func53, Try.ntmps53
    go_wp2
    go_ret
    rw [HT.out]
    exact ⟨rfl, Below.refl _ _⟩
  have y32 : y ≤ 32 := by omega
  have ey : IntKind.i64.wrap y = y := wrap_in (by omega) (by omega)
  have eom : IntKind.i64.wrap (om : Int) = (om : Int) := wrap_in (by omega) (by omega)
  obtain ⟨nn, hnn⟩ : ∃ nn, nd y = nn := ⟨_, rfl⟩
  have hn4 : nn ≤ 4 := by rw [← hnn]; exact nd_le y32
  have HN : Hid (nd y = nn) := hnn
  by_cases hk1 : nn < om
  · have HT : Hid (tk S 8 l = none) := up_no ((HUP.out false (pfx_om (by rw [hnn]; exact hk1))).trans rfl)
    have jk : (nn : Int) < (om : Int) := by omega
    clear hr f2 ht hcell hnn
    go_enter Try.func53, Try.ntmps53
    go_wp2_with (go_at_call 46; refine (refNeeds_any y _ y0 y1 HN.out).mono ?_; rintro e_ w ⟨rfl, rfl⟩)
    go_ret
    rw [HT.out]
    exact ⟨rfl, Below.refl _ _⟩
  have jk : ¬ (nn : Int) < (om : Int) := by omega
  obtain ⟨t, hta⟩ : ∃ t, om + t = nn := ⟨nn - om, by omega⟩
  obtain ⟨c1, hc1⟩ : ∃ c1, 10 + nn = c1 := ⟨_, rfl⟩
  obtain ⟨e, he⟩ : ∃ e, 10 + t = e := ⟨_, rfl⟩
  have w1 : IntKind.i64.wrap (10 + (nn : Int)) = (c1 : Int) := by rw [wrap_in (by omega) (by omega)]; omega
  have w2 : IntKind.i64.wrap ((c1 : Int) - (om : Int)) = (e : Int) := by rw [wrap_in (by omega) (by omega)]; omega
  by_cases hne : n < e
  · have HT : Hid (tk S 8 l = none) := up_no ((HUP.out false (pfx_short (by rw [HDL.out, hnn]; omega))).trans rfl)
    have jn : (n : Int) < (e : Int) := by omega
    clear hr f2 ht hcell hnn
    go_enter Try.func53, Try.ntmps53
    go_wp2_with (go_at_call 46; refine (refNeeds_any y _ y0 y1 HN.out).mono ?_; rintro e_ w ⟨rfl, rfl⟩)
    go_ret
    rw [HT.out]
    exact ⟨rfl, Below.refl _ _⟩
  have jn : ¬ (n : Int) < (e : Int) := by omega
  have g1 : (10 : Int) ≤ (e : Int) := by omega
  have g2 : (e : Int) ≤ (n : Int) := by omega
  have g3 : (e : Int) ≤ (cap : Int) := by omega
  have g4 : (n : Int) ≤ (cap : Int) := by omega
  have he10 : e - 10 = t := by omega
  obtain ⟨rb, hrb⟩ : ∃ rb, (if cap = 10 then some ⟨b, off, none⟩ else some ⟨b, off + 10, none⟩ : Option Addr) = rb := ⟨_, rfl⟩
  obtain ⟨re, hre⟩ : ∃ re, (if cap = e then some ⟨b, off, none⟩ else some ⟨b, off + e, none⟩ : Option Addr) = re := ⟨_, rfl⟩
  have HRB : Hid (Row8 w rb t ((l.drop 10).take t)) := by unfold Hid; rw [← hrb]; exact Row8.take (hr.rest 10 cap (by omega) hc b off rfl) t (by omega)
  have HRR : Hid (Row8 w re (n - e) (l.drop e)) := by unfold Hid; rw [← hre]; exact hr.rest e cap (by omega) hc b off rfl
  have HKa0 : Hid (0 ≤ S.kn.a) := hK.a0
  have HKa1 : Hid (S.kn.a < 4294967296) := hK.a1
  have HKr0 : Hid (0 ≤ S.kn.r) := hK.r0
  have HKr1 : Hid (S.kn.r ≤ 18446744073709551615) := hK.r1
  have HTake : Hid (((l.drop 10).take t).length = t) := by unfold Hid; rw [List.length_take, HDL.out]; omega
  have htn : nd y - om = t := by omega
  obtain ⟨vb, hvb⟩ : ∃ vb, rpOk y ((b4 S.kn.a).take om ++ (l.drop 10).take t) = vb := ⟨_, rfl⟩
  have HVB : Hid (rpOk y ((b4 S.kn.a).take om ++ (l.drop 10).take t) = vb) := hvb
  have HPO : Hid (upOk S.kn l = (vb && tagOk (l.drop e))) := by
    unfold Hid
    have hp : pfxOk S.kn.a y om (l.drop 10) = vb := by
      rw [pfx_yes y32 (by omega) (by rw [HDL.out]; omega), htn, ← rp_join y32 (by omega) (by rw [HTake.out]; exact htn.symm)]
      exact hvb
    rw [HUP.out vb hp, htn, List.drop_drop, he]
  have HB5 : Hid (Bytes ((b4 S.kn.a).take om ++ (l.drop 10).take t)) := (take_bytes (b4_bytes hK.a0 (by have := hK.a1; omega)) _).append (take_bytes (drop_bytes hr.2.2.1 _) _)
  have sb := getV_h hr.2.2.1 6
  have ib := getV_h hr.2.2.1 4
  have cb := getV_h hr.2.2.1 8
  obtain ⟨s, hs⟩ : ∃ s, getV l 6 2 = s := ⟨_, rfl⟩
  obtain ⟨iv, hi⟩ : ∃ i, getV l 4 2 = i := ⟨_, rfl⟩
  obtain ⟨cv, hcv⟩ : ∃ c, getV l 8 2 = c := ⟨_, rfl⟩
  rw [hs] at sb
  rw [hi] at ib
  rw [hcv] at cb
  obtain ⟨s0, s1⟩ := sb
  obtain ⟨iv0, iv1⟩ := ib
  obtain ⟨cv0, cv1⟩ := cb
  have HS : Hid (getV l 6 2 = s) := hs
  have HI : Hid (getV l 4 2 = iv) := hi
  have HC : Hid (getV l 8 2 = cv) := hcv
  have es : IntKind.u16.wrap s = s := by simp [IntKind.wrap, IntKind.signed, IntKind.bits]; omega
  have HUA : Hid (upA S.kn l = mix 0 0 ((b4 S.kn.a).take om ++ (l.drop 10).take t)) := by unfold Hid; rw [upA_is E2.out E3.out, htn, mix_join (by omega)]
  have HUT : Hid (upT S.kn l = ⟨2, s, iv, cv, upA S.kn l, y, S.kn.r, tagV (l.drop e), 0⟩) := by unfold Hid; rw [upT_is E2.out E3.out, upA_is E2.out E3.out, hs, hi, hcv, htn, List.drop_drop, he]
  have HByE : Hid (Bytes (l.drop e)) := drop_bytes hr.2.2.1 e
  have HLE : Hid ((l.drop e).length = n - e) := by unfold Hid; rw [List.length_drop, HL.out]
  have hom4 : om ≤ 4 := by omega
  have HTA : Hid (om + t = nn) := hta
  clear hr hcell ht hnn hta hc1 he hvb hs hi hcv htn HUP HDL HTake hK
  cases vb
  · have HT : Hid (tk S 8 l = none) := up_no (by rw [HPO.out]; rfl)
    go_enter Try.func53, Try.ntmps53
    go_wp2_with (first
      | (go_at_call 46; refine (refNeeds_any y _ y0 y1 HN.out).mono ?_; rintro e_ w ⟨rfl, rfl⟩)
      | (go_at_call 29; refine (refAddr_any S.kn.a om _ HKa0.out HKa1.out hom4).mono ?_; rintro e_ W1 ⟨rfl, rfl⟩)
      | (at_builtin; refine wpList_app8 _ rfl (.const (.slice none 0 0)) (.tmp 66) 25 5 rfl w.heap.size Try.underlying25 info5 _ 0 [] rfl (own8_nil _ _ _) _ _ _ _ rfl ((row_b4 w HKa0.out (by have := HKa1.out; omega) _ rfl).take om hom4) om (by omega) _ rfl (by omega) (by simp) ?_; intro a4 c4 W4 own4 hb4; have hB4 := (below1 w (ob4 S.kn.a)).trans hb4)
      | (at_builtin; refine wpList_app8 _ rfl (.tmp 68) (.tmp 74) 25 5 rfl w.heap.size Try.underlying25 info5 _ _ _ rfl own4 _ _ _ ((l.drop 10).take t) rfl (HRB.out.later hB4) nn HTA.out _ rfl (by omega) hB4.size ?_; intro a5 c5 W5 own5 hb5; have hB5 := hB4.trans hb5; rw [List.nil_append] at own5; have e2 := cell_later hB5 d2)
      | (go_at_call 67; refine (refPrefix_any y _ _ _ ((b4 S.kn.a).take om ++ (l.drop 10).take t) _ (own5.row HB5.out (by omega)) (by omega) y0 y1 HVB.out).mono ?_; rintro e_ W6 ⟨z5, y5, rfl, h5, b0, b1, b2, b3, hb6⟩; have H5 : Hid (_) := h5; clear h5))
    go_ret
    rw [HT.out]
    exact ⟨rfl, ((stp hB5 hb6).trans ((below1 _ _).mono (stp hB5 hb6).size)).mono (Nat.le_of_lt hz)⟩
  · go_enter Try.func53, Try.ntmps53
    go_wp2_with (first
      | (go_at_call 46; refine (refNeeds_any y _ y0 y1 HN.out).mono ?_; rintro e_ w ⟨rfl, rfl⟩)
      | (go_at_call 29; refine (refAddr_any S.kn.a om _ HKa0.out HKa1.out hom4).mono ?_; rintro e_ W1 ⟨rfl, rfl⟩)
      | (at_builtin; refine wpList_app8 _ rfl (.const (.slice none 0 0)) (.tmp 66) 25 5 rfl w.heap.size Try.underlying25 info5 _ 0 [] rfl (own8_nil _ _ _) _ _ _ _ rfl ((row_b4 w HKa0.out (by have := HKa1.out; omega) _ rfl).take om hom4) om (by omega) _ rfl (by omega) (by simp) ?_; intro a4 c4 W4 own4 hb4; have hB4 := (below1 w (ob4 S.kn.a)).trans hb4)
      | (at_builtin; refine wpList_app8 _ rfl (.tmp 68) (.tmp 74) 25 5 rfl w.heap.size Try.underlying25 info5 _ _ _ rfl own4 _ _ _ ((l.drop 10).take t) rfl (HRB.out.later hB4) nn HTA.out _ rfl (by omega) hB4.size ?_; intro a5 c5 W5 own5 hb5; have hB5 := hB4.trans hb5; rw [List.nil_append] at own5; have e2 := cell_later hB5 d2)
      | (go_at_call 67; refine (refPrefix_any y _ _ _ ((b4 S.kn.a).take om ++ (l.drop 10).take t) _ (own5.row HB5.out (by omega)) (by omega) y0 y1 HVB.out).mono ?_; rintro e_ W6 ⟨z5, y5, rfl, h5, b0, b1, b2, b3, hb6⟩; have H5 : Hid (_) := h5; clear h5))
    have H5 : Hid (z5 = mix 0 0 ((b4 S.kn.a).take om ++ (l.drop 10).take t) ∧ y5 = y) := H5.out trivial
    have HZ5 : Hid (upA S.kn l = z5) := by unfold Hid; rw [HUA.out, H5.out.1]
    have HY5 : Hid (y5 = y) := H5.out.2
    obtain ⟨V, hV⟩ : ∃ V, V = W6.alloc (.cells #[.int .u32 z5, .int .i64 y5] 41) := ⟨_, rfl⟩
    rw [← hV]
    obtain ⟨p0, p1, pz⟩ := new2 W6 (.int .u32 z5) (.int .i64 y5) 41
    rw [← hV] at p0 p1 pz
    have hB6 := stp hB5 hb6
    have hBV : Below w.heap.size w V := by rw [hV]; exact stp hB6 (below1 _ _)
    have HBV : Hid (Below w.heap.size w V) := hBV
    have HRV : Hid (Row8 V (some ⟨b, off, none⟩) n l) := HR.out.later hBV
    have HRE : Hid (Row8 V re (n - e) (l.drop e)) := HRR.out.later hBV
    have HFV : Hid (RR V N S.kn ad k cp) := HF.out.later hBV
    obtain ⟨q0, -, -, -, -, -⟩ := HFV.out
    have v1 : W6.heap.size ≠ V.heap.size := by omega
    have v2 : V.heap.size ≠ W6.heap.size := by omega
    have v3 : N ≠ V.heap.size := by have := hBV.size; omega
    have v4 : V.heap.size ≠ N := by have := hBV.size; omega
    clear hV f1 f2 d0 d1 d2 d3 e2 hB4 hB5 hB6 hb4 hb5 hb6 own4 own5
    go_cut [10] from 11 (fun s10 wx => s10 = .pointer (some ⟨V.heap.size, 0, none⟩) ∧ wx = (V.alloc (objT 2 s iv cv z5 y5 S.kn.r 0 0)).drew)
    case first =>
      go_region_held3 (fun w' => w'.cell? ⟨W6.heap.size, 0, none⟩ = some (.int .u32 z5) ∧ w'.cell? ⟨W6.heap.size, 1, none⟩ = some (.int .i64 y5) ∧ w'.cell? ⟨N, 0, none⟩ = some (.int .u64 S.kn.r)) (go_keep)
        (first
          | (go_at_call_of 32 (Value.int IntKind.i64 4); refine (num2_any _ _ _ l _ (HRV.out.later (by first | exact (Below.refl _ _).drew | exact (below1 _ _).drew)) (by omega) 4 (by omega) HI.out).mono ?_; rintro e_ w' ⟨rfl, rfl⟩)
          | (go_at_call_of 32 (Value.int IntKind.i64 6); refine (num2_any _ _ _ l _ (HRV.out.later (by first | exact (Below.refl _ _).drew | exact (below1 _ _).drew)) (by omega) 6 (by omega) HS.out).mono ?_; rintro e_ w' ⟨rfl, rfl⟩)
          | (go_at_call_of 32 (Value.int IntKind.i64 8); refine (num2_any _ _ _ l _ (HRV.out.later (by first | exact (Below.refl _ _).drew | exact (below1 _ _).drew)) (by omega) 8 (by omega) HC.out).mono ?_; rintro e_ w' ⟨rfl, rfl⟩))
      all_goals
        go_wp2_with fail
        go_meet
        exact ⟨rfl, rfl⟩
    case rest =>
      obtain ⟨rfl, hwc⟩ := hcut
      have HB2 : Hid (BR w wc N V.heap.size S.kn ad k cp ⟨2, s, iv, cv, z5, y5, S.kn.r, 0, 0⟩) := by unfold Hid; rw [hwc]; exact (BR.new HF.out hBV 2 s iv cv z5 y5 S.kn.r 0 0).later (Below.refl _ _).drew
      have hbc : Below V.heap.size V wc := by rw [hwc]; exact (below1 _ _).drew
      have x0 := cell_later hbc p0
      have HRC : Hid (Row8 wc re (n - e) (l.drop e)) := HRE.out.later hbc
      clear hwc hbc p0 p1 q0 pz
      have hNM : N ≠ V.heap.size := v3
      clear v1 v2 v3 v4
      obtain ⟨⟨f0, f1, f2, f3, ff, fz⟩, -, -, hT2, nf2, lt2, -, hN⟩ := HB2.out
      obtain ⟨c0, c1_, c2, c3, c4, c5_, c6, c7, c8⟩ := hT2.z
      clear hT2
      by_cases hq0 : n = e
      · have hlen : n - e = 0 := by omega
        have HL0 : Hid ((l.drop e).length = 0) := by unfold Hid; rw [HLE.out]; exact hlen
        have HT : Hid (tk S 8 l = some ⟨⟨true, S.kn.r, z5⟩, S.ps ++ [⟨2, s, iv, cv, z5, y5, S.kn.r, 0, 0⟩]⟩) := by
          unfold Hid
          rw [up_yes (by rw [HPO.out]; unfold tagOk; rw [HL0.out]; rfl), HUT.out, HZ5.out, HY5.out]
          unfold tagV
          rw [if_pos HL0.out]
        have HOK : Hid (Tlv.Ok ⟨2, s, iv, cv, z5, y5, S.kn.r, 0, 0⟩) := by have := HKr0.out; have := HKr1.out; unfold Hid; constructor <;> simp only <;> omega
        go_wp2
        obtain ⟨W2, hW2⟩ : ∃ W2, W2 = wc.setCell ⟨N, 2, none⟩ (.int .u32 z5) := ⟨_, rfl⟩
        rw [← hW2]
        have HB3 : Hid (BR w W2 N V.heap.size ⟨S.kn.told, S.kn.r, z5⟩ ad k cp ⟨2, s, iv, cv, z5, y5, S.kn.r, 0, 0⟩) := by unfold Hid; rw [hW2]; exact HB2.out.setA z5
        clear hW2 c0 c1_ c2 c3 c4 c5_ c6 c7 c8 nf2 lt2 f0 f1 f2 f3 ff fz x0 hN
        obtain ⟨⟨f0, f1, f2, f3, ff, fz⟩, -, -, hT2, nf2, lt2, hVM, hN⟩ := HB3.out
        obtain ⟨c0, c1_, c2, c3, c4, c5_, c6, c7, c8⟩ := hT2.z
        clear hT2
        go_region_law
          (first
            | (refine step_appT _ (by rfl) _ _ 22 (by rfl) (N + 1) Try.underlying22 info44 _ k S.ps (by rfl) ((HB3.out.own HO.out).later (below1 _ _).drew) _ 1 1 [⟨2, s, iv, cv, z5, y5, S.kn.r, 0, 0⟩] (by rfl) (rowT_one ((T9.newAt W2 W2.heap.size rfl 2 s iv cv z5 y5 S.kn.r 0 0).later (Below.refl _ _).drew) rfl HOK.out) (k + 1) (by rfl) (S.ps ++ [⟨2, s, iv, cv, z5, y5, S.kn.r, 0, 0⟩]) (by rfl) (by omega) (by simp [World.drew]; omega) ?_; intro a3 c3' W3 own3 hb3; have HF3 : Hid (RR W3 N ⟨S.kn.told, S.kn.r, z5⟩ ad k cp) := (HB3.out.1.later (below1 W2 (objT 2 s iv cv z5 y5 S.kn.r 0 0)).drew).lift hb3 (by omega); obtain ⟨g0, g1, g2, g3, gf, gz⟩ := HF3.out))
        all_goals
          go_wp2
          go_ret
          have hB3 : Below N w W3 := (HB3.out.2.1.trans ((below1 W2 (objT 2 s iv cv z5 y5 S.kn.r 0 0)).drew.mono (Nat.le_of_lt fz))).trans (hb3.mono (by omega))
          rw [HT.out]
          have hR3 := HF3.out
          rw [HTold.out] at hR3
          exact ⟨rfl, a3, k + 1, c3', RR.set3 hR3 _ _ _, own3.set (by omega), hB3.setCell (p := ⟨N, 3, none⟩) (Nat.le_refl _) _⟩
      obtain ⟨q, hq⟩ : ∃ q, n - e = q := ⟨_, rfl⟩
      have jq : (0 : Int) < (q : Int) := by omega
      by_cases hq4 : q = 4
      case neg =>
        have HT : Hid (tk S 8 l = none) := up_no (by rw [HPO.out]; unfold tagOk; rw [HLE.out, hq, decide_eq_false (p := q = 0) (by omega), decide_eq_false hq4]; rfl)
        have jq4 : ((q : Int) != 4) = true := by rw [bne_iff_ne]; omega
        go_wp2
        go_ret
        rw [HT.out]
        exact ⟨rfl, HB2.out.2.1⟩
      subst hq4
      have hcap : ¬ cap = e := by omega
      obtain rfl : re = some ⟨b, off + e, none⟩ := by rw [← hre, if_neg hcap]
      have HRC4 : Hid (Row8 wc (some ⟨b, off + e, none⟩) 4 (l.drop e)) := by have := HRC.out; rw [hq] at this; exact this
      have HL4 : Hid ((l.drop e).length = 4) := HRC4.out.1
      obtain ⟨b_, off_, he_, hcell⟩ := HRC4.out.at (by omega)
      simp only [Option.some.injEq, Addr.mk.injEq, and_true] at he_
      obtain ⟨rfl, rfl⟩ := he_
      have d0 := hcell 0 (by omega)
      have d1 := hcell 1 (by omega)
      rw [Nat.add_zero] at d0
      have G0 : Hid (at8 (l.drop e) 0 = (l.drop e)[0]?.getD 0) := rfl
      have G1 : Hid (at8 (l.drop e) 1 = (l.drop e)[1]?.getD 0) := rfl
      generalize (l.drop e)[0]?.getD 0 = u0 at d0 G0
      generalize (l.drop e)[1]?.getD 0 = u1 at d1 G1
      clear hcell
      by_cases hu0 : u0 = 200
      case neg =>
        have HT : Hid (tk S 8 l = none) := up_no (by rw [HPO.out]; unfold tagOk; rw [HL4.out, G0.out, (by simpa using hu0 : (u0 == 200) = false)]; rfl)
        have eu : (u0 != 200) = true := by simpa using hu0
        clear hu0
        go_wp2
        go_ret
        rw [HT.out]
        exact ⟨rfl, HB2.out.2.1⟩
      subst hu0
      by_cases hu1 : u1 = 2
      case neg =>
        have HT : Hid (tk S 8 l = none) := up_no (by rw [HPO.out]; unfold tagOk; rw [HL4.out, G0.out, G1.out, (by simpa using hu1 : (u1 == 2) = false)]; rfl)
        have eu : (u1 != 2) = true := by simpa using hu1
        clear hu1
        go_wp2
        go_ret
        rw [HT.out]
        exact ⟨rfl, HB2.out.2.1⟩
      subst hu1
      have tb := getV_h HByE.out 2
      obtain ⟨tg, htg⟩ : ∃ tg, getV (l.drop e) 2 2 = tg := ⟨_, rfl⟩
      have HTG : Hid (getV (l.drop e) 2 2 = tg) := htg
      rw [htg] at tb
      obtain ⟨tg0, tg1⟩ := tb
      clear htg
      by_cases ht0 : tg = 0
      · have HT : Hid (tk S 8 l = none) := up_no (by rw [HPO.out]; unfold tagOk; rw [HL4.out, G0.out, G1.out, HTG.out, ht0]; rfl)
        subst ht0
        go_wp2_with (go_at_call 32; refine (num2_any _ _ _ (l.drop e) _ HRC4.out (by omega) 2 (by omega) HTG.out).mono ?_; rintro e_ wc ⟨rfl, rfl⟩)
        go_ret
        rw [HT.out]
        exact ⟨rfl, HB2.out.2.1⟩
      have et0 : (tg == 0) = false := by simpa using ht0
      have etw : IntKind.u16.wrap tg = tg := by simp [IntKind.wrap, IntKind.signed, IntKind.bits]; omega
      have HT : Hid (tk S 8 l = some ⟨⟨true, S.kn.r, z5⟩, S.ps ++ [⟨2, s, iv, cv, z5, y5, S.kn.r, tg, 0⟩]⟩) := by
        unfold Hid
        rw [up_yes (by rw [HPO.out]; unfold tagOk; rw [HL4.out, G0.out, G1.out, HTG.out, bne, et0]; rfl), HUT.out, HZ5.out, HY5.out]
        unfold tagV
        rw [if_neg (by rw [HL4.out]; decide), HTG.out]
      have HOK : Hid (Tlv.Ok ⟨2, s, iv, cv, z5, y5, S.kn.r, tg, 0⟩) := by have := HKr0.out; have := HKr1.out; unfold Hid; constructor <;> simp only <;> omega
      clear ht0
      go_wp2_with (go_at_call 32; refine (num2_any _ _ _ (l.drop e) _ HRC4.out (by omega) 2 (by omega) HTG.out).mono ?_; rintro e_ wc ⟨rfl, rfl⟩)
      obtain ⟨W2, hW2⟩ : ∃ W2, W2 = (wc.setCell ⟨V.heap.size, 7, none⟩ (.int .u16 tg)).setCell ⟨N, 2, none⟩ (.int .u32 z5) := ⟨_, rfl⟩
      rw [← hW2]
      have HB3 : Hid (BR w W2 N V.heap.size ⟨S.kn.told, S.kn.r, z5⟩ ad k cp ⟨2, s, iv, cv, z5, y5, S.kn.r, tg, 0⟩) := by unfold Hid; rw [hW2]; exact (HB2.out.setc 7 _ (HB2.out.2.2.2.1.set7 tg)).setA z5
      clear hW2 c0 c1_ c2 c3 c4 c5_ c6 c7 c8 nf2 lt2 f0 f1 f2 f3 ff fz x0 hN
      obtain ⟨⟨f0, f1, f2, f3, ff, fz⟩, -, -, hT2, nf2, lt2, hVM, hN⟩ := HB3.out
      obtain ⟨c0, c1_, c2, c3, c4, c5_, c6, c7, c8⟩ := hT2.z
      clear hT2
      go_region_law
        (first
          | (refine step_appT _ (by rfl) _ _ 22 (by rfl) (N + 1) Try.underlying22 info44 _ k S.ps (by rfl) ((HB3.out.own HO.out).later (below1 _ _).drew) _ 1 1 [⟨2, s, iv, cv, z5, y5, S.kn.r, tg, 0⟩] (by rfl) (rowT_one ((T9.newAt W2 W2.heap.size rfl 2 s iv cv z5 y5 S.kn.r tg 0).later (Below.refl _ _).drew) rfl HOK.out) (k + 1) (by rfl) (S.ps ++ [⟨2, s, iv, cv, z5, y5, S.kn.r, tg, 0⟩]) (by rfl) (by omega) (by simp [World.drew]; omega) ?_; intro a3 c3' W3 own3 hb3; have HF3 : Hid (RR W3 N ⟨S.kn.told, S.kn.r, z5⟩ ad k cp) := (HB3.out.1.later (below1 W2 (objT 2 s iv cv z5 y5 S.kn.r tg 0)).drew).lift hb3 (by omega); obtain ⟨g0, g1, g2, g3, gf, gz⟩ := HF3.out))
      all_goals
        go_wp2
        go_ret
        have hB3 : Below N w W3 := (HB3.out.2.1.trans ((below1 W2 (objT 2 s iv cv z5 y5 S.kn.r tg 0)).drew.mono (Nat.le_of_lt fz))).trans (hb3.mono (by omega))
        rw [HT.out]
        have hR3 := HF3.out
        rw [HTold.out] at hR3
        exact ⟨rfl, a3, k + 1, c3', RR.set3 hR3 _ _ _, own3.set (by omega), hB3.setCell (p := ⟨N, 3, none⟩) (Nat.le_refl _) _⟩
end Go.Proofs.Ytakikkigkmcffaa
/- The document's take. -/
namespace Go.Proofs.Ytakikkigkmcffaa
open Go.RowKit

theorem Took.ret {w w' : World} {N : Nat} {T : Option St} {e : Ending} (h : Took w N T e w') : e = .returned (.bool T.isSome) := by
  cases T <;> exact h.1
set_option maxHeartbeats 2000000 in
theorem take_any (kd : Int) (N : Nat) (S : St) (ad : Option Addr) (k cp : Nat) (b off n cap : Nat) (l : List Int) (w : World) (hF : RR w N S.kn ad k cp) (hO : OwnT w (N + 1) (.slice ad k cp) k S.ps) (hk : k ≤ 5000) (hr : Row8 w (some ⟨b, off, none⟩) n l) (hn : n ≤ 255) (hc : n ≤ cap) (hK : S.kn.Ok) :
    Calls Try.prog 33 #[.pointer (some ⟨N, 0, none⟩), .int .u8 kd, .slice (some ⟨b, off, none⟩) n cap] w (Took w N (tk S kd l)) := by
  have HF : Hid (RR w N S.kn ad k cp) := hF
  have HO : Hid (OwnT w (N + 1) (.slice ad k cp) k S.ps) := hO
  have HR : Hid (Row8 w (some ⟨b, off, none⟩) n l) := hr
  have HK : Hid S.kn.Ok := hK
  clear hF hO hr hK
  by_cases h4 : kd = 4
  · subst h4
    go_enter Try.func33, Try.ntmps33
    go_wp2_with (go_at_call 52; refine (short_pair 4 (.inl rfl) N S ad k cp b off n cap l _ HF.out HO.out hk HR.out hn).mono ?_; intro e W2 hW2; obtain rfl := hW2.ret)
    go_ret
    exact hW2
  by_cases h5 : kd = 5
  · subst h5
    go_enter Try.func33, Try.ntmps33
    go_wp2_with (go_at_call 52; refine (short_pair 5 (.inr rfl) N S ad k cp b off n cap l _ HF.out HO.out hk HR.out hn).mono ?_; intro e W2 hW2; obtain rfl := hW2.ret)
    go_ret
    exact hW2
  by_cases h6 : kd = 6
  · subst h6
    go_enter Try.func33, Try.ntmps33
    go_wp2_with (go_at_call 52; refine (short_rout N S ad k cp b off n cap l _ HF.out HO.out HR.out hn).mono ?_; intro e W2 hW2; obtain rfl := hW2.ret)
    go_ret
    exact hW2
  by_cases h8 : kd = 8
  · subst h8
    go_enter Try.func33, Try.ntmps33
    go_wp2_with (go_at_call 53; refine (upd_any N S ad k cp b off n cap l _ HF.out HO.out hk HR.out hn hc HK.out).mono ?_; intro e W2 hW2; obtain rfl := hW2.ret)
    go_ret
    exact hW2
  by_cases h9 : kd = 9
  · subst h9
    go_enter Try.func33, Try.ntmps33
    go_wp2_with (go_at_call 54; refine (ask_9 N S ad k cp b off n cap l _ HF.out HO.out hk HR.out hn hc).mono ?_; intro e W2 hW2; obtain rfl := hW2.ret)
    go_ret
    exact hW2
  by_cases h10 : kd = 10
  · subst h10
    go_enter Try.func33, Try.ntmps33
    go_wp2_with (go_at_call 54; refine (ask_10 N S ad k cp b off n cap l _ HF.out HO.out hk HR.out hn hc).mono ?_; intro e W2 hW2; obtain rfl := hW2.ret)
    go_ret
    exact hW2
  have HT : Hid (tk S kd l = some S) := by unfold Hid tk; rw [if_neg h4, if_neg h5, if_neg h6, if_neg h8, if_neg h9, if_neg h10]
  have e4 : (kd == 4) = false := by simpa using h4
  have e5 : (kd == 5) = false := by simpa using h5
  have e6 : (kd == 6) = false := by simpa using h6
  have e8 : (kd == 8) = false := by simpa using h8
  have e9 : (kd == 9) = false := by simpa using h9
  have e10 : (kd == 10) = false := by simpa using h10
  clear h4 h5 h6 h8 h9 h10
  go_enter Try.func33, Try.ntmps33
  go_wp2
  go_ret
  rw [HT.out]
  exact ⟨rfl, ad, k, cp, HF.out, HO.out, Below.refl _ _⟩
end Go.Proofs.Ytakikkigkmcffaa
/- The document's Decode. -/
namespace Go.Proofs.Ytakikkigkmcffaa
open Go.RowKit

theorem RR.new (w : World) : RR (w.alloc (.cells #[.int .u64 0, .bool false, .int .u32 0, .slice none 0 0] 64)) w.heap.size kn0 none 0 0 := by
  refine ⟨?_, ?_, ?_, ?_, fun o => ?_, ?_⟩ <;> simp [go_sem, kn0]
set_option maxRecDepth 8000 in
set_option maxHeartbeats 2000000 in
theorem refDecode_any (a : Option Addr) (n cap : Nat) (l : List Int) (w : World) (hr : Row8 w a n l) (hn : n ≤ 3000) (hc : n ≤ cap) :
    Calls Try.prog 17 #[.slice a n cap] w (DecI w (dec l)) := by
  have HL : Hid (l.length = n) := hr.1
  by_cases h4 : n < 4
  · have HD : Hid (dec l = ([], 2)) := dec_odd (by unfold framed; rw [HL.out, decide_eq_false (by omega)]; rfl)
    have i4 : (n : Int) < 4 := by omega
    clear hr
    go_enter Try.func17, Try.ntmps17
    go_wp2
    go_ret2
    exact ⟨none, 0, 0, by rw [HD.out]; rfl, by rw [HD.out]; exact rowT_none _, Below.refl _ _⟩
  obtain ⟨b, off, rfl, hcell⟩ := hr.at (by omega)
  have HR : Hid (Row8 w (some ⟨b, off, none⟩) n l) := hr
  have j4 : ¬ (n : Int) < 4 := by omega
  have d0 := hcell 0 (by omega)
  have d1 := hcell 1 (by omega)
  rw [Nat.add_zero] at d0
  have HCell : Hid (∀ i, i < n → w.cell? ⟨b, off + i, none⟩ = some (.int .u8 (l[i]?.getD 0))) := hcell
  have E0 : Hid (at8 l 0 = l[0]?.getD 0) := rfl
  have E1 : Hid (at8 l 1 = l[1]?.getD 0) := rfl
  generalize l[0]?.getD 0 = x at d0 E0
  generalize l[1]?.getD 0 = y at d1 E1
  have hbz : b < w.heap.size := block_lt_of_cell d0
  have i0 : 0 < n := by omega
  have i1 : 1 < n := by omega
  have j0 : (0 : Int) < (n : Int) := by omega
  have j1 : (1 : Int) < (n : Int) := by omega
  clear hcell
  by_cases hx : x = 42
  case neg =>
    have HD : Hid (dec l = ([], 2)) := dec_odd (by unfold framed; rw [E0.out, (by simpa using hx : (x == 42) = false)]; simp)
    have ex : (x != 42) = true := by simpa using hx
    clear hr hx
    go_enter Try.func17, Try.ntmps17
    go_wp2
    go_ret2
    exact ⟨none, 0, 0, by rw [HD.out]; rfl, by rw [HD.out]; exact rowT_none _, Below.refl _ _⟩
  subst hx
  by_cases hy : y = 2
  case neg =>
    have HD : Hid (dec l = ([], 2)) := dec_odd (by unfold framed; rw [E1.out, (by simpa using hy : (y == 2) = false)]; simp)
    have ex : (y != 2) = true := by simpa using hy
    clear hr hy
    go_enter Try.func17, Try.ntmps17
    go_wp2
    go_ret2
    exact ⟨none, 0, 0, by rw [HD.out]; rfl, by rw [HD.out]; exact rowT_none _, Below.refl _ _⟩
  subst hy
  have gb := getV_h hr.2.2.1 2
  obtain ⟨g, hg⟩ : ∃ g, getV l 2 2 = g := ⟨_, rfl⟩
  have HG : Hid (getV l 2 2 = g) := hg
  obtain ⟨n4, hn4⟩ : ∃ n4, n4 + 4 = n := ⟨n - 4, by omega⟩
  have w4 : IntKind.i64.wrap ((n : Int) - 4) = (n4 : Int) := by rw [wrap_in (by omega) (by omega)]; omega
  by_cases hge : g = (n4 : Int)
  case neg =>
    have HD : Hid (dec l = ([], 2)) := dec_odd (by unfold framed; rw [HG.out, HL.out, (by rw [beq_eq_false_iff_ne]; omega : (g == (n : Int) - 4) = false)]; simp)
    have ex : (g != (n4 : Int)) = true := by simpa using hge
    clear hr hge hg gb hn4
    go_enter Try.func17, Try.ntmps17
    go_wp2_with (go_at_call 32; refine (num2_any _ _ _ l _ HR.out (by omega) 2 (by omega) HG.out).mono ?_; rintro e_ w ⟨rfl, rfl⟩)
    go_ret2
    exact ⟨none, 0, 0, by rw [HD.out]; rfl, by rw [HD.out]; exact rowT_none _, Below.refl _ _⟩
  have HDD : Hid (dec l = fin (run ⟨kn0, []⟩ (l.drop 4))) := by
    unfold Hid dec
    rw [if_pos]
    unfold framed
    rw [E0.out, E1.out, HG.out, HL.out, decide_eq_true (p := 4 ≤ n) (by omega), hge]
    simp; omega
  subst hge
  have HBy : Hid (Bytes l) := hr.2.2.1
  clear hr hg gb hn4
  obtain ⟨T, hT⟩ : ∃ T, run ⟨kn0, []⟩ (l.drop 4) = T := ⟨_, rfl⟩
  have HT : Hid (run ⟨kn0, []⟩ (l.drop 4) = T) := hT
  have HTT0 : Hid (run ⟨kn0, []⟩ (l.drop 4) = T) := hT
  clear hT
  go_enter Try.func17, Try.ntmps17
  go_wp2_with (go_at_call 32; refine (num2_any _ _ _ l _ HR.out (by omega) 2 (by omega) HG.out).mono ?_; rintro e_ w ⟨rfl, rfl⟩)
  go_loopw [5] (fun i W => ∃ (j : Nat) (S : St) (ad : Option Addr) (k cp : Nat), j ≤ n ∧ i = .int .i64 j ∧ k + (n - j) ≤ 3000 ∧ Hid (RR W w.heap.size S.kn ad k cp) ∧ Hid (OwnT W (w.heap.size + 1) (.slice ad k cp) k S.ps) ∧ Hid S.Ok ∧ Hid (T = run S (l.drop j)) ∧ Below w.heap.size w W) (fun i _ => n - (intOf i).toNat)
  case atStart => exact ⟨4, ⟨kn0, []⟩, none, 0, 0, by omega, rfl, by omega, RR.new w, ownT_nil _ _, ⟨kn0_ok, none_ok, rfl⟩, HT.out.symm, below1 _ _⟩
  case round =>
    obtain ⟨j, S, ad, k, cp, hj, rfl, hkj, HF, HO, HS, HT, hB⟩ := hrel
    by_cases hlt : j < n
    · have hlt' : (j : Int) < (n : Int) := by omega
      obtain ⟨r, hr⟩ : ∃ r, n - j = r := ⟨_, rfl⟩
      have w1 : IntKind.i64.wrap ((n : Int) - (j : Int)) = (r : Int) := by rw [wrap_in (by omega) (by omega)]; omega
      have HLJ : Hid ((l.drop j).length = r) := by unfold Hid; rw [List.length_drop, HL.out]; exact hr
      have HN : Hid (_) := run_next (S := S) (l := l.drop j) (by rw [HLJ.out]; omega)
      by_cases hr2 : r < 2
      · have HD : Hid (dec l = ([], 2)) := by
          unfold Hid; rw [HDD.out, HTT0.out, HT.out, HN.out]
          have : one S (l.drop j) = none := by unfold one; rw [if_pos (by rw [HLJ.out]; exact hr2)]
          rw [this]; rfl
        have jr : (r : Int) < 2 := by omega
        clear HN
        go_wp2
        go_ret2
        exact ⟨none, 0, 0, by rw [HD.out]; rfl, by rw [HD.out]; exact rowT_none _, hB⟩
      have jr : ¬ (r : Int) < 2 := by omega
      obtain ⟨r2, hr2'⟩ : ∃ r2, r - 2 = r2 := ⟨_, rfl⟩
      have w2 : IntKind.i64.wrap ((r : Int) - 2) = (r2 : Int) := by rw [wrap_in (by omega) (by omega)]; omega
      obtain ⟨j1', hj1⟩ : ∃ j1, j + 1 = j1 := ⟨_, rfl⟩
      have w3 : IntKind.i64.wrap ((j : Int) + 1) = (j1' : Int) := by rw [wrap_in (by omega) (by omega)]; omega
      have q1 := cell_later hB (HCell.out j1' (by omega))
      have q0 := cell_later hB (HCell.out j hlt)
      have HD0 : Hid (w.cell? ⟨b, off + j, none⟩ = some (.int .u8 (l[j]?.getD 0))) := HCell.out j hlt
      have E0 : Hid (at8 (l.drop j) 0 = l[j]?.getD 0) := by unfold Hid at8; rw [List.getElem?_drop, Nat.add_zero]
      have E1 : Hid (at8 (l.drop j) 1 = l[j1']?.getD 0) := by unfold Hid at8; rw [List.getElem?_drop, hj1]
      have xb := HBy.out.at j1'
      generalize l[j]?.getD 0 = kd at q0 E0 HD0
      generalize l[j1']?.getD 0 = x0 at q1 E1 xb
      obtain ⟨x, rfl⟩ : ∃ x : Nat, x0 = (x : Int) := ⟨x0.toNat, by omega⟩
      have ex : IntKind.i64.wrap (x : Int) = (x : Int) := wrap_in (by omega) (by omega)
      have HLN : Hid (ln (l.drop j) = x) := by unfold Hid ln; rw [E1.out]; simp
      have jj1 : (j1' : Int) < (n : Int) := by omega
      by_cases hrx : r2 < x
      · have HD : Hid (dec l = ([], 2)) := by
          unfold Hid; rw [HDD.out, HTT0.out, HT.out, HN.out]
          have : one S (l.drop j) = none := by unfold one; rw [if_neg (by rw [HLJ.out]; exact hr2), if_pos (by rw [HLJ.out, HLN.out]; omega)]
          rw [this]; rfl
        have jx : (r2 : Int) < (x : Int) := by omega
        clear HN
        go_wp2
        go_ret2
        exact ⟨none, 0, 0, by rw [HD.out]; rfl, by rw [HD.out]; exact rowT_none _, hB⟩
      have jx : ¬ (r2 : Int) < (x : Int) := by omega
      obtain ⟨j2, hj2⟩ : ∃ j2, j + 2 = j2 := ⟨_, rfl⟩
      obtain ⟨j3, hj3⟩ : ∃ j3, j2 + x = j3 := ⟨_, rfl⟩
      have w5 : IntKind.i64.wrap ((j : Int) + 2) = (j2 : Int) := by rw [wrap_in (by omega) (by omega)]; omega
      have w6 : IntKind.i64.wrap ((j2 : Int) + (x : Int)) = (j3 : Int) := by rw [wrap_in (by omega) (by omega)]; omega
      have g1 : (j2 : Int) ≤ (j3 : Int) := by omega
      have g2 : (j3 : Int) ≤ (cap : Int) := by omega
      have g3 : j3 - j2 = x := by omega
      obtain ⟨o, ho⟩ : ∃ o, (if cap = j2 then some ⟨b, off, none⟩ else some ⟨b, off + j2, none⟩ : Option Addr) = some ⟨b, o, none⟩ := by
        by_cases h : cap = j2
        · exact ⟨off, if_pos h⟩
        · exact ⟨off + j2, if_neg h⟩
      have HRW : Hid (Row8 w (some ⟨b, o, none⟩) x ((l.drop j2).take x)) := by
        have h := HR.out.rest j2 cap (by omega) hc b off rfl
        rw [ho] at h
        exact Row8.take h x (by omega)
      have HOne : Hid (one S (l.drop j) = tk S kd ((l.drop j2).take x)) := by
        unfold Hid one
        rw [if_neg (by rw [HLJ.out]; exact hr2), if_neg (by rw [HLJ.out, HLN.out]; omega), E0.out, HLN.out, List.drop_drop, hj2]
      have HDrop : Hid ((l.drop j).drop (2 + ln (l.drop j)) = l.drop j3) := by
        unfold Hid; rw [HLN.out, List.drop_drop]; congr 1; omega
      have hF := HF.out
      obtain ⟨f0, f1, f2, f3, ff, fz⟩ := hF
      clear f0 f1 f2 f3 ff
      cases h1 : tk S kd ((l.drop j2).take x) with
      | none =>
        have HD : Hid (dec l = ([], 2)) := by
          unfold Hid; rw [HDD.out, HTT0.out, HT.out, HN.out, HOne.out, h1]; rfl
        have H1 : Hid (tk S kd ((l.drop j2).take x) = none) := h1
        clear HN h1
        go_wp2
        go_region_held3 (fun w' => w'.cell? ⟨b, off + j, none⟩ = some (.int .u8 kd)) (first | exact s1 | go_keep)
          ((go_at_call 33; refine (take_any kd w.heap.size S ad k cp b o x _ ((l.drop j2).take x) _ (HF.out.later (Below.refl _ _).drew) (HO.out.later (Below.refl _ _).drew) (by omega) (HRW.out.later (hB.drew)) (by omega) (by omega) HS.out.k).mono ?_; intro e_ W2 hW2; rw [H1.out] at hW2; obtain ⟨rfl, hB2⟩ := hW2; have hB3 := hB.drew.trans hB2; have s1 := cell_later hB3 HD0.out))
        go_wp2
        go_ret2
        exact ⟨none, 0, 0, by rw [HD.out]; rfl, by rw [HD.out]; exact rowT_none _, hB3⟩
      | some S' =>
        have H1 : Hid (tk S kd ((l.drop j2).take x) = some S') := h1
        have HT' : Hid (T = run S' (l.drop j3)) := by unfold Hid; rw [HT.out, HN.out, HOne.out, h1, ← HDrop.out]
        have HS' : Hid S'.Ok := tk_ok HS.out (take_bytes (drop_bytes HBy.out _) _) h1
        have HLen : Hid (S'.ps.length ≤ k + 1) := by unfold Hid; rw [← HO.out.len]; exact tk_len h1
        clear HN h1
        go_wp2
        go_region_held3 (fun w' => w'.cell? ⟨b, off + j, none⟩ = some (.int .u8 kd)) (first | exact s1 | go_keep)
          ((go_at_call 33; refine (take_any kd w.heap.size S ad k cp b o x _ ((l.drop j2).take x) _ (HF.out.later (Below.refl _ _).drew) (HO.out.later (Below.refl _ _).drew) (by omega) (HRW.out.later (hB.drew)) (by omega) (by omega) HS.out.k).mono ?_; intro e_ W2 hW2; rw [H1.out] at hW2; obtain ⟨rfl, ad2, k2, cp2, hF2, hO2, hB2⟩ := hW2; have hB3 := hB.drew.trans hB2; have s1 := cell_later hB3 HD0.out))
        go_wp2
        go_roundw
        case rel =>
          have hk2 := hO2.len
          have hl2 := HLen.out
          exact ⟨j3, S', ad2, k2, cp2, by omega, by go_num, by omega, hF2, hO2, HS', HT', hB3⟩
        case measure => simp [intOf]; omega
    · have hlt' : ¬ (j : Int) < (n : Int) := by omega
      obtain rfl : j = n := by omega
      have HE : Hid (dec l = fin (some S)) := by
        unfold Hid
        rw [HDD.out, HTT0.out, HT.out, List.drop_eq_nil_of_le (by rw [HL.out]; exact Nat.le_refl _), run_nil]
      have HKL : Hid (S.ps.length = k) := HO.out.len
      obtain ⟨f0, f1, f2, f3, ff, fz⟩ := HF.out
      clear f0 f1 f2 ff
      by_cases h40 : 40 < k
      · have HD : Hid (dec l = ([], 9)) := by unfold Hid; rw [HE.out]; simp only [fin]; rw [if_pos (by rw [HKL.out]; exact h40)]
        have h40' : (40 : Int) < (k : Int) := by omega
        go_wp2
        go_ret2
        exact ⟨none, 0, 0, by rw [HD.out]; rfl, by rw [HD.out]; exact rowT_none _, hB⟩
      · have HD : Hid (dec l = (S.ps, 0)) := by unfold Hid; rw [HE.out]; simp only [fin]; rw [if_neg (by rw [HKL.out]; exact h40)]
        have h40' : ¬ (40 : Int) < (k : Int) := by omega
        go_wp2
        go_ret2
        exact ⟨ad, k, cp, by rw [HD.out]; rfl, by rw [HD.out]; exact HO.out.row HS.out.o, hB⟩
end Go.Proofs.Ytakikkigkmcffaa
