/- readBody: hello and IHU. -/
import Derived.Deep.RegionLaw
import Derived.Test.YtakikkigkmcffaaCDA
namespace Go.Proofs.Ytakikkigkmcffaa
open Go.RowKit

/-- What the program's reader leaves of a part. -/
def TookI (w : World) (N : Nat) (ra : Option Addr) (m cc : Nat) : Option St → Ending → World → Prop
  | none, e, w' => e = .returned (.bool false) ∧ Below N w w'
  | some S, e, w' => e = .returned (.bool true) ∧ ∃ ad k cp, RF w' N S.kn ra m cc ad k cp ∧ OwnT w' (N + 1) (.slice ad k cp) k S.ps ∧ Below N w w'
theorem T9.newA (W : World) (N : Nat) (hN : N = W.heap.size) (k s i c a l r t h : Int) : T9 (W.alloc (objT k s i c a l r t h)) N 0 ⟨k, s, i, c, a, l, r, t, h⟩ := by subst hN; exact T9.new W k s i c a l r t h
set_option maxRecDepth 8000 in
set_option maxHeartbeats 2000000 in
theorem body_4 (N : Nat) (S : St) (ra : Option Addr) (m cc : Nat) (ad : Option Addr) (k cp : Nat) (b off n cap : Nat) (l : List Int) (w : World) (hF : RF w N S.kn ra m cc ad k cp) (hO : OwnT w (N + 1) (.slice ad k cp) k S.ps) (hk : k ≤ 5000) (hr : Row8 w (some ⟨b, off, none⟩) n l) (hn : n ≤ 255) :
    Calls Try.prog 50 #[.pointer (some ⟨N, 0, none⟩), .int .u8 4, .slice (some ⟨b, off, none⟩) n cap] w (TookI w N ra m cc (tk S 4 l)) := by
  have HR : Hid (Row8 w (some ⟨b, off, none⟩) n l) := hr
  have HL : Hid (l.length = n) := hr.1
  have HF : Hid (RF w N S.kn ra m cc ad k cp) := hF
  have HO : Hid (OwnT w (N + 1) (.slice ad k cp) k S.ps) := hO
  have bx := g16_bd hr.2.2.1 2
  have bw := g16_bd hr.2.2.1 4
  obtain ⟨x, hx⟩ : ∃ x, g16 l 2 = x := ⟨_, rfl⟩
  obtain ⟨y, hy⟩ : ∃ y, g16 l 4 = y := ⟨_, rfl⟩
  obtain ⟨v, hv⟩ : ∃ v, pairB l = v := ⟨_, rfl⟩
  rw [hx] at bx
  rw [hy] at bw
  have HX : Hid (g16 l 2 = x) := hx
  have HY : Hid (g16 l 4 = y) := hy
  have HVv : Hid (pairB l = v) := hv
  have HOK : Hid (Tlv.Ok ⟨0, x, y, 0, 0, 0, 0, 0, 0⟩) := by unfold Hid; constructor <;> simp only <;> omega
  have HT : Hid (tk S 4 l = if v = true then some (S.add ⟨0, x, y, 0, 0, 0, 0, 0, 0⟩) else none) := by
    unfold Hid tk
    rw [if_pos rfl, hv]
    cases v
    · rfl
    · have h6 : l.length = 6 := by unfold pairB at hv; simp only [Bool.and_eq_true, decide_eq_true_eq] at hv; exact hv.1
      rw [g16_is (by omega)] at hx hy
      simp only [if_true]; unfold helloT; rw [hx, hy]
  have hz : N < w.heap.size := hF.2.2.2.2.2.2
  clear hr hF hO hx hy hv bx bw
  go_enter Try.func50, Try.ntmps50
  go_wp2_with (go_at_call 60; refine (readHello_any _ _ _ l _ (HR.out.later (below1 _ _)) (by omega) HX.out HY.out HVv.out).mono ?_; rintro e W1 ⟨rfl, hb1⟩; have HB1 : Hid (BM w W1 N S.kn ra m cc ad k cp t0) := BM.of HF.out hb1; clear hb1; obtain ⟨-, -, -, hT9, nf, lt1, -⟩ := HB1.out; obtain ⟨c0, c1, c2, c3, c4, c5, c6, c7, c8⟩ := hT9.z; clear hT9)
  obtain ⟨W2, hW2⟩ : ∃ W2, W2 = (((((((((W1.setCell ⟨w.heap.size, 0, none⟩ (.int .i64 0)).setCell ⟨w.heap.size, 1, none⟩ (.int .u16 x)).setCell ⟨w.heap.size, 2, none⟩ (.int .i64 y)).setCell ⟨w.heap.size, 3, none⟩ (.int .i64 0)).setCell ⟨w.heap.size, 4, none⟩ (.int .u32 0)).setCell ⟨w.heap.size, 5, none⟩ (.int .i64 0)).setCell ⟨w.heap.size, 6, none⟩ (.int .u64 0)).setCell ⟨w.heap.size, 7, none⟩ (.int .u16 0)).setCell ⟨w.heap.size, 8, none⟩ (.int .i64 0)) := ⟨_, rfl⟩
  rw [← hW2]
  have HB2 : Hid (BM w W2 N S.kn ra m cc ad k cp ⟨0, x, y, 0, 0, 0, 0, 0, 0⟩) := by unfold Hid; rw [hW2]; exact HB1.out.set ⟨0, x, y, 0, 0, 0, 0, 0, 0⟩
  clear hW2 c0 c1 c2 c3 c4 c5 c6 c7 c8 nf lt1
  obtain ⟨⟨f0, f1, f2, f3, f4, ff, fz⟩, -, -, hT2, nf2, lt2, hN⟩ := HB2.out
  obtain ⟨c0, c1, c2, c3, c4, c5, c6, c7, c8⟩ := hT2.z
  clear hT2
  go_region_law
    (first
      | (refine step_appT _ (by rfl) _ _ 22 (by rfl) (N + 1) Try.underlying22 info44 _ k S.ps (by rfl) ((HB2.out.own HO.out).later (below1 _ _).drew) _ 1 1 [⟨0, x, y, 0, 0, 0, 0, 0, 0⟩] (by rfl) (rowT_one ((T9.newA W2 W2.heap.size rfl 0 x y 0 0 0 0 0 0).later (Below.refl _ _).drew) rfl HOK.out) (k + 1) (by rfl) (S.ps ++ [⟨0, x, y, 0, 0, 0, 0, 0, 0⟩]) (by rfl) (by omega) (by simp [World.drew]; omega) ?_; intro a3 c3' W3 own3 hb3; have HF3 : Hid (RF W3 N S.kn ra m cc ad k cp) := (HB2.out.1.later (below1 W2 (objT 0 x y 0 0 0 0 0 0)).drew).lift hb3 (by omega); obtain ⟨g0, g1, g2, g3, g4, gf, gz⟩ := HF3.out))
  all_goals
    go_wp2
    go_ret
    have hB3 : Below N w W3 := (HB2.out.2.1.trans ((below1 W2 (objT 0 x y 0 0 0 0 0 0)).drew.mono (Nat.le_of_lt fz))).trans (hb3.mono (by omega))
    rw [HT.out]
    cases v
    · exact ⟨rfl, hB3.setCell (p := ⟨N, 4, none⟩) (Nat.le_refl _) _⟩
    · exact ⟨rfl, a3, k + 1, c3', RF.set4 HF3.out _ _ _, own3.set (by omega), hB3.setCell (p := ⟨N, 4, none⟩) (Nat.le_refl _) _⟩
set_option maxRecDepth 8000 in
set_option maxHeartbeats 2000000 in
theorem body_5 (N : Nat) (S : St) (ra : Option Addr) (m cc : Nat) (ad : Option Addr) (k cp : Nat) (b off n cap : Nat) (l : List Int) (w : World) (hF : RF w N S.kn ra m cc ad k cp) (hO : OwnT w (N + 1) (.slice ad k cp) k S.ps) (hk : k ≤ 5000) (hr : Row8 w (some ⟨b, off, none⟩) n l) (hn : n ≤ 255) :
    Calls Try.prog 50 #[.pointer (some ⟨N, 0, none⟩), .int .u8 5, .slice (some ⟨b, off, none⟩) n cap] w (TookI w N ra m cc (tk S 5 l)) := by
  have HR : Hid (Row8 w (some ⟨b, off, none⟩) n l) := hr
  have HL : Hid (l.length = n) := hr.1
  have HF : Hid (RF w N S.kn ra m cc ad k cp) := hF
  have HO : Hid (OwnT w (N + 1) (.slice ad k cp) k S.ps) := hO
  have bx := g16_bd hr.2.2.1 2
  have bw := g16_bd hr.2.2.1 4
  obtain ⟨x, hx⟩ : ∃ x, g16 l 2 = x := ⟨_, rfl⟩
  obtain ⟨y, hy⟩ : ∃ y, g16 l 4 = y := ⟨_, rfl⟩
  obtain ⟨v, hv⟩ : ∃ v, pairB l = v := ⟨_, rfl⟩
  rw [hx] at bx
  rw [hy] at bw
  have HX : Hid (g16 l 2 = x) := hx
  have HY : Hid (g16 l 4 = y) := hy
  have HVv : Hid (pairB l = v) := hv
  have HOK : Hid (Tlv.Ok ⟨1, 0, y, x, 0, 0, 0, 0, 0⟩) := by unfold Hid; constructor <;> simp only <;> omega
  have HT : Hid (tk S 5 l = if v = true then some (S.add ⟨1, 0, y, x, 0, 0, 0, 0, 0⟩) else none) := by
    unfold Hid tk
    rw [if_neg (by decide), if_pos rfl, hv]
    cases v
    · rfl
    · have h6 : l.length = 6 := by unfold pairB at hv; simp only [Bool.and_eq_true, decide_eq_true_eq] at hv; exact hv.1
      rw [g16_is (by omega)] at hx hy
      simp only [if_true]; unfold ihuT; rw [hx, hy]
  have hz : N < w.heap.size := hF.2.2.2.2.2.2
  clear hr hF hO hx hy hv bx bw
  go_enter Try.func50, Try.ntmps50
  go_wp2_with (go_at_call 61; refine (readIhu_any _ _ _ l _ (HR.out.later (below1 _ _)) (by omega) HX.out HY.out HVv.out).mono ?_; rintro e W1 ⟨rfl, hb1⟩; have HB1 : Hid (BM w W1 N S.kn ra m cc ad k cp t0) := BM.of HF.out hb1; clear hb1; obtain ⟨-, -, -, hT9, nf, lt1, -⟩ := HB1.out; obtain ⟨c0, c1, c2, c3, c4, c5, c6, c7, c8⟩ := hT9.z; clear hT9)
  obtain ⟨W2, hW2⟩ : ∃ W2, W2 = (((((((((W1.setCell ⟨w.heap.size, 0, none⟩ (.int .i64 1)).setCell ⟨w.heap.size, 1, none⟩ (.int .u16 0)).setCell ⟨w.heap.size, 2, none⟩ (.int .i64 y)).setCell ⟨w.heap.size, 3, none⟩ (.int .i64 x)).setCell ⟨w.heap.size, 4, none⟩ (.int .u32 0)).setCell ⟨w.heap.size, 5, none⟩ (.int .i64 0)).setCell ⟨w.heap.size, 6, none⟩ (.int .u64 0)).setCell ⟨w.heap.size, 7, none⟩ (.int .u16 0)).setCell ⟨w.heap.size, 8, none⟩ (.int .i64 0)) := ⟨_, rfl⟩
  rw [← hW2]
  have HB2 : Hid (BM w W2 N S.kn ra m cc ad k cp ⟨1, 0, y, x, 0, 0, 0, 0, 0⟩) := by unfold Hid; rw [hW2]; exact HB1.out.set ⟨1, 0, y, x, 0, 0, 0, 0, 0⟩
  clear hW2 c0 c1 c2 c3 c4 c5 c6 c7 c8 nf lt1
  obtain ⟨⟨f0, f1, f2, f3, f4, ff, fz⟩, -, -, hT2, nf2, lt2, hN⟩ := HB2.out
  obtain ⟨c0, c1, c2, c3, c4, c5, c6, c7, c8⟩ := hT2.z
  clear hT2
  go_region_law
    (first
      | (refine step_appT _ (by rfl) _ _ 22 (by rfl) (N + 1) Try.underlying22 info44 _ k S.ps (by rfl) ((HB2.out.own HO.out).later (below1 _ _).drew) _ 1 1 [⟨1, 0, y, x, 0, 0, 0, 0, 0⟩] (by rfl) (rowT_one ((T9.newA W2 W2.heap.size rfl 1 0 y x 0 0 0 0 0).later (Below.refl _ _).drew) rfl HOK.out) (k + 1) (by rfl) (S.ps ++ [⟨1, 0, y, x, 0, 0, 0, 0, 0⟩]) (by rfl) (by omega) (by simp [World.drew]; omega) ?_; intro a3 c3' W3 own3 hb3; have HF3 : Hid (RF W3 N S.kn ra m cc ad k cp) := (HB2.out.1.later (below1 W2 (objT 1 0 y x 0 0 0 0 0)).drew).lift hb3 (by omega); obtain ⟨g0, g1, g2, g3, g4, gf, gz⟩ := HF3.out))
  all_goals
    go_wp2
    go_ret
    have hB3 : Below N w W3 := (HB2.out.2.1.trans ((below1 W2 (objT 1 0 y x 0 0 0 0 0)).drew.mono (Nat.le_of_lt fz))).trans (hb3.mono (by omega))
    rw [HT.out]
    cases v
    · exact ⟨rfl, hB3.setCell (p := ⟨N, 4, none⟩) (Nat.le_refl _) _⟩
    · exact ⟨rfl, a3, k + 1, c3', RF.set4 HF3.out _ _ _, own3.set (by omega), hB3.setCell (p := ⟨N, 4, none⟩) (Nat.le_refl _) _⟩
end Go.Proofs.Ytakikkigkmcffaa
