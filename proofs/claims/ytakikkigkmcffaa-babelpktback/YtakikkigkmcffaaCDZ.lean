/- Between a part's reading and its append. -/
import Derived.Deep.RegionLaw
import Derived.Test.YtakikkigkmcffaaConS
import Derived.Test.YtakikkigkmcffaaCD6
import Derived.Test.YtakikkigkmcffaaCD7
import Derived.Test.YtakikkigkmcffaaCD8
import Derived.Test.YtakikkigkmcffaaCD9
import Derived.BigQuiet
import Derived.Deep.QuietTactic
namespace Go.Proofs.Ytakikkigkmcffaa
open Go.RowKit

theorem OwnT.mid0 {w w' : World} {N : Nat} {v : Value} {n : Nat} {es : List Tlv} (h : OwnT w (N + 1) v n es) (hb : ∀ j, N < j → j < w.heap.size → w'.heap[j]? = w.heap[j]?) : OwnT w' (N + 1) v n es := by
  refine ⟨h.1, ?_⟩
  rcases h.2 with hn | ⟨g, cap, cur, hv, hbg, hg, r⟩
  · exact .inl hn
  · refine .inr ⟨g, cap, cur, hv, hbg, ?_, r⟩
    rw [hb g hbg (Array.getElem?_eq_some_iff.1 hg).1]
    exact hg
/-- The reader, and a part p in the block behind the entry's world; all between them stands as it was. -/
def BM (w W1 : World) (N : Nat) (K : Kn) (ra : Option Addr) (m cc : Nat) (ad : Option Addr) (k cp : Nat) (p : Tlv) : Prop :=
  RF W1 N K ra m cc ad k cp ∧ Below N w W1 ∧ (∀ j, N < j → j < w.heap.size → W1.heap[j]? = w.heap[j]?) ∧ T9 W1 w.heap.size 0 p ∧ (∀ o, W1.frozen? ⟨w.heap.size, o, none⟩ = false) ∧ w.heap.size < W1.heap.size ∧ N < w.heap.size
abbrev t0 : Tlv := ⟨0, 0, 0, 0, 0, 0, 0, 0, 0⟩
section
variable {w W1 : World} {N : Nat} {K : Kn} {ra : Option Addr} {m cc : Nat} {ad : Option Addr} {k cp : Nat}
theorem BM.of (hF : RF w N K ra m cc ad k cp) (hb : Below (w.alloc objZ).heap.size (w.alloc objZ) W1) : BM w W1 N K ra m cc ad k cp t0 := by
  have h := Below.out1 hb
  have hz := hb.size
  simp only [World.size_alloc] at hz
  exact ⟨hF.later h, h.mono (Nat.le_of_lt hF.2.2.2.2.2.2), fun j _ hj => h.block j hj, (T9.new w 0 0 0 0 0 0 0 0 0).later hb, fun o => (hb.frozen (p := ⟨w.heap.size, o, none⟩) (by simp)).trans (by simp [go_sem]), by omega, hF.2.2.2.2.2.2⟩
theorem BM.set {p0 : Tlv} (h : BM w W1 N K ra m cc ad k cp p0) (p : Tlv) : BM w (((((((((W1.setCell ⟨w.heap.size, 0, none⟩ (.int .i64 p.k)).setCell ⟨w.heap.size, 1, none⟩ (.int .u16 p.s)).setCell ⟨w.heap.size, 2, none⟩ (.int .i64 p.i)).setCell ⟨w.heap.size, 3, none⟩ (.int .i64 p.c)).setCell ⟨w.heap.size, 4, none⟩ (.int .u32 p.a)).setCell ⟨w.heap.size, 5, none⟩ (.int .i64 p.l)).setCell ⟨w.heap.size, 6, none⟩ (.int .u64 p.r)).setCell ⟨w.heap.size, 7, none⟩ (.int .u16 p.t)).setCell ⟨w.heap.size, 8, none⟩ (.int .i64 p.h)) N K ra m cc ad k cp p := by
  obtain ⟨hF, hB, hj, hT, hf, hz, hN⟩ := h
  simp only [T9, Nat.zero_add] at hT
  obtain ⟨c0, c1, c2, c3, c4, c5, c6, c7, c8⟩ := hT
  refine ⟨hF.lift (B := w.heap.size) ?_ hN, ?_, fun j h1 h2 => ?_, ?_, fun o => ?_, ?_, hN⟩
  · exact ((((((((((Below.refl _ _).setCell (p := ⟨w.heap.size, 0, none⟩) (Nat.le_refl _) _).setCell (p := ⟨w.heap.size, 1, none⟩) (Nat.le_refl _) _).setCell (p := ⟨w.heap.size, 2, none⟩) (Nat.le_refl _) _).setCell (p := ⟨w.heap.size, 3, none⟩) (Nat.le_refl _) _).setCell (p := ⟨w.heap.size, 4, none⟩) (Nat.le_refl _) _).setCell (p := ⟨w.heap.size, 5, none⟩) (Nat.le_refl _) _).setCell (p := ⟨w.heap.size, 6, none⟩) (Nat.le_refl _) _).setCell (p := ⟨w.heap.size, 7, none⟩) (Nat.le_refl _) _).setCell (p := ⟨w.heap.size, 8, none⟩) (Nat.le_refl _) _)
  · exact (((((((((hB.setCell (p := ⟨w.heap.size, 0, none⟩) (Nat.le_of_lt hN) _).setCell (p := ⟨w.heap.size, 1, none⟩) (Nat.le_of_lt hN) _).setCell (p := ⟨w.heap.size, 2, none⟩) (Nat.le_of_lt hN) _).setCell (p := ⟨w.heap.size, 3, none⟩) (Nat.le_of_lt hN) _).setCell (p := ⟨w.heap.size, 4, none⟩) (Nat.le_of_lt hN) _).setCell (p := ⟨w.heap.size, 5, none⟩) (Nat.le_of_lt hN) _).setCell (p := ⟨w.heap.size, 6, none⟩) (Nat.le_of_lt hN) _).setCell (p := ⟨w.heap.size, 7, none⟩) (Nat.le_of_lt hN) _).setCell (p := ⟨w.heap.size, 8, none⟩) (Nat.le_of_lt hN) _)
  · iterate 9 rw [setCell_block _ _ _ j (by show w.heap.size ≠ j; omega)]
    exact hj j h1 h2
  · simp only [T9, Nat.zero_add]
    refine ⟨?_, ?_, ?_, ?_, ?_, ?_, ?_, ?_, ?_⟩ <;> simp [go_sem, c0, c1, c2, c3, c4, c5, c6, c7, c8]
  · simp [go_sem, hf]
  · simpa using hz
theorem BM.own {p : Tlv} {es : List Tlv} (h : BM w W1 N K ra m cc ad k cp p) (hO : OwnT w (N + 1) (.slice ad k cp) k es) : OwnT W1 (N + 1) (.slice ad k cp) k es := hO.mid0 h.2.2.1
end
end Go.Proofs.Ytakikkigkmcffaa
/- readBody: hello and IHU. -/
namespace Go.Proofs.Ytakikkigkmcffaa
open Go.RowKit

/-- What the program's reader leaves of a part. -/
def TookI (w : World) (N : Nat) (ra : Option Addr) (m cc : Nat) : Option St → Ending → World → Prop
  | none, e, w' => e = .returned (.bool false) ∧ Below N w w'
  | some S, e, w' => e = .returned (.bool true) ∧ ∃ ad k cp, RF w' N S.kn ra m cc ad k cp ∧ OwnT w' (N + 1) (.slice ad k cp) k S.ps ∧ Below N w w'
theorem T9.newA (W : World) (N : Nat) (hN : N = W.heap.size) (k s i c a l r t h : Int) : T9 (W.alloc (objT k s i c a l r t h)) N 0 ⟨k, s, i, c, a, l, r, t, h⟩ := by subst hN; exact T9.new W k s i c a l r t h
set_option maxRecDepth 8000 in
set_option maxHeartbeats 2000000 in
theorem body_4 (N : Nat) (S : St) (ra : Option Addr) (m cc : Nat) (ad : Option Addr) (k cp : Nat) (b off n cap : Nat) (l : List Int) (w : World) (hF : RF w N S.kn ra m cc ad k cp) (hO : OwnT w (N + 1) (.slice ad k cp) k S.ps) (hk : k ≤ 5000) (hr : Row8 w (some ⟨b, off, none⟩) n l) (hn : n ≤ 255) :
    Calls Try.prog 50 #[.pointer (some ⟨N, 0, none⟩), .int .u8 4, .slice (some ⟨b, off, none⟩) n cap] w (TookI w N ra m cc (tk S 4 l)) := by
  have HR : Hid (Row8 w (some ⟨b, off, none⟩) n l) := hr
  have HL : Hid (l.length = n) := hr.1
  have HF : Hid (RF w N S.kn ra m cc ad k cp) := hF
  have HO : Hid (OwnT w (N + 1) (.slice ad k cp) k S.ps) := hO
  have bx := g16_bd hr.2.2.1 2
  have bw := g16_bd hr.2.2.1 4
  obtain ⟨x, hx⟩ : ∃ x, g16 l 2 = x := ⟨_, rfl⟩
  obtain ⟨y, hy⟩ : ∃ y, g16 l 4 = y := ⟨_, rfl⟩
  obtain ⟨v, hv⟩ : ∃ v, pairB l = v := ⟨_, rfl⟩
  rw [hx] at bx
  rw [hy] at bw
  have HX : Hid (g16 l 2 = x) := hx
  have HY : Hid (g16 l 4 = y) := hy
  have HVv : Hid (pairB l = v) := hv
  have HOK : Hid (Tlv.Ok ⟨0, x, y, 0, 0, 0, 0, 0, 0⟩) := by unfold Hid; constructor <;> simp only <;> omega
  have HT : Hid (tk S 4 l = if v = true then some (S.add ⟨0, x, y, 0, 0, 0, 0, 0, 0⟩) else none) := by
    unfold Hid tk
    rw [if_pos rfl, hv]
    cases v
    · rfl
    · have h6 : l.length = 6 := by unfold pairB at hv; simp only [Bool.and_eq_true, decide_eq_true_eq] at hv; exact hv.1
      rw [g16_is (by omega)] at hx hy
      simp only [if_true]; unfold helloT; rw [hx, hy]
  have hz : N < w.heap.size := hF.2.2.2.2.2.2
  clear hr hF hO hx hy hv bx bw
  go_enter Try.func50, Try.ntmps50
  go_wp2_with (go_at_call 60; refine (readHello_any _ _ _ l _ (HR.out.later (below1 _ _)) (by omega) HX.out HY.out HVv.out).mono ?_; rintro e W1 ⟨rfl, hb1⟩; have HB1 : Hid (BM w W1 N S.kn ra m cc ad k cp t0) := BM.of HF.out hb1; clear hb1; obtain ⟨-, -, -, hT9, nf, lt1, -⟩ := HB1.out; obtain ⟨c0, c1, c2, c3, c4, c5, c6, c7, c8⟩ := hT9.z; clear hT9)
  obtain ⟨W2, hW2⟩ : ∃ W2, W2 = (((((((((W1.setCell ⟨w.heap.size, 0, none⟩ (.int .i64 0)).setCell ⟨w.heap.size, 1, none⟩ (.int .u16 x)).setCell ⟨w.heap.size, 2, none⟩ (.int .i64 y)).setCell ⟨w.heap.size, 3, none⟩ (.int .i64 0)).setCell ⟨w.heap.size, 4, none⟩ (.int .u32 0)).setCell ⟨w.heap.size, 5, none⟩ (.int .i64 0)).setCell ⟨w.heap.size, 6, none⟩ (.int .u64 0)).setCell ⟨w.heap.size, 7, none⟩ (.int .u16 0)).setCell ⟨w.heap.size, 8, none⟩ (.int .i64 0)) := ⟨_, rfl⟩
  rw [← hW2]
  have HB2 : Hid (BM w W2 N S.kn ra m cc ad k cp ⟨0, x, y, 0, 0, 0, 0, 0, 0⟩) := by unfold Hid; rw [hW2]; exact HB1.out.set ⟨0, x, y, 0, 0, 0, 0, 0, 0⟩
  clear hW2 c0 c1 c2 c3 c4 c5 c6 c7 c8 nf lt1
  obtain ⟨⟨f0, f1, f2, f3, f4, ff, fz⟩, -, -, hT2, nf2, lt2, hN⟩ := HB2.out
  obtain ⟨c0, c1, c2, c3, c4, c5, c6, c7, c8⟩ := hT2.z
  clear hT2
  go_region_law
    (first
      | (refine step_appT _ (by rfl) _ _ 22 (by rfl) (N + 1) Try.underlying22 info44 _ k S.ps (by rfl) ((HB2.out.own HO.out).later (below1 _ _).drew) _ 1 1 [⟨0, x, y, 0, 0, 0, 0, 0, 0⟩] (by rfl) (rowT_one ((T9.newA W2 W2.heap.size rfl 0 x y 0 0 0 0 0 0).later (Below.refl _ _).drew) rfl HOK.out) (k + 1) (by rfl) (S.ps ++ [⟨0, x, y, 0, 0, 0, 0, 0, 0⟩]) (by rfl) (by omega) (by simp [World.drew]; omega) ?_; intro a3 c3' W3 own3 hb3; have HF3 : Hid (RF W3 N S.kn ra m cc ad k cp) := (HB2.out.1.later (below1 W2 (objT 0 x y 0 0 0 0 0 0)).drew).lift hb3 (by omega); obtain ⟨g0, g1, g2, g3, g4, gf, gz⟩ := HF3.out))
  all_goals
    go_wp2
    go_ret
    have hB3 : Below N w W3 := (HB2.out.2.1.trans ((below1 W2 (objT 0 x y 0 0 0 0 0 0)).drew.mono (Nat.le_of_lt fz))).trans (hb3.mono (by omega))
    rw [HT.out]
    cases v
    · exact ⟨rfl, hB3.setCell (p := ⟨N, 4, none⟩) (Nat.le_refl _) _⟩
    · exact ⟨rfl, a3, k + 1, c3', RF.set4 HF3.out _ _ _, own3.set (by omega), hB3.setCell (p := ⟨N, 4, none⟩) (Nat.le_refl _) _⟩
set_option maxRecDepth 8000 in
set_option maxHeartbeats 2000000 in
theorem body_5 (N : Nat) (S : St) (ra : Option Addr) (m cc : Nat) (ad : Option Addr) (k cp : Nat) (b off n cap : Nat) (l : List Int) (w : World) (hF : RF w N S.kn ra m cc ad k cp) (hO : OwnT w (N + 1) (.slice ad k cp) k S.ps) (hk : k ≤ 5000) (hr : Row8 w (some ⟨b, off, none⟩) n l) (hn : n ≤ 255) :
    Calls Try.prog 50 #[.pointer (some ⟨N, 0, none⟩), .int .u8 5, .slice (some ⟨b, off, none⟩) n cap] w (TookI w N ra m cc (tk S 5 l)) := by
  have HR : Hid (Row8 w (some ⟨b, off, none⟩) n l) := hr
  have HL : Hid (l.length = n) := hr.1
  have HF : Hid (RF w N S.kn ra m cc ad k cp) := hF
  have HO : Hid (OwnT w (N + 1) (.slice ad k cp) k S.ps) := hO
  have bx := g16_bd hr.2.2.1 2
  have bw := g16_bd hr.2.2.1 4
  obtain ⟨x, hx⟩ : ∃ x, g16 l 2 = x := ⟨_, rfl⟩
  obtain ⟨y, hy⟩ : ∃ y, g16 l 4 = y := ⟨_, rfl⟩
  obtain ⟨v, hv⟩ : ∃ v, pairB l = v := ⟨_, rfl⟩
  rw [hx] at bx
  rw [hy] at bw
  have HX : Hid (g16 l 2 = x) := hx
  have HY : Hid (g16 l 4 = y) := hy
  have HVv : Hid (pairB l = v) := hv
  have HOK : Hid (Tlv.Ok ⟨1, 0, y, x, 0, 0, 0, 0, 0⟩) := by unfold Hid; constructor <;> simp only <;> omega
  have HT : Hid (tk S 5 l = if v = true then some (S.add ⟨1, 0, y, x, 0, 0, 0, 0, 0⟩) else none) := by
    unfold Hid tk
    rw [if_neg (by decide), if_pos rfl, hv]
    cases v
    · rfl
    · have h6 : l.length = 6 := by unfold pairB at hv; simp only [Bool.and_eq_true, decide_eq_true_eq] at hv; exact hv.1
      rw [g16_is (by omega)] at hx hy
      simp only [if_true]; unfold ihuT; rw [hx, hy]
  have hz : N < w.heap.size := hF.2.2.2.2.2.2
  clear hr hF hO hx hy hv bx bw
  go_enter Try.func50, Try.ntmps50
  go_wp2_with (go_at_call 61; refine (readIhu_any _ _ _ l _ (HR.out.later (below1 _ _)) (by omega) HX.out HY.out HVv.out).mono ?_; rintro e W1 ⟨rfl, hb1⟩; have HB1 : Hid (BM w W1 N S.kn ra m cc ad k cp t0) := BM.of HF.out hb1; clear hb1; obtain ⟨-, -, -, hT9, nf, lt1, -⟩ := HB1.out; obtain ⟨c0, c1, c2, c3, c4, c5, c6, c7, c8⟩ := hT9.z; clear hT9)
  obtain ⟨W2, hW2⟩ : ∃ W2, W2 = (((((((((W1.setCell ⟨w.heap.size, 0, none⟩ (.int .i64 1)).setCell ⟨w.heap.size, 1, none⟩ (.int .u16 0)).setCell ⟨w.heap.size, 2, none⟩ (.int .i64 y)).setCell ⟨w.heap.size, 3, none⟩ (.int .i64 x)).setCell ⟨w.heap.size, 4, none⟩ (.int .u32 0)).setCell ⟨w.heap.size, 5, none⟩ (.int .i64 0)).setCell ⟨w.heap.size, 6, none⟩ (.int .u64 0)).setCell ⟨w.heap.size, 7, none⟩ (.int .u16 0)).setCell ⟨w.heap.size, 8, none⟩ (.int .i64 0)) := ⟨_, rfl⟩
  rw [← hW2]
  have HB2 : Hid (BM w W2 N S.kn ra m cc ad k cp ⟨1, 0, y, x, 0, 0, 0, 0, 0⟩) := by unfold Hid; rw [hW2]; exact HB1.out.set ⟨1, 0, y, x, 0, 0, 0, 0, 0⟩
  clear hW2 c0 c1 c2 c3 c4 c5 c6 c7 c8 nf lt1
  obtain ⟨⟨f0, f1, f2, f3, f4, ff, fz⟩, -, -, hT2, nf2, lt2, hN⟩ := HB2.out
  obtain ⟨c0, c1, c2, c3, c4, c5, c6, c7, c8⟩ := hT2.z
  clear hT2
  go_region_law
    (first
      | (refine step_appT _ (by rfl) _ _ 22 (by rfl) (N + 1) Try.underlying22 info44 _ k S.ps (by rfl) ((HB2.out.own HO.out).later (below1 _ _).drew) _ 1 1 [⟨1, 0, y, x, 0, 0, 0, 0, 0⟩] (by rfl) (rowT_one ((T9.newA W2 W2.heap.size rfl 1 0 y x 0 0 0 0 0).later (Below.refl _ _).drew) rfl HOK.out) (k + 1) (by rfl) (S.ps ++ [⟨1, 0, y, x, 0, 0, 0, 0, 0⟩]) (by rfl) (by omega) (by simp [World.drew]; omega) ?_; intro a3 c3' W3 own3 hb3; have HF3 : Hid (RF W3 N S.kn ra m cc ad k cp) := (HB2.out.1.later (below1 W2 (objT 1 0 y x 0 0 0 0 0)).drew).lift hb3 (by omega); obtain ⟨g0, g1, g2, g3, g4, gf, gz⟩ := HF3.out))
  all_goals
    go_wp2
    go_ret
    have hB3 : Below N w W3 := (HB2.out.2.1.trans ((below1 W2 (objT 1 0 y x 0 0 0 0 0)).drew.mono (Nat.le_of_lt fz))).trans (hb3.mono (by omega))
    rw [HT.out]
    cases v
    · exact ⟨rfl, hB3.setCell (p := ⟨N, 4, none⟩) (Nat.le_refl _) _⟩
    · exact ⟨rfl, a3, k + 1, c3', RF.set4 HF3.out _ _ _, own3.set (by omega), hB3.setCell (p := ⟨N, 4, none⟩) (Nat.le_refl _) _⟩
end Go.Proofs.Ytakikkigkmcffaa
/- readBody: ask. -/
namespace Go.Proofs.Ytakikkigkmcffaa
open Go.RowKit

set_option maxRecDepth 8000 in
set_option maxHeartbeats 2000000 in
theorem body_9 (N : Nat) (S : St) (ra : Option Addr) (m cc : Nat) (ad : Option Addr) (k cp : Nat) (b off n cap : Nat) (l : List Int) (w : World) (hF : RF w N S.kn ra m cc ad k cp) (hO : OwnT w (N + 1) (.slice ad k cp) k S.ps) (hk : k ≤ 5000) (hr : Row8 w (some ⟨b, off, none⟩) n l) (hn : n ≤ 255) (hc : n ≤ cap) :
    Calls Try.prog 50 #[.pointer (some ⟨N, 0, none⟩), .int .u8 9, .slice (some ⟨b, off, none⟩) n cap] w (TookI w N ra m cc (tk S 9 l)) := by
  have HR : Hid (Row8 w (some ⟨b, off, none⟩) n l) := hr
  have HF : Hid (RF w N S.kn ra m cc ad k cp) := hF
  have HO : Hid (OwnT w (N + 1) (.slice ad k cp) k S.ps) := hO
  obtain ⟨v, hv⟩ : ∃ v, askOk l = v := ⟨_, rfl⟩
  have HVv : Hid (askOk l = v) := hv
  have HT : Hid (tk S 9 l = if v = true then some (S.add (askT l)) else none) := by
    unfold Hid tk
    rw [if_neg (by decide), if_neg (by decide), if_neg (by decide), if_neg (by decide), if_pos rfl, hv]
  have hz : N < w.heap.size := hF.2.2.2.2.2.2
  clear hr hF hO hv
  go_enter Try.func50, Try.ntmps50
  go_wp2_with (go_at_call 64; refine (readAsk_any b off n cap l _ (HR.out.later (below1 _ _)) (by omega) hc HVv.out).mono ?_; rintro e W1 ⟨k9, s9, i9, c9, a9, l9, r9, t9, h9, rfl, hp, hok, hb1⟩; have HP : Hid (v = true → (⟨k9, s9, i9, c9, a9, l9, r9, t9, h9⟩ : Tlv) = askT l) := hp; have HOK : Hid (Tlv.Ok ⟨k9, s9, i9, c9, a9, l9, r9, t9, h9⟩) := hok; have HB1 : Hid (BM w W1 N S.kn ra m cc ad k cp t0) := BM.of HF.out hb1; clear hb1 hp hok; obtain ⟨-, -, -, hT9, nf, lt1, -⟩ := HB1.out; obtain ⟨c0, c1, c2, c3, c4, c5, c6, c7, c8⟩ := hT9.z; clear hT9)
  obtain ⟨W2, hW2⟩ : ∃ W2, W2 = (((((((((W1.setCell ⟨w.heap.size, 0, none⟩ (.int .i64 k9)).setCell ⟨w.heap.size, 1, none⟩ (.int .u16 s9)).setCell ⟨w.heap.size, 2, none⟩ (.int .i64 i9)).setCell ⟨w.heap.size, 3, none⟩ (.int .i64 c9)).setCell ⟨w.heap.size, 4, none⟩ (.int .u32 a9)).setCell ⟨w.heap.size, 5, none⟩ (.int .i64 l9)).setCell ⟨w.heap.size, 6, none⟩ (.int .u64 r9)).setCell ⟨w.heap.size, 7, none⟩ (.int .u16 t9)).setCell ⟨w.heap.size, 8, none⟩ (.int .i64 h9)) := ⟨_, rfl⟩
  rw [← hW2]
  have HB2 : Hid (BM w W2 N S.kn ra m cc ad k cp ⟨k9, s9, i9, c9, a9, l9, r9, t9, h9⟩) := by unfold Hid; rw [hW2]; exact HB1.out.set ⟨k9, s9, i9, c9, a9, l9, r9, t9, h9⟩
  clear hW2 c0 c1 c2 c3 c4 c5 c6 c7 c8 nf lt1
  obtain ⟨⟨f0, f1, f2, f3, f4, ff, fz⟩, -, -, hT2, nf2, lt2, hN⟩ := HB2.out
  obtain ⟨c0, c1, c2, c3, c4, c5, c6, c7, c8⟩ := hT2.z
  clear hT2
  go_region_law
    (first
      | (refine step_appT _ (by rfl) _ _ 22 (by rfl) (N + 1) Try.underlying22 info44 _ k S.ps (by rfl) ((HB2.out.own HO.out).later (below1 _ _).drew) _ 1 1 [⟨k9, s9, i9, c9, a9, l9, r9, t9, h9⟩] (by rfl) (rowT_one ((T9.newA W2 W2.heap.size rfl k9 s9 i9 c9 a9 l9 r9 t9 h9).later (Below.refl _ _).drew) rfl HOK.out) (k + 1) (by rfl) (S.ps ++ [⟨k9, s9, i9, c9, a9, l9, r9, t9, h9⟩]) (by rfl) (by omega) (by simp [World.drew]; omega) ?_; intro a3 c3' W3 own3 hb3; have HF3 : Hid (RF W3 N S.kn ra m cc ad k cp) := (HB2.out.1.later (below1 W2 (objT k9 s9 i9 c9 a9 l9 r9 t9 h9)).drew).lift hb3 (by omega); obtain ⟨g0, g1, g2, g3, g4, gf, gz⟩ := HF3.out))
  all_goals
    go_wp2
    go_ret
    have hB3 : Below N w W3 := (HB2.out.2.1.trans ((below1 W2 (objT k9 s9 i9 c9 a9 l9 r9 t9 h9)).drew.mono (Nat.le_of_lt fz))).trans (hb3.mono (by omega))
    rw [HT.out]
    cases v
    · exact ⟨rfl, hB3.setCell (p := ⟨N, 4, none⟩) (Nat.le_refl _) _⟩
    · have e9 := HP.out rfl
      rw [if_pos rfl, ← e9]
      exact ⟨rfl, a3, k + 1, c3', RF.set4 HF3.out _ _ _, own3.set (by omega), hB3.setCell (p := ⟨N, 4, none⟩) (Nat.le_refl _) _⟩
end Go.Proofs.Ytakikkigkmcffaa
/- readBody: ask for a number. -/
namespace Go.Proofs.Ytakikkigkmcffaa
open Go.RowKit

set_option maxRecDepth 8000 in
set_option maxHeartbeats 2000000 in
theorem body_10 (N : Nat) (S : St) (ra : Option Addr) (m cc : Nat) (ad : Option Addr) (k cp : Nat) (b off n cap : Nat) (l : List Int) (w : World) (hF : RF w N S.kn ra m cc ad k cp) (hO : OwnT w (N + 1) (.slice ad k cp) k S.ps) (hk : k ≤ 5000) (hr : Row8 w (some ⟨b, off, none⟩) n l) (hn : n ≤ 255) (hc : n ≤ cap) :
    Calls Try.prog 50 #[.pointer (some ⟨N, 0, none⟩), .int .u8 10, .slice (some ⟨b, off, none⟩) n cap] w (TookI w N ra m cc (tk S 10 l)) := by
  have HR : Hid (Row8 w (some ⟨b, off, none⟩) n l) := hr
  have HF : Hid (RF w N S.kn ra m cc ad k cp) := hF
  have HO : Hid (OwnT w (N + 1) (.slice ad k cp) k S.ps) := hO
  obtain ⟨v, hv⟩ : ∃ v, seqOk l = v := ⟨_, rfl⟩
  have HVv : Hid (seqOk l = v) := hv
  have HT : Hid (tk S 10 l = if v = true then some (S.add (seqT l)) else none) := by
    unfold Hid tk
    rw [if_neg (by decide), if_neg (by decide), if_neg (by decide), if_neg (by decide), if_neg (by decide), if_pos rfl, hv]
  have hz : N < w.heap.size := hF.2.2.2.2.2.2
  clear hr hF hO hv
  go_enter Try.func50, Try.ntmps50
  go_wp2_with (go_at_call 65; refine (readAskSeq_any b off n cap l _ (HR.out.later (below1 _ _)) (by omega) hc HVv.out).mono ?_; rintro e W1 ⟨k9, s9, i9, c9, a9, l9, r9, t9, h9, rfl, hp, hok, hb1⟩; have HP : Hid (v = true → (⟨k9, s9, i9, c9, a9, l9, r9, t9, h9⟩ : Tlv) = seqT l) := hp; have HOK : Hid (Tlv.Ok ⟨k9, s9, i9, c9, a9, l9, r9, t9, h9⟩) := hok; have HB1 : Hid (BM w W1 N S.kn ra m cc ad k cp t0) := BM.of HF.out hb1; clear hb1 hp hok; obtain ⟨-, -, -, hT9, nf, lt1, -⟩ := HB1.out; obtain ⟨c0, c1, c2, c3, c4, c5, c6, c7, c8⟩ := hT9.z; clear hT9)
  obtain ⟨W2, hW2⟩ : ∃ W2, W2 = (((((((((W1.setCell ⟨w.heap.size, 0, none⟩ (.int .i64 k9)).setCell ⟨w.heap.size, 1, none⟩ (.int .u16 s9)).setCell ⟨w.heap.size, 2, none⟩ (.int .i64 i9)).setCell ⟨w.heap.size, 3, none⟩ (.int .i64 c9)).setCell ⟨w.heap.size, 4, none⟩ (.int .u32 a9)).setCell ⟨w.heap.size, 5, none⟩ (.int .i64 l9)).setCell ⟨w.heap.size, 6, none⟩ (.int .u64 r9)).setCell ⟨w.heap.size, 7, none⟩ (.int .u16 t9)).setCell ⟨w.heap.size, 8, none⟩ (.int .i64 h9)) := ⟨_, rfl⟩
  rw [← hW2]
  have HB2 : Hid (BM w W2 N S.kn ra m cc ad k cp ⟨k9, s9, i9, c9, a9, l9, r9, t9, h9⟩) := by unfold Hid; rw [hW2]; exact HB1.out.set ⟨k9, s9, i9, c9, a9, l9, r9, t9, h9⟩
  clear hW2 c0 c1 c2 c3 c4 c5 c6 c7 c8 nf lt1
  obtain ⟨⟨f0, f1, f2, f3, f4, ff, fz⟩, -, -, hT2, nf2, lt2, hN⟩ := HB2.out
  obtain ⟨c0, c1, c2, c3, c4, c5, c6, c7, c8⟩ := hT2.z
  clear hT2
  go_region_law
    (first
      | (refine step_appT _ (by rfl) _ _ 22 (by rfl) (N + 1) Try.underlying22 info44 _ k S.ps (by rfl) ((HB2.out.own HO.out).later (below1 _ _).drew) _ 1 1 [⟨k9, s9, i9, c9, a9, l9, r9, t9, h9⟩] (by rfl) (rowT_one ((T9.newA W2 W2.heap.size rfl k9 s9 i9 c9 a9 l9 r9 t9 h9).later (Below.refl _ _).drew) rfl HOK.out) (k + 1) (by rfl) (S.ps ++ [⟨k9, s9, i9, c9, a9, l9, r9, t9, h9⟩]) (by rfl) (by omega) (by simp [World.drew]; omega) ?_; intro a3 c3' W3 own3 hb3; have HF3 : Hid (RF W3 N S.kn ra m cc ad k cp) := (HB2.out.1.later (below1 W2 (objT k9 s9 i9 c9 a9 l9 r9 t9 h9)).drew).lift hb3 (by omega); obtain ⟨g0, g1, g2, g3, g4, gf, gz⟩ := HF3.out))
  all_goals
    go_wp2
    go_ret
    have hB3 : Below N w W3 := (HB2.out.2.1.trans ((below1 W2 (objT k9 s9 i9 c9 a9 l9 r9 t9 h9)).drew.mono (Nat.le_of_lt fz))).trans (hb3.mono (by omega))
    rw [HT.out]
    cases v
    · exact ⟨rfl, hB3.setCell (p := ⟨N, 4, none⟩) (Nat.le_refl _) _⟩
    · have e9 := HP.out rfl
      rw [if_pos rfl, ← e9]
      exact ⟨rfl, a3, k + 1, c3', RF.set4 HF3.out _ _ _, own3.set (by omega), hB3.setCell (p := ⟨N, 4, none⟩) (Nat.le_refl _) _⟩
end Go.Proofs.Ytakikkigkmcffaa
/- readBody: update. -/
namespace Go.Proofs.Ytakikkigkmcffaa
open Go.RowKit

theorem bm_upd {w W1 : World} {N : Nat} {K' : Kn} {ra : Option Addr} {m cc : Nat} {ad : Option Addr} {k cp : Nat} (hN : N < w.heap.size) (hF : RF W1 N K' ra m cc ad k cp) (hB : Below N (w.alloc objZ) W1) (hj : ∀ j, N < j → j < (w.alloc objZ).heap.size → W1.heap[j]? = (w.alloc objZ).heap[j]?) : BM w W1 N K' ra m cc ad k cp t0 := by
  have hB0 : Below N w W1 := ((below1 w objZ).mono (Nat.le_of_lt hN)).trans hB
  have hz := hB.size
  simp only [World.size_alloc] at hz hj
  have hM : W1.heap[w.heap.size]? = (w.alloc objZ).heap[w.heap.size]? := hj _ hN (by omega)
  have hc : ∀ o, W1.cell? ⟨w.heap.size, o, none⟩ = (w.alloc objZ).cell? ⟨w.heap.size, o, none⟩ := fun o => by unfold World.cell?; simp only [hM]
  refine ⟨hF, hB0, fun j h1 h2 => (hj j h1 (by omega)).trans ((below1 w objZ).block j h2), (T9.new w 0 0 0 0 0 0 0 0 0).far hc, fun o => ?_, by omega, hN⟩
  have : W1.frozen? ⟨w.heap.size, o, none⟩ = (w.alloc objZ).frozen? ⟨w.heap.size, o, none⟩ := by unfold World.frozen?; simp only [hM]
  rw [this]; simp [go_sem]
set_option maxRecDepth 8000 in
set_option maxHeartbeats 2000000 in
theorem body_8 (N : Nat) (S : St) (ra : Option Addr) (m cc : Nat) (ad : Option Addr) (k cp : Nat) (b off n cap : Nat) (l : List Int) (w : World) (hF : RF w N S.kn ra m cc ad k cp) (hO : OwnT w (N + 1) (.slice ad k cp) k S.ps) (hk : k ≤ 5000) (hr : Row8 w (some ⟨b, off, none⟩) n l) (hn : n ≤ 255) (hc : n ≤ cap) (hK : S.kn.Ok) :
    Calls Try.prog 50 #[.pointer (some ⟨N, 0, none⟩), .int .u8 8, .slice (some ⟨b, off, none⟩) n cap] w (TookI w N ra m cc (tk S 8 l)) := by
  have HR : Hid (Row8 w (some ⟨b, off, none⟩) n l) := hr
  have HF : Hid (RF w N S.kn ra m cc ad k cp) := hF
  have HO : Hid (OwnT w (N + 1) (.slice ad k cp) k S.ps) := hO
  obtain ⟨v, hv⟩ : ∃ v, upOk S.kn l = v := ⟨_, rfl⟩
  have HVv : Hid (upOk S.kn l = v) := hv
  have HT : Hid (tk S 8 l = if v = true then some ⟨⟨true, S.kn.r, upA S.kn l⟩, S.ps ++ [upT S.kn l]⟩ else none) := by
    unfold Hid tk
    rw [if_neg (by decide), if_neg (by decide), if_neg (by decide), if_pos rfl, hv]
  have hz : N < w.heap.size := hF.2.2.2.2.2.2
  have HK : Hid S.kn.Ok := hK
  clear hr hF hO hv hK
  go_enter Try.func50, Try.ntmps50
  go_wp2_with (go_at_call 63; refine (readUpdate_any N S.kn ra m cc ad k cp S.ps b off n cap l _ HK.out (HF.out.later (below1 _ _)) (HO.out.later (below1 _ _)) (HR.out.later (below1 _ _)) (by omega) hc HVv.out).mono ?_; rintro e W1 ⟨a', k9, s9, i9, c9, a9, l9, r9, t9, h9, rfl, hp, hok, hF1, hO1, hB1, hj1⟩; have HP : Hid (v = true → (⟨k9, s9, i9, c9, a9, l9, r9, t9, h9⟩ : Tlv) = upT S.kn l ∧ a' = upA S.kn l ∧ S.kn.told = true) := hp; have HOK : Hid (Tlv.Ok ⟨k9, s9, i9, c9, a9, l9, r9, t9, h9⟩) := hok; have HB1 : Hid (BM w W1 N ⟨S.kn.told, S.kn.r, a'⟩ ra m cc ad k cp t0) := bm_upd hz hF1 hB1 hj1; clear hF1 hO1 hB1 hj1 hp hok; obtain ⟨-, -, -, hT9, nf, lt1, -⟩ := HB1.out; obtain ⟨c0, c1, c2, c3, c4, c5, c6, c7, c8⟩ := hT9.z; clear hT9)
  obtain ⟨W2, hW2⟩ : ∃ W2, W2 = (((((((((W1.setCell ⟨w.heap.size, 0, none⟩ (.int .i64 k9)).setCell ⟨w.heap.size, 1, none⟩ (.int .u16 s9)).setCell ⟨w.heap.size, 2, none⟩ (.int .i64 i9)).setCell ⟨w.heap.size, 3, none⟩ (.int .i64 c9)).setCell ⟨w.heap.size, 4, none⟩ (.int .u32 a9)).setCell ⟨w.heap.size, 5, none⟩ (.int .i64 l9)).setCell ⟨w.heap.size, 6, none⟩ (.int .u64 r9)).setCell ⟨w.heap.size, 7, none⟩ (.int .u16 t9)).setCell ⟨w.heap.size, 8, none⟩ (.int .i64 h9)) := ⟨_, rfl⟩
  rw [← hW2]
  have HB2 : Hid (BM w W2 N ⟨S.kn.told, S.kn.r, a'⟩ ra m cc ad k cp ⟨k9, s9, i9, c9, a9, l9, r9, t9, h9⟩) := by unfold Hid; rw [hW2]; exact HB1.out.set ⟨k9, s9, i9, c9, a9, l9, r9, t9, h9⟩
  clear hW2 c0 c1 c2 c3 c4 c5 c6 c7 c8 nf lt1
  obtain ⟨⟨f0, f1, f2, f3, f4, ff, fz⟩, -, -, hT2, nf2, lt2, hN⟩ := HB2.out
  obtain ⟨c0, c1, c2, c3, c4, c5, c6, c7, c8⟩ := hT2.z
  clear hT2
  go_region_law
    (first
      | (refine step_appT _ (by rfl) _ _ 22 (by rfl) (N + 1) Try.underlying22 info44 _ k S.ps (by rfl) ((HB2.out.own HO.out).later (below1 _ _).drew) _ 1 1 [⟨k9, s9, i9, c9, a9, l9, r9, t9, h9⟩] (by rfl) (rowT_one ((T9.newA W2 W2.heap.size rfl k9 s9 i9 c9 a9 l9 r9 t9 h9).later (Below.refl _ _).drew) rfl HOK.out) (k + 1) (by rfl) (S.ps ++ [⟨k9, s9, i9, c9, a9, l9, r9, t9, h9⟩]) (by rfl) (by omega) (by simp [World.drew]; omega) ?_; intro a3 c3' W3 own3 hb3; have HF3 : Hid (RF W3 N ⟨S.kn.told, S.kn.r, a'⟩ ra m cc ad k cp) := (HB2.out.1.later (below1 W2 (objT k9 s9 i9 c9 a9 l9 r9 t9 h9)).drew).lift hb3 (by omega); obtain ⟨g0, g1, g2, g3, g4, gf, gz⟩ := HF3.out))
  all_goals
    go_wp2
    go_ret
    have hB3 : Below N w W3 := (HB2.out.2.1.trans ((below1 W2 (objT k9 s9 i9 c9 a9 l9 r9 t9 h9)).drew.mono (Nat.le_of_lt fz))).trans (hb3.mono (by omega))
    rw [HT.out]
    cases v
    · exact ⟨rfl, hB3.setCell (p := ⟨N, 4, none⟩) (Nat.le_refl _) _⟩
    · have e9 := HP.out rfl
      obtain ⟨e9, e8, e7⟩ := e9
      rw [if_pos rfl, ← e9, ← e8]
      have hR3 := HF3.out
      rw [e7] at hR3
      exact ⟨rfl, a3, k + 1, c3', RF.set4 hR3 _ _ _, own3.set (by omega), hB3.setCell (p := ⟨N, 4, none⟩) (Nat.le_refl _) _⟩
end Go.Proofs.Ytakikkigkmcffaa
/- readBody: a router's name; what is not known. -/
namespace Go.Proofs.Ytakikkigkmcffaa
open Go.RowKit

set_option maxRecDepth 8000 in
set_option maxHeartbeats 2000000 in
theorem body_6 (N : Nat) (S : St) (ra : Option Addr) (m cc : Nat) (ad : Option Addr) (k cp : Nat) (b off n cap : Nat) (l : List Int) (w : World) (hF : RF w N S.kn ra m cc ad k cp) (hO : OwnT w (N + 1) (.slice ad k cp) k S.ps) (hr : Row8 w (some ⟨b, off, none⟩) n l) (hn : n ≤ 255) :
    Calls Try.prog 50 #[.pointer (some ⟨N, 0, none⟩), .int .u8 6, .slice (some ⟨b, off, none⟩) n cap] w (TookI w N ra m cc (tk S 6 l)) := by
  have HR : Hid (Row8 w (some ⟨b, off, none⟩) n l) := hr
  have HF : Hid (RF w N S.kn ra m cc ad k cp) := hF
  have HO : Hid (OwnT w (N + 1) (.slice ad k cp) k S.ps) := hO
  obtain ⟨v, hv⟩ : ∃ v, routB l = v := ⟨_, rfl⟩
  obtain ⟨x, hx⟩ : ∃ x, g64 l 2 = x := ⟨_, rfl⟩
  have HVv : Hid (routB l = v) := hv
  have HX : Hid (g64 l 2 = x) := hx
  have HT : Hid (tk S 6 l = if v = true then some ⟨⟨true, x, S.kn.a⟩, S.ps⟩ else none) := by
    unfold Hid tk
    rw [if_neg (by decide), if_neg (by decide), if_pos rfl, hv]
    cases v
    · rfl
    · have h6 : l.length = 10 := by unfold routB at hv; simp only [Bool.and_eq_true, decide_eq_true_eq] at hv; exact hv.1
      rw [g64_is (by omega)] at hx
      rw [hx]
  have hz : N < w.heap.size := hF.2.2.2.2.2.2
  have hB : Below N w (((w.setCell ⟨N, 0, none⟩ (.bool true)).setCell ⟨N, 1, none⟩ (.int .u64 x)).alloc objZ) := (((Below.refl N w).setCell (p := ⟨N, 0, none⟩) (Nat.le_refl _) _).setCell (p := ⟨N, 1, none⟩) (Nat.le_refl _) _).alloc (by simpa using Nat.le_of_lt hz) _
  have HB : Hid (_) := hB
  clear hr hF hO hv hx hB
  go_enter Try.func50, Try.ntmps50
  go_wp2_with (go_at_call 62; refine (readRouter_any N S.kn ra ad m cc k cp _ n cap l _ (HF.out.later (below1 _ _)) (HR.out.later (below1 _ _)) (by omega) HX.out HVv.out).mono ?_; rintro e W1 ⟨rfl, rfl⟩)
  go_ret
  rw [HT.out]
  cases v
  · exact ⟨rfl, HB.out⟩
  · exact ⟨rfl, ad, k, cp, (HF.out.setR x).later (below1 _ _), ((HO.out.set (by omega)).set (by omega)).later (below1 _ _), HB.out⟩
set_option maxRecDepth 8000 in
set_option maxHeartbeats 2000000 in
theorem body_else (kd : Int) (h4 : kd ≠ 4) (h5 : kd ≠ 5) (h6 : kd ≠ 6) (h8 : kd ≠ 8) (h9 : kd ≠ 9) (h10 : kd ≠ 10) (N : Nat) (S : St) (ra : Option Addr) (m cc : Nat) (ad : Option Addr) (k cp : Nat) (b off n cap : Nat) (l : List Int) (w : World) (hF : RF w N S.kn ra m cc ad k cp) (hO : OwnT w (N + 1) (.slice ad k cp) k S.ps) :
    Calls Try.prog 50 #[.pointer (some ⟨N, 0, none⟩), .int .u8 kd, .slice (some ⟨b, off, none⟩) n cap] w (TookI w N ra m cc (tk S kd l)) := by
  have HF : Hid (RF w N S.kn ra m cc ad k cp) := hF
  have HO : Hid (OwnT w (N + 1) (.slice ad k cp) k S.ps) := hO
  have hz : N < w.heap.size := hF.2.2.2.2.2.2
  have HT : Hid (tk S kd l = some S) := by unfold Hid tk; rw [if_neg h4, if_neg h5, if_neg h6, if_neg h8, if_neg h9, if_neg h10]
  have e4 : (kd == 4) = false := by simpa using h4
  have e5 : (kd == 5) = false := by simpa using h5
  have e6 : (kd == 6) = false := by simpa using h6
  have e8 : (kd == 8) = false := by simpa using h8
  have e9 : (kd == 9) = false := by simpa using h9
  have e10 : (kd == 10) = false := by simpa using h10
  clear hF hO h4 h5 h6 h8 h9 h10
  go_enter Try.func50, Try.ntmps50
  go_wp2
  go_ret
  rw [HT.out]
  exact ⟨rfl, ad, k, cp, HF.out.later (below1 _ _), HO.out.later (below1 _ _), (below1 w objZ).mono (Nat.le_of_lt hz)⟩
end Go.Proofs.Ytakikkigkmcffaa
/- The contract of readBody. -/
namespace Go.Proofs.Ytakikkigkmcffaa
open Go.RowKit

theorem readBody_any (kd : Int) (N : Nat) (S : St) (ra : Option Addr) (m cc : Nat) (ad : Option Addr) (k cp : Nat) (b off n cap : Nat) (l : List Int) (w : World) (hF : RF w N S.kn ra m cc ad k cp) (hO : OwnT w (N + 1) (.slice ad k cp) k S.ps) (hk : k ≤ 5000) (hr : Row8 w (some ⟨b, off, none⟩) n l) (hn : n ≤ 255) (hc : n ≤ cap) (hK : S.kn.Ok) :
    Calls Try.prog 50 #[.pointer (some ⟨N, 0, none⟩), .int .u8 kd, .slice (some ⟨b, off, none⟩) n cap] w (TookI w N ra m cc (tk S kd l)) := by
  by_cases h4 : kd = 4
  · subst h4; exact body_4 N S ra m cc ad k cp b off n cap l w hF hO hk hr hn
  by_cases h5 : kd = 5
  · subst h5; exact body_5 N S ra m cc ad k cp b off n cap l w hF hO hk hr hn
  by_cases h6 : kd = 6
  · subst h6; exact body_6 N S ra m cc ad k cp b off n cap l w hF hO hr hn
  by_cases h8 : kd = 8
  · subst h8; exact body_8 N S ra m cc ad k cp b off n cap l w hF hO hk hr hn hc hK
  by_cases h9 : kd = 9
  · subst h9; exact body_9 N S ra m cc ad k cp b off n cap l w hF hO hk hr hn hc
  by_cases h10 : kd = 10
  · subst h10; exact body_10 N S ra m cc ad k cp b off n cap l w hF hO hk hr hn hc
  exact body_else kd h4 h5 h6 h8 h9 h10 N S ra m cc ad k cp b off n cap l w hF hO
end Go.Proofs.Ytakikkigkmcffaa
/- The contract of read. -/
namespace Go.Proofs.Ytakikkigkmcffaa
open Go.RowKit

/-- One part of the bytes that are left. -/
def one (S : St) (l : List Int) : Option St := if l.length < 2 then none else if l.length < 2 + ln l then none else tk S (at8 l 0) ((l.drop 2).take (ln l))
theorem run_next {S : St} {l : List Int} (h : 0 < l.length) : run S l = match one S l with
    | none => none
    | some S' => run S' (l.drop (2 + ln l)) := by
  rw [run, dif_neg (by omega)]
  unfold one
  by_cases h1 : l.length < 2
  · simp [h1]
  · by_cases h2 : l.length < 2 + ln l
    · simp [h1, h2]
    · simp only [h1, h2, if_false]
      cases tk S (at8 l 0) (List.take (ln l) (List.drop 2 l)) <;> rfl
/-- What read leaves. -/
def ReadI (w : World) (N b : Nat) (l : List Int) : Option St → Ending → World → Prop
  | none, e, w' => e = .returned (.bool false) ∧ Below N w w'
  | some S, e, w' => e = .returned (.bool true) ∧ ∃ o cc ad k cp, RF w' N S.kn (some ⟨b, o, none⟩) (l.length - (2 + ln l)) cc ad k cp ∧ Row8 w' (some ⟨b, o, none⟩) (l.length - (2 + ln l)) (l.drop (2 + ln l)) ∧ l.length - (2 + ln l) ≤ cc ∧ OwnT w' (N + 1) (.slice ad k cp) k S.ps ∧ Below N w w'
theorem Row8.low {W W' : World} {N b off n : Nat} {l : List Int} (h : Row8 W (some ⟨b, off, none⟩) n l) (hb : Below N W W') (hN : b < N) : Row8 W' (some ⟨b, off, none⟩) n l :=
  ⟨h.1, h.2.1, h.2.2.1, fun i hi => by obtain ⟨b', off', e, hc⟩ := h.2.2.2 i hi; simp only [Option.some.injEq, Addr.mk.injEq, and_true] at e; obtain ⟨rfl, rfl⟩ := e; exact ⟨_, _, rfl, (hb.cell (p := ⟨b, off + i, none⟩) hN).trans hc⟩⟩
theorem below_n (N : Nat) (w : World) {n : Nat} : Below N w (w.drewN n) := by
  induction n with
  | zero => exact Below.refl _ _
  | succ n ih => exact ih.drew
/-- Behind readBody. -/
theorem TookI.ret {w w' : World} {N : Nat} {ra : Option Addr} {m cc : Nat} {T : Option St} {e : Ending} (h : TookI w N ra m cc T e w') : e = .returned (.bool T.isSome) := by
  cases T <;> exact h.1
theorem read_fin {w W W' : World} {N b o q m cc r : Nat} {l : List Int} {T : Option St} {e : Ending} (hL : l.length = m) (hq : 2 + ln l = q) (hmq : m - q = r) (hB : Below N w W) (hr : Row8 W (some ⟨b, o, none⟩) (m - q) (l.drop q)) (hb : b < N) (hc : r ≤ cc) (h : TookI W N (some ⟨b, o, none⟩) r cc T e W') : ReadI w N b l T e W' := by
  subst hmq hL hq
  cases T with
  | none => exact ⟨h.1, hB.trans h.2⟩
  | some S =>
    obtain ⟨he, ad, k, cp, hF, hO, hB'⟩ := h
    exact ⟨he, o, cc, ad, k, cp, hF, hr.low hB' hb, hc, hO, hB.trans hB'⟩
set_option maxRecDepth 8000 in
set_option maxHeartbeats 2000000 in
theorem read_any (N b off m cc : Nat) (S : St) (ad : Option Addr) (k cp : Nat) (l : List Int) (w : World) (hF : RF w N S.kn (some ⟨b, off, none⟩) m cc ad k cp) (hO : OwnT w (N + 1) (.slice ad k cp) k S.ps) (hk : k ≤ 5000) (hr : Row8 w (some ⟨b, off, none⟩) m l) (hm : m ≤ 3000) (hc : m ≤ cc) (hbN : b < N) (hK : S.kn.Ok) :
    Calls Try.prog 31 #[.pointer (some ⟨N, 0, none⟩)] w (ReadI w N b l (one S l)) := by
  have HR : Hid (Row8 w (some ⟨b, off, none⟩) m l) := hr
  have HL : Hid (l.length = m) := hr.1
  have HF : Hid (RF w N S.kn (some ⟨b, off, none⟩) m cc ad k cp) := hF
  have HO : Hid (OwnT w (N + 1) (.slice ad k cp) k S.ps) := hO
  have HK : Hid S.kn.Ok := hK
  obtain ⟨f0, f1, f2, f3, f4, ff, fz⟩ := hF
  clear f0 f1 f2 f4 hO hK
  by_cases h2 : m < 2
  · have HT : Hid (one S l = none) := by unfold Hid one; rw [if_pos (by rw [HL.out]; exact h2)]
    have i2 : (m : Int) < 2 := by omega
    clear hr
    go_enter Try.func31, Try.ntmps31
    go_wp2
    go_ret
    rw [HT.out]
    exact ⟨rfl, Below.refl _ _⟩
  obtain ⟨b_, off_, he_, hcell⟩ := hr.at (by omega)
  simp only [Option.some.injEq, Addr.mk.injEq, and_true] at he_
  obtain ⟨rfl, rfl⟩ := he_
  have d0 := hcell 0 (by omega)
  have d1 := hcell 1 (by omega)
  rw [Nat.add_zero] at d0
  have E0 : Hid (at8 l 0 = l[0]?.getD 0) := rfl
  have E1 : Hid (at8 l 1 = l[1]?.getD 0) := rfl
  have y1b := hr.2.2.1.at 1
  generalize l[0]?.getD 0 = kd at d0 E0
  generalize l[1]?.getD 0 = x0 at d1 E1 y1b
  obtain ⟨y0, y1⟩ := y1b
  obtain ⟨x, rfl⟩ : ∃ x : Nat, x0 = (x : Int) := ⟨x0.toNat, by omega⟩
  have HLN : Hid (ln l = x) := by unfold Hid ln; rw [E1.out]; simp
  have i0 : 0 < m := by omega
  have i1 : 1 < m := by omega
  have j0 : (0 : Int) < (m : Int) := by omega
  have j1 : (1 : Int) < (m : Int) := by omega
  have j2 : ¬ (m : Int) < 2 := by omega
  have ex : IntKind.i64.wrap (x : Int) = (x : Int) := wrap_in (by omega) (by omega)
  obtain ⟨q, hq⟩ : ∃ q, 2 + x = q := ⟨_, rfl⟩
  have eq : IntKind.i64.wrap (2 + (x : Int)) = (q : Int) := by rw [wrap_in (by omega) (by omega)]; omega
  have HQ : Hid (2 + ln l = q) := by unfold Hid; rw [HLN.out]; exact hq
  clear hcell
  by_cases h3 : m < q
  · have HT : Hid (one S l = none) := by unfold Hid one; rw [if_neg (by rw [HL.out]; omega), if_pos (by rw [HL.out, HQ.out]; exact h3)]
    have i3 : (m : Int) < (q : Int) := by omega
    clear hr
    go_enter Try.func31, Try.ntmps31
    go_wp2
    go_quiet (fail)
    go_wp2
    go_ret
    rw [HT.out]
    exact ⟨rfl, below_n _ _⟩
  have HT : Hid (one S l = tk S kd ((l.drop 2).take x)) := by unfold Hid one; rw [if_neg (by rw [HL.out]; omega), if_neg (by rw [HL.out, HQ.out]; exact h3), E0.out, HLN.out]
  have j3 : ¬ (m : Int) < (q : Int) := by omega
  have j4 : (2 : Int) ≤ (q : Int) := by omega
  have j5 : (q : Int) ≤ (cc : Int) := by omega
  have j6 : (q : Int) ≤ (m : Int) := by omega
  have j7 : (m : Int) ≤ (cc : Int) := by omega
  have hx2 : q - 2 = x := by omega
  have HRB : Hid (_) := hr.rest 2 cc (by omega) hc b off rfl
  have HRR : Hid (_) := hr.rest q cc (by omega) hc b off rfl
  clear hr
  by_cases hc2 : cc = 2
  · obtain rfl : m = 2 := by omega
    obtain rfl : q = 2 := by omega
    obtain rfl : x = 0 := by omega
    subst hc2
    have HB1 : Hid (Row8 w (some ⟨b, off, none⟩) (0) ((l.drop 2).take (0))) := by
      have h := HRB.out
      rw [if_pos rfl] at h
      exact Row8.take h _ (by omega)
    have HR1 : Hid (Row8 w (some ⟨b, off, none⟩) (2 - 2) (l.drop (2))) := by
      have h := HRR.out
      rw [if_pos rfl] at h
      exact h
    have HB : Hid (∀ n v, Below N w ((w.drewN n).setCell ⟨N, 3, none⟩ v)) := fun n v => (below_n N w).setCell (p := ⟨N, 3, none⟩) (Nat.le_refl _) _
    have HF1 : Hid (∀ n, RF ((w.drewN n).setCell ⟨N, 3, none⟩ (.slice (some ⟨b, off, none⟩) (0) (0))) N S.kn (some ⟨b, off, none⟩) (0) (0) ad k cp) := fun n => (HF.out.later (below_n _ _)).set3 _ _ _
    have HO1 : Hid (∀ n v, OwnT ((w.drewN n).setCell ⟨N, 3, none⟩ v) (N + 1) (.slice ad k cp) k S.ps) := fun n v => (HO.out.later (below_n _ _)).set (by omega)
    go_enter Try.func31, Try.ntmps31
    go_wp2
    go_quiet (fail)
    go_wp2_with (go_at_call 50; refine (readBody_any kd N S _ _ _ ad k cp b (off) _ _ _ _ (HF1.out _) (HO1.out _ _) hk (HB1.out.low (HB.out _ _) hbN) (by omega) (by omega) HK.out).mono ?_; intro e W2 hW2; obtain rfl := hW2.ret)
    go_ret
    rw [HT.out]
    exact read_fin HL.out HQ.out (by omega) (HB.out _ _) (HR1.out.low (HB.out _ _) hbN) hbN (by omega) hW2
  by_cases hcq : cc = q
  · obtain rfl : m = q := by omega
    subst hcq
    have HB1 : Hid (Row8 w (some ⟨b, off + 2, none⟩) (x) ((l.drop 2).take (x))) := by
      have h := HRB.out
      rw [if_neg (by omega)] at h
      exact Row8.take h _ (by omega)
    have HR1 : Hid (Row8 w (some ⟨b, off, none⟩) (cc - cc) (l.drop (cc))) := by
      have h := HRR.out
      rw [if_pos rfl] at h
      exact h
    have HB : Hid (∀ n v, Below N w ((w.drewN n).setCell ⟨N, 3, none⟩ v)) := fun n v => (below_n N w).setCell (p := ⟨N, 3, none⟩) (Nat.le_refl _) _
    have HF1 : Hid (∀ n, RF ((w.drewN n).setCell ⟨N, 3, none⟩ (.slice (some ⟨b, off, none⟩) (0) (0))) N S.kn (some ⟨b, off, none⟩) (0) (0) ad k cp) := fun n => (HF.out.later (below_n _ _)).set3 _ _ _
    have HO1 : Hid (∀ n v, OwnT ((w.drewN n).setCell ⟨N, 3, none⟩ v) (N + 1) (.slice ad k cp) k S.ps) := fun n v => (HO.out.later (below_n _ _)).set (by omega)
    go_enter Try.func31, Try.ntmps31
    go_wp2
    go_quiet (fail)
    go_wp2_with (go_at_call 50; refine (readBody_any kd N S _ _ _ ad k cp b (off + 2) _ _ _ _ (HF1.out _) (HO1.out _ _) hk (HB1.out.low (HB.out _ _) hbN) (by omega) (by omega) HK.out).mono ?_; intro e W2 hW2; obtain rfl := hW2.ret)
    go_ret
    rw [HT.out]
    exact read_fin HL.out HQ.out (by omega) (HB.out _ _) (HR1.out.low (HB.out _ _) hbN) hbN (by omega) hW2
  · have HB1 : Hid (Row8 w (some ⟨b, off + 2, none⟩) (x) ((l.drop 2).take (x))) := by
      have h := HRB.out
      rw [if_neg (by omega)] at h
      exact Row8.take h _ (by omega)
    have HR1 : Hid (Row8 w (some ⟨b, off + q, none⟩) (m - q) (l.drop (q))) := by
      have h := HRR.out
      rw [if_neg (by omega)] at h
      exact h
    have HB : Hid (∀ n v, Below N w ((w.drewN n).setCell ⟨N, 3, none⟩ v)) := fun n v => (below_n N w).setCell (p := ⟨N, 3, none⟩) (Nat.le_refl _) _
    have HF1 : Hid (∀ n, RF ((w.drewN n).setCell ⟨N, 3, none⟩ (.slice (some ⟨b, off + q, none⟩) (m - q) (cc - q))) N S.kn (some ⟨b, off + q, none⟩) (m - q) (cc - q) ad k cp) := fun n => (HF.out.later (below_n _ _)).set3 _ _ _
    have HO1 : Hid (∀ n v, OwnT ((w.drewN n).setCell ⟨N, 3, none⟩ v) (N + 1) (.slice ad k cp) k S.ps) := fun n v => (HO.out.later (below_n _ _)).set (by omega)
    go_enter Try.func31, Try.ntmps31
    go_wp2
    go_quiet (fail)
    go_wp2_with (go_at_call 50; refine (readBody_any kd N S _ _ _ ad k cp b (off + 2) _ _ _ _ (HF1.out _) (HO1.out _ _) hk (HB1.out.low (HB.out _ _) hbN) (by omega) (by omega) HK.out).mono ?_; intro e W2 hW2; obtain rfl := hW2.ret)
    go_ret
    rw [HT.out]
    exact read_fin HL.out HQ.out (by omega) (HB.out _ _) (HR1.out.low (HB.out _ _) hbN) hbN (by omega) hW2
end Go.Proofs.Ytakikkigkmcffaa
/- The contract of Decode. -/
namespace Go.Proofs.Ytakikkigkmcffaa
open Go.RowKit

theorem tk_len {S S' : St} {k : Int} {l : List Int} (h : tk S k l = some S') : S'.ps.length ≤ S.ps.length + 1 := by
  unfold tk at h
  repeat' split at h
  all_goals first | (cases h; done) | (simp only [Option.some.injEq] at h; subst h; simp [St.add])
theorem one_all {S S' : St} {l : List Int} (hS : S.Ok) (hb : Bytes l) (h : one S l = some S') : S'.Ok ∧ S'.ps.length ≤ S.ps.length + 1 ∧ 2 + ln l ≤ l.length := by
  unfold one at h
  split at h
  · cases h
  · split at h
    · cases h
    · exact ⟨tk_ok hS (take_bytes (drop_bytes hb 2) _) h, tk_len h, by omega⟩
/-- What Decode answers: some parts, and a number. -/
def DecI (w : World) (r : List Tlv × Int) (e : Ending) (w' : World) : Prop := ∃ ad k cp, e = .returned (.tuple #[.slice ad k cp, .int .i64 r.2]) ∧ RowT w' ad k r.1 ∧ Below w.heap.size w w'
def lenC : Option Value → Nat
  | some (.slice _ n _) => n
  | _ => 0
/-- At the label: what is read so far, and what is left. -/
def DJ (w : World) (b : Nat) (T : Option St) (a' : Act) (W : World) : Prop :=
  ∃ (S : St) (o m cc : Nat) (ad : Option Addr) (k cp : Nat) (l : List Int) (u0 u1 u5 u6 u7 u8 u9 u10 u11 u12 u13 u14 u15 u16 u17 u18 u19 u20 u21 u22 : Value), a' = { tmps := #[u0, u1, .slice none 0 0, .int .i64 0, .pointer (some ⟨w.heap.size, 0, none⟩), u5, u6, u7, u8, u9, u10, u11, u12, u13, u14, u15, u16, u17, u18, u19, u20, u21, u22], defers := [] } ∧
    RF W w.heap.size S.kn (some ⟨b, o, none⟩) m cc ad k cp ∧ Row8 W (some ⟨b, o, none⟩) m l ∧ k + m ≤ 3000 ∧ m ≤ cc ∧ OwnT W (w.heap.size + 1) (.slice ad k cp) k S.ps ∧ S.Ok ∧ T = run S l ∧ Below w.heap.size w W
noncomputable def afterScope : Code → Option Code
  | .scope c => findLabel c 0
  | .seq a b => match afterScope a with
    | some c => some c
    | none => afterScope b
  | .block _ c => afterScope c
  | _ => none
def Code.second : Code → Code
  | .seq _ b => b
  | c => c
noncomputable def restCode : Code := Code.second ((Try.f16.body.bind afterScope).getD .skip)
theorem ReadI.ret {w w' : World} {N b : Nat} {l : List Int} {T : Option St} {e : Ending} (h : ReadI w N b l T e w') : e = .returned (.bool T.isSome) := by
  cases T <;> exact h.1

set_option maxRecDepth 100000 in
set_option maxHeartbeats 4000000 in
theorem pass16 (w : World) (b : Nat) (T : Option St) (hbN : b < w.heap.size) (a : Act) (W : World) (hJ : DJ w b T a W) :
    Code.wp Try.prog restCode (Exit.jump 0 (fun a' w' => DJ w b T a' w' ∧ lenC (w'.cell? ⟨w.heap.size, 3, none⟩) < lenC (W.cell? ⟨w.heap.size, 3, none⟩)) (bodyPost Try.prog Try.f16 (DecI w (fin T)))) a W := by
  obtain ⟨S, o, m, cc, ad, k, cp, l, u0, u1, u5, u6, u7, u8, u9, u10, u11, u12, u13, u14, u15, u16, u17, u18, u19, u20, u21, u22, rfl, hF, hr, hkm, hmc, hO, hS, hT, hB⟩ := hJ
  have HF : Hid (RF W w.heap.size S.kn (some ⟨b, o, none⟩) m cc ad k cp) := hF
  have HR : Hid (Row8 W (some ⟨b, o, none⟩) m l) := hr
  have HO : Hid (OwnT W (w.heap.size + 1) (.slice ad k cp) k S.ps) := hO
  have HS : Hid S.Ok := hS
  have HT : Hid (T = run S l) := hT
  have HB : Hid (Below w.heap.size w W) := hB
  have HL : Hid (l.length = m) := hr.1
  have HKL : Hid (S.ps.length = k) := hO.len
  obtain ⟨f0, f1, f2, f3, f4, ff, fz⟩ := hF
  clear hr hO hS hT hB f0 f1 f2 ff
  conv => arg 2; whnf
  by_cases hm : m = 0
  · subst hm
    have HE : Hid (T = some S) := by
      unfold Hid; rw [HT.out, List.eq_nil_of_length_eq_zero HL.out, run_nil]
    by_cases h40 : 40 < k
    · have HFin : Hid (fin T = ([], 9)) := by unfold Hid; rw [HE.out]; simp only [fin]; rw [if_pos (by rw [HKL.out]; exact h40)]
      have h40' : (40 : Int) < (k : Int) := by omega
      go_wp2
      simp only [Exit.jump]
      rw [HFin.out]
      exact bodyPost_ret (v := .tuple #[.slice none 0 0, .int .i64 9]) (by simp [results, Try.results16, go_sem]) rfl ⟨none, 0, 0, rfl, rowT_none _, HB.out⟩
    · have HFin : Hid (fin T = (S.ps, 0)) := by unfold Hid; rw [HE.out]; simp only [fin]; rw [if_neg (by rw [HKL.out]; exact h40)]
      have h40' : ¬ (40 : Int) < (k : Int) := by omega
      go_wp2
      simp only [Exit.jump]
      rw [HFin.out]
      exact bodyPost_ret (v := .tuple #[.slice ad k cp, .int .i64 0]) (by simp [results, Try.results16, go_sem]) rfl ⟨ad, k, cp, rfl, HO.out.row HS.out.o, HB.out⟩
  · have hm0 : (0 : Int) < (m : Int) := by omega
    have HN : Hid (_) := run_next (S := S) (l := l) (by rw [HL.out]; omega)
    cases h1 : one S l with
    | none =>
      have HFin : Hid (fin T = ([], 2)) := by unfold Hid; rw [HT.out, HN.out, h1]; rfl
      have H1 : Hid (one S l = none) := h1
      clear HN h1
      go_wp2_with (go_at_call 31; refine (read_any w.heap.size b o m cc S ad k cp l _ HF.out HO.out (by omega) HR.out (by omega) hmc hbN HS.out.k).mono ?_; rintro e W2 hW2; rw [H1.out] at hW2; obtain ⟨rfl, hB2⟩ := hW2)
      simp only [Exit.jump]
      rw [HFin.out]
      exact bodyPost_ret (v := .tuple #[.slice none 0 0, .int .i64 2]) (by simp [results, Try.results16, go_sem]) rfl ⟨none, 0, 0, rfl, rowT_none _, HB.out.trans hB2⟩
    | some S' =>
      obtain ⟨hS', hlen, hle⟩ := one_all HS.out HR.out.2.2.1 h1
      have HT' : Hid (T = run S' (l.drop (2 + ln l))) := by unfold Hid; rw [HT.out, HN.out, h1]
      have H1 : Hid (one S l = some S') := h1
      have HS' : Hid S'.Ok := hS'
      have HLen : Hid (S'.ps.length ≤ k + 1) := by unfold Hid; rw [← HKL.out]; exact hlen
      have HLe : Hid (2 + ln l ≤ m) := by unfold Hid; rw [← HL.out]; exact hle
      clear HN h1 hS' hlen hle
      go_wp2_with (go_at_call 31; refine (read_any w.heap.size b o m cc S ad k cp l _ HF.out HO.out (by omega) HR.out (by omega) hmc hbN HS.out.k).mono ?_; rintro e W2 hW2; rw [H1.out] at hW2; obtain ⟨rfl, o2, cc2, ad2, k2, cp2, hF2, hr2, hc2, hO2, hB2⟩ := hW2)
      go_step3
      have hk2 := hO2.len
      have hl2 := HLen.out
      have hl3 := HLe.out
      have hl4 := HL.out
      refine ⟨rfl, ⟨S', o2, _, cc2, ad2, k2, cp2, _, _, _, _, _, _, _, _, _, _, _, _, _, _, _, _, _, _, _, _, _, rfl, hF2, hr2, by omega, hc2, hO2, HS'.out, HT'.out, HB.out.trans hB2⟩, ?_⟩
      rw [hF2.2.2.2.1, f3]
      simp only [lenC]
      omega
theorem jump_mono {l : Nat} {J J' : Act → World → Prop} {Q : Exit → Act → World → Prop} (h : ∀ a w, J a w → J' a w) : ∀ e a w, Exit.jump l J Q e a w → Exit.jump l J' Q e a w := by
  intro e a w
  cases e <;> intro hq <;> first | exact ⟨hq.1, h _ _ hq.2⟩ | exact hq
theorem RF.new (w : World) (ra : Option Addr) (m cc : Nat) : RF (w.alloc (.cells #[.bool false, .int .u64 0, .int .u32 0, .slice ra m cc, .slice none 0 0] 60)) w.heap.size kn0 ra m cc none 0 0 := by
  refine ⟨?_, ?_, ?_, ?_, ?_, fun o => ?_, ?_⟩ <;> simp [go_sem, kn0]
set_option maxHeartbeats 2000000 in
theorem decode_bad (a : Option Addr) (n cap : Nat) (l : List Int) (w : World) (hr : Row8 w a n l) (hn : n ≤ 3000) (hf : framed l = false) :
    Calls Try.prog 16 #[.slice a n cap] w (DecI w (dec l)) := by
  rw [dec_odd hf]
  have HR : Hid (Row8 w a n l) := hr
  clear hr
  go_enter Try.func16, Try.ntmps16
  go_wp2
  go_step3
  go_wp2_with (go_at_call 30; refine (isFramed_any _ _ _ l _ HR.out hn hf).mono ?_; rintro e w ⟨rfl, rfl⟩)
  rw [Exit.noGoto_ret]
  exact bodyPost_ret (v := .tuple #[.slice none 0 0, .int .i64 2]) (by simp [results, Try.results16, go_sem]) rfl ⟨none, 0, 0, rfl, rowT_none _, Below.refl _ _⟩
set_option maxRecDepth 100000 in
set_option maxHeartbeats 2000000 in
theorem decode_run (b off n cap : Nat) (l : List Int) (w : World) (hr : Row8 w (some ⟨b, off, none⟩) n l) (hn : n ≤ 3000) (hc : n ≤ cap) (hf : framed l = true) :
    Calls Try.prog 16 #[.slice (some ⟨b, off, none⟩) n cap] w (DecI w (dec l)) := by
  have h4 := (framed_all hf).1
  rw [hr.1] at h4
  obtain ⟨b', off', e, hcell⟩ := hr.at (by omega)
  simp only [Option.some.injEq, Addr.mk.injEq, and_true] at e
  obtain ⟨rfl, rfl⟩ := e
  have hbz : b < w.heap.size := block_lt_of_cell (hcell 0 (by omega))
  have HD : Hid (dec l = fin (run ⟨kn0, []⟩ (l.drop 4))) := by unfold Hid dec; rw [if_pos hf]
  have HR : Hid (Row8 w (some ⟨b, off, none⟩) n l) := hr
  have HRR : Hid (_) := hr.rest 4 cap h4 hc b off rfl
  have i1 : (4 : Int) ≤ (n : Int) := by omega
  have i2 : (n : Int) ≤ (cap : Int) := by omega
  rw [HD.out]
  clear hr hcell
  by_cases hc4 : cap = 4
  · obtain rfl : n = 4 := by omega
    subst hc4
    have HR1 : Hid (Row8 w (some ⟨b, off, none⟩) (0) (l.drop 4)) := by
      have h := HRR.out
      rw [if_pos rfl] at h
      exact h
    go_enter Try.func16, Try.ntmps16
    go_wp2
    refine wp_scope_jumps 0 (DJ w b (run ⟨kn0, []⟩ (l.drop 4))) (fun _ W => lenC (W.cell? ⟨w.heap.size, 3, none⟩)) rfl ?_ ?_
    rotate_left
    · intro a' W' hJ
      exact wp_seq (wp_skip (pass16 w b _ hbz a' W' hJ))
    go_wp2_with (go_at_call 30; refine (isFramed_any _ _ _ l _ HR.out hn hf).mono ?_; rintro e w ⟨rfl, rfl⟩)
    go_step3
    rename_i K hK
    refine hK _ _ (wp_mono (pass16 w b _ hbz _ _ ?_) (jump_mono fun a w h => h.1))
    exact ⟨⟨kn0, []⟩, off, 0, 0, none, 0, 0, l.drop 4, _, _, _, _, _, _, _, _, _, _, _, _, _, _, _, _, _, _, _, _, rfl, RF.new w _ _ _, HR1.out.later (below1 _ _), by omega, by omega, ownT_nil _ _, ⟨kn0_ok, none_ok, rfl⟩, rfl, below1 _ _⟩
  · have HR1 : Hid (Row8 w (some ⟨b, off + 4, none⟩) (n - 4) (l.drop 4)) := by
      have h := HRR.out
      rw [if_neg (by omega)] at h
      exact h
    go_enter Try.func16, Try.ntmps16
    go_wp2
    refine wp_scope_jumps 0 (DJ w b (run ⟨kn0, []⟩ (l.drop 4))) (fun _ W => lenC (W.cell? ⟨w.heap.size, 3, none⟩)) rfl ?_ ?_
    rotate_left
    · intro a' W' hJ
      exact wp_seq (wp_skip (pass16 w b _ hbz a' W' hJ))
    go_wp2_with (go_at_call 30; refine (isFramed_any _ _ _ l _ HR.out hn hf).mono ?_; rintro e w ⟨rfl, rfl⟩)
    go_step3
    rename_i K hK
    refine hK _ _ (wp_mono (pass16 w b _ hbz _ _ ?_) (jump_mono fun a w h => h.1))
    exact ⟨⟨kn0, []⟩, off + 4, n - 4, cap - 4, none, 0, 0, l.drop 4, _, _, _, _, _, _, _, _, _, _, _, _, _, _, _, _, _, _, _, _, rfl, RF.new w _ _ _, HR1.out.later (below1 _ _), by omega, by omega, ownT_nil _ _, ⟨kn0_ok, none_ok, rfl⟩, rfl, below1 _ _⟩
theorem decode_any (a : Option Addr) (n cap : Nat) (l : List Int) (w : World) (hr : Row8 w a n l) (hn : n ≤ 3000) (hc : n ≤ cap) :
    Calls Try.prog 16 #[.slice a n cap] w (DecI w (dec l)) := by
  cases hf : framed l
  · exact decode_bad a n cap l w hr hn hf
  · have h4 := (framed_all hf).1
    rw [hr.1] at h4
    obtain ⟨b, off, rfl, -⟩ := hr.at (by omega)
    exact decode_run b off n cap l w hr hn hc hf
end Go.Proofs.Ytakikkigkmcffaa
