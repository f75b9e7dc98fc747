/- readBody: ask for a number. -/
import Derived.Deep.RegionLaw
import Derived.Test.YtakikkigkmcffaaCD8
import Derived.Test.YtakikkigkmcffaaCDB
namespace Go.Proofs.Ytakikkigkmcffaa
open Go.RowKit

set_option maxRecDepth 8000 in
set_option maxHeartbeats 2000000 in
theorem body_10 (N : Nat) (S : St) (ra : Option Addr) (m cc : Nat) (ad : Option Addr) (k cp : Nat) (b off n cap : Nat) (l : List Int) (w : World) (hF : RF w N S.kn ra m cc ad k cp) (hO : OwnT w (N + 1) (.slice ad k cp) k S.ps) (hk : k ≤ 5000) (hr : Row8 w (some ⟨b, off, none⟩) n l) (hn : n ≤ 255) (hc : n ≤ cap) :
    Calls Try.prog 50 #[.pointer (some ⟨N, 0, none⟩), .int .u8 10, .slice (some ⟨b, off, none⟩) n cap] w (TookI w N ra m cc (tk S 10 l)) := by
  have HR : Hid (Row8 w (some ⟨b, off, none⟩) n l) := hr
  have HF : Hid (RF w N S.kn ra m cc ad k cp) := hF
  have HO : Hid (OwnT w (N + 1) (.slice ad k cp) k S.ps) := hO
  obtain ⟨v, hv⟩ : ∃ v, seqOk l = v := ⟨_, rfl⟩
  have HVv : Hid (seqOk l = v) := hv
  have HT : Hid (tk S 10 l = if v = true then some (S.add (seqT l)) else none) := by
    unfold Hid tk
    rw [if_neg (by decide), if_neg (by decide), if_neg (by decide), if_neg (by decide), if_neg (by decide), if_pos rfl, hv]
  have hz : N < w.heap.size := hF.2.2.2.2.2.2
  clear hr hF hO hv
  go_enter Try.func50, Try.ntmps50
  go_wp2_with (go_at_call 65; refine (readAskSeq_any b off n cap l _ (HR.out.later (below1 _ _)) (by omega) hc HVv.out).mono ?_; rintro e W1 ⟨k9, s9, i9, c9, a9, l9, r9, t9, h9, rfl, hp, hok, hb1⟩; have HP : Hid (v = true → (⟨k9, s9, i9, c9, a9, l9, r9, t9, h9⟩ : Tlv) = seqT l) := hp; have HOK : Hid (Tlv.Ok ⟨k9, s9, i9, c9, a9, l9, r9, t9, h9⟩) := hok; have HB1 : Hid (BM w W1 N S.kn ra m cc ad k cp t0) := BM.of HF.out hb1; clear hb1 hp hok; obtain ⟨-, -, -, hT9, nf, lt1, -⟩ := HB1.out; obtain ⟨c0, c1, c2, c3, c4, c5, c6, c7, c8⟩ := hT9.z; clear hT9)
  obtain ⟨W2, hW2⟩ : ∃ W2, W2 = (((((((((W1.setCell ⟨w.heap.size, 0, none⟩ (.int .i64 k9)).setCell ⟨w.heap.size, 1, none⟩ (.int .u16 s9)).setCell ⟨w.heap.size, 2, none⟩ (.int .i64 i9)).setCell ⟨w.heap.size, 3, none⟩ (.int .i64 c9)).setCell ⟨w.heap.size, 4, none⟩ (.int .u32 a9)).setCell ⟨w.heap.size, 5, none⟩ (.int .i64 l9)).setCell ⟨w.heap.size, 6, none⟩ (.int .u64 r9)).setCell ⟨w.heap.size, 7, none⟩ (.int .u16 t9)).setCell ⟨w.heap.size, 8, none⟩ (.int .i64 h9)) := ⟨_, rfl⟩
  rw [← hW2]
  have HB2 : Hid (BM w W2 N S.kn ra m cc ad k cp ⟨k9, s9, i9, c9, a9, l9, r9, t9, h9⟩) := by unfold Hid; rw [hW2]; exact HB1.out.set ⟨k9, s9, i9, c9, a9, l9, r9, t9, h9⟩
  clear hW2 c0 c1 c2 c3 c4 c5 c6 c7 c8 nf lt1
  obtain ⟨⟨f0, f1, f2, f3, f4, ff, fz⟩, -, -, hT2, nf2, lt2, hN⟩ := HB2.out
  obtain ⟨c0, c1, c2, c3, c4, c5, c6, c7, c8⟩ := hT2.z
  clear hT2
  go_region_law
    (first
      | (refine step_appT _ (by rfl) _ _ 22 (by rfl) (N + 1) Try.underlying22 info44 _ k S.ps (by rfl) ((HB2.out.own HO.out).later (below1 _ _).drew) _ 1 1 [⟨k9, s9, i9, c9, a9, l9, r9, t9, h9⟩] (by rfl) (rowT_one ((T9.newA W2 W2.heap.size rfl k9 s9 i9 c9 a9 l9 r9 t9 h9).later (Below.refl _ _).drew) rfl HOK.out) (k + 1) (by rfl) (S.ps ++ [⟨k9, s9, i9, c9, a9, l9, r9, t9, h9⟩]) (by rfl) (by omega) (by simp [World.drew]; omega) ?_; intro a3 c3' W3 own3 hb3; have HF3 : Hid (RF W3 N S.kn ra m cc ad k cp) := (HB2.out.1.later (below1 W2 (objT k9 s9 i9 c9 a9 l9 r9 t9 h9)).drew).lift hb3 (by omega); obtain ⟨g0, g1, g2, g3, g4, gf, gz⟩ := HF3.out))
  all_goals
    go_wp2
    go_ret
    have hB3 : Below N w W3 := (HB2.out.2.1.trans ((below1 W2 (objT k9 s9 i9 c9 a9 l9 r9 t9 h9)).drew.mono (Nat.le_of_lt fz))).trans (hb3.mono (by omega))
    rw [HT.out]
    cases v
    · exact ⟨rfl, hB3.setCell (p := ⟨N, 4, none⟩) (Nat.le_refl _) _⟩
    · have e9 := HP.out rfl
      rw [if_pos rfl, ← e9]
      exact ⟨rfl, a3, k + 1, c3', RF.set4 HF3.out _ _ _, own3.set (by omega), hB3.setCell (p := ⟨N, 4, none⟩) (Nat.le_refl _) _⟩
end Go.Proofs.Ytakikkigkmcffaa
