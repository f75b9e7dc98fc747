/- readBody: update. -/
import Derived.Deep.RegionLaw
import Derived.Test.YtakikkigkmcffaaCD9
import Derived.Test.YtakikkigkmcffaaCDB
namespace Go.Proofs.Ytakikkigkmcffaa
open Go.RowKit

theorem bm_upd {w W1 : World} {N : Nat} {K' : Kn} {ra : Option Addr} {m cc : Nat} {ad : Option Addr} {k cp : Nat} (hN : N < w.heap.size) (hF : RF W1 N K' ra m cc ad k cp) (hB : Below N (w.alloc objZ) W1) (hj : ∀ j, N < j → j < (w.alloc objZ).heap.size → W1.heap[j]? = (w.alloc objZ).heap[j]?) : BM w W1 N K' ra m cc ad k cp t0 := by
  have hB0 : Below N w W1 := ((below1 w objZ).mono (Nat.le_of_lt hN)).trans hB
  have hz := hB.size
  simp only [World.size_alloc] at hz hj
  have hM : W1.heap[w.heap.size]? = (w.alloc objZ).heap[w.heap.size]? := hj _ hN (by omega)
  have hc : ∀ o, W1.cell? ⟨w.heap.size, o, none⟩ = (w.alloc objZ).cell? ⟨w.heap.size, o, none⟩ := fun o => by unfold World.cell?; simp only [hM]
  refine ⟨hF, hB0, fun j h1 h2 => (hj j h1 (by omega)).trans ((below1 w objZ).block j h2), (T9.new w 0 0 0 0 0 0 0 0 0).far hc, fun o => ?_, by omega, hN⟩
  have : W1.frozen? ⟨w.heap.size, o, none⟩ = (w.alloc objZ).frozen? ⟨w.heap.size, o, none⟩ := by unfold World.frozen?; simp only [hM]
  rw [this]; simp [go_sem]
set_option maxRecDepth 8000 in
set_option maxHeartbeats 2000000 in
theorem body_8 (N : Nat) (S : St) (ra : Option Addr) (m cc : Nat) (ad : Option Addr) (k cp : Nat) (b off n cap : Nat) (l : List Int) (w : World) (hF : RF w N S.kn ra m cc ad k cp) (hO : OwnT w (N + 1) (.slice ad k cp) k S.ps) (hk : k ≤ 5000) (hr : Row8 w (some ⟨b, off, none⟩) n l) (hn : n ≤ 255) (hc : n ≤ cap) (hK : S.kn.Ok) :
    Calls Try.prog 50 #[.pointer (some ⟨N, 0, none⟩), .int .u8 8, .slice (some ⟨b, off, none⟩) n cap] w (TookI w N ra m cc (tk S 8 l)) := by
  have HR : Hid (Row8 w (some ⟨b, off, none⟩) n l) := hr
  have HF : Hid (RF w N S.kn ra m cc ad k cp) := hF
  have HO : Hid (OwnT w (N + 1) (.slice ad k cp) k S.ps) := hO
  obtain ⟨v, hv⟩ : ∃ v, upOk S.kn l = v := ⟨_, rfl⟩
  have HVv : Hid (upOk S.kn l = v) := hv
  have HT : Hid (tk S 8 l = if v = true then some ⟨⟨true, S.kn.r, upA S.kn l⟩, S.ps ++ [upT S.kn l]⟩ else none) := by
    unfold Hid tk
    rw [if_neg (by decide), if_neg (by decide), if_neg (by decide), if_pos rfl, hv]
  have hz : N < w.heap.size := hF.2.2.2.2.2.2
  have HK : Hid S.kn.Ok := hK
  clear hr hF hO hv hK
  go_enter Try.func50, Try.ntmps50
  go_wp2_with (go_at_call 63; refine (readUpdate_any N S.kn ra m cc ad k cp S.ps b off n cap l _ HK.out (HF.out.later (below1 _ _)) (HO.out.later (below1 _ _)) (HR.out.later (below1 _ _)) (by omega) hc HVv.out).mono ?_; rintro e W1 ⟨a', k9, s9, i9, c9, a9, l9, r9, t9, h9, rfl, hp, hok, hF1, hO1, hB1, hj1⟩; have HP : Hid (v = true → (⟨k9, s9, i9, c9, a9, l9, r9, t9, h9⟩ : Tlv) = upT S.kn l ∧ a' = upA S.kn l ∧ S.kn.told = true) := hp; have HOK : Hid (Tlv.Ok ⟨k9, s9, i9, c9, a9, l9, r9, t9, h9⟩) := hok; have HB1 : Hid (BM w W1 N ⟨S.kn.told, S.kn.r, a'⟩ ra m cc ad k cp t0) := bm_upd hz hF1 hB1 hj1; clear hF1 hO1 hB1 hj1 hp hok; obtain ⟨-, -, -, hT9, nf, lt1, -⟩ := HB1.out; obtain ⟨c0, c1, c2, c3, c4, c5, c6, c7, c8⟩ := hT9.z; clear hT9)
  obtain ⟨W2, hW2⟩ : ∃ W2, W2 = (((((((((W1.setCell ⟨w.heap.size, 0, none⟩ (.int .i64 k9)).setCell ⟨w.heap.size, 1, none⟩ (.int .u16 s9)).setCell ⟨w.heap.size, 2, none⟩ (.int .i64 i9)).setCell ⟨w.heap.size, 3, none⟩ (.int .i64 c9)).setCell ⟨w.heap.size, 4, none⟩ (.int .u32 a9)).setCell ⟨w.heap.size, 5, none⟩ (.int .i64 l9)).setCell ⟨w.heap.size, 6, none⟩ (.int .u64 r9)).setCell ⟨w.heap.size, 7, none⟩ (.int .u16 t9)).setCell ⟨w.heap.size, 8, none⟩ (.int .i64 h9)) := ⟨_, rfl⟩
  rw [← hW2]
  have HB2 : Hid (BM w W2 N ⟨S.kn.told, S.kn.r, a'⟩ ra m cc ad k cp ⟨k9, s9, i9, c9, a9, l9, r9, t9, h9⟩) := by unfold Hid; rw [hW2]; exact HB1.out.set ⟨k9, s9, i9, c9, a9, l9, r9, t9, h9⟩
  clear hW2 c0 c1 c2 c3 c4 c5 c6 c7 c8 nf lt1
  obtain ⟨⟨f0, f1, f2, f3, f4, ff, fz⟩, -, -, hT2, nf2, lt2, hN⟩ := HB2.out
  obtain ⟨c0, c1, c2, c3, c4, c5, c6, c7, c8⟩ := hT2.z
  clear hT2
  go_region_law
    (first
      | (refine step_appT _ (by rfl) _ _ 22 (by rfl) (N + 1) Try.underlying22 info44 _ k S.ps (by rfl) ((HB2.out.own HO.out).later (below1 _ _).drew) _ 1 1 [⟨k9, s9, i9, c9, a9, l9, r9, t9, h9⟩] (by rfl) (rowT_one ((T9.newA W2 W2.heap.size rfl k9 s9 i9 c9 a9 l9 r9 t9 h9).later (Below.refl _ _).drew) rfl HOK.out) (k + 1) (by rfl) (S.ps ++ [⟨k9, s9, i9, c9, a9, l9, r9, t9, h9⟩]) (by rfl) (by omega) (by simp [World.drew]; omega) ?_; intro a3 c3' W3 own3 hb3; have HF3 : Hid (RF W3 N ⟨S.kn.told, S.kn.r, a'⟩ ra m cc ad k cp) := (HB2.out.1.later (below1 W2 (objT k9 s9 i9 c9 a9 l9 r9 t9 h9)).drew).lift hb3 (by omega); obtain ⟨g0, g1, g2, g3, g4, gf, gz⟩ := HF3.out))
  all_goals
    go_wp2
    go_ret
    have hB3 : Below N w W3 := (HB2.out.2.1.trans ((below1 W2 (objT k9 s9 i9 c9 a9 l9 r9 t9 h9)).drew.mono (Nat.le_of_lt fz))).trans (hb3.mono (by omega))
    rw [HT.out]
    cases v
    · exact ⟨rfl, hB3.setCell (p := ⟨N, 4, none⟩) (Nat.le_refl _) _⟩
    · have e9 := HP.out rfl
      obtain ⟨e9, e8, e7⟩ := e9
      rw [if_pos rfl, ← e9, ← e8]
      have hR3 := HF3.out
      rw [e7] at hR3
      exact ⟨rfl, a3, k + 1, c3', RF.set4 hR3 _ _ _, own3.set (by omega), hB3.setCell (p := ⟨N, 4, none⟩) (Nat.le_refl _) _⟩
end Go.Proofs.Ytakikkigkmcffaa
