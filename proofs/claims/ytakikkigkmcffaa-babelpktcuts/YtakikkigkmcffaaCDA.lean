/- Between a part's reading and its append. -/
import Derived.Deep.RegionLaw
import Derived.Test.YtakikkigkmcffaaConS
import Derived.Test.YtakikkigkmcffaaCD6
namespace Go.Proofs.Ytakikkigkmcffaa
open Go.RowKit

theorem OwnT.mid0 {w w' : World} {N : Nat} {v : Value} {n : Nat} {es : List Tlv} (h : OwnT w (N + 1) v n es) (hb : ∀ j, N < j → j < w.heap.size → w'.heap[j]? = w.heap[j]?) : OwnT w' (N + 1) v n es := by
  refine ⟨h.1, ?_⟩
  rcases h.2 with hn | ⟨g, cap, cur, hv, hbg, hg, r⟩
  · exact .inl hn
  · refine .inr ⟨g, cap, cur, hv, hbg, ?_, r⟩
    rw [hb g hbg (Array.getElem?_eq_some_iff.1 hg).1]
    exact hg
/-- The reader, and a part p in the block behind the entry's world; all between them stands as it was. -/
def BM (w W1 : World) (N : Nat) (K : Kn) (ra : Option Addr) (m cc : Nat) (ad : Option Addr) (k cp : Nat) (p : Tlv) : Prop :=
  RF W1 N K ra m cc ad k cp ∧ Below N w W1 ∧ (∀ j, N < j → j < w.heap.size → W1.heap[j]? = w.heap[j]?) ∧ T9 W1 w.heap.size 0 p ∧ (∀ o, W1.frozen? ⟨w.heap.size, o, none⟩ = false) ∧ w.heap.size < W1.heap.size ∧ N < w.heap.size
abbrev t0 : Tlv := ⟨0, 0, 0, 0, 0, 0, 0, 0, 0⟩
section
variable {w W1 : World} {N : Nat} {K : Kn} {ra : Option Addr} {m cc : Nat} {ad : Option Addr} {k cp : Nat}
theorem BM.of (hF : RF w N K ra m cc ad k cp) (hb : Below (w.alloc objZ).heap.size (w.alloc objZ) W1) : BM w W1 N K ra m cc ad k cp t0 := by
  have h := Below.out1 hb
  have hz := hb.size
  simp only [World.size_alloc] at hz
  exact ⟨hF.later h, h.mono (Nat.le_of_lt hF.2.2.2.2.2.2), fun j _ hj => h.block j hj, (T9.new w 0 0 0 0 0 0 0 0 0).later hb, fun o => (hb.frozen (p := ⟨w.heap.size, o, none⟩) (by simp)).trans (by simp [go_sem]), by omega, hF.2.2.2.2.2.2⟩
theorem BM.set {p0 : Tlv} (h : BM w W1 N K ra m cc ad k cp p0) (p : Tlv) : BM w (((((((((W1.setCell ⟨w.heap.size, 0, none⟩ (.int .i64 p.k)).setCell ⟨w.heap.size, 1, none⟩ (.int .u16 p.s)).setCell ⟨w.heap.size, 2, none⟩ (.int .i64 p.i)).setCell ⟨w.heap.size, 3, none⟩ (.int .i64 p.c)).setCell ⟨w.heap.size, 4, none⟩ (.int .u32 p.a)).setCell ⟨w.heap.size, 5, none⟩ (.int .i64 p.l)).setCell ⟨w.heap.size, 6, none⟩ (.int .u64 p.r)).setCell ⟨w.heap.size, 7, none⟩ (.int .u16 p.t)).setCell ⟨w.heap.size, 8, none⟩ (.int .i64 p.h)) N K ra m cc ad k cp p := by
  obtain ⟨hF, hB, hj, hT, hf, hz, hN⟩ := h
  simp only [T9, Nat.zero_add] at hT
  obtain ⟨c0, c1, c2, c3, c4, c5, c6, c7, c8⟩ := hT
  refine ⟨hF.lift (B := w.heap.size) ?_ hN, ?_, fun j h1 h2 => ?_, ?_, fun o => ?_, ?_, hN⟩
  · exact ((((((((((Below.refl _ _).setCell (p := ⟨w.heap.size, 0, none⟩) (Nat.le_refl _) _).setCell (p := ⟨w.heap.size, 1, none⟩) (Nat.le_refl _) _).setCell (p := ⟨w.heap.size, 2, none⟩) (Nat.le_refl _) _).setCell (p := ⟨w.heap.size, 3, none⟩) (Nat.le_refl _) _).setCell (p := ⟨w.heap.size, 4, none⟩) (Nat.le_refl _) _).setCell (p := ⟨w.heap.size, 5, none⟩) (Nat.le_refl _) _).setCell (p := ⟨w.heap.size, 6, none⟩) (Nat.le_refl _) _).setCell (p := ⟨w.heap.size, 7, none⟩) (Nat.le_refl _) _).setCell (p := ⟨w.heap.size, 8, none⟩) (Nat.le_refl _) _)
  · exact (((((((((hB.setCell (p := ⟨w.heap.size, 0, none⟩) (Nat.le_of_lt hN) _).setCell (p := ⟨w.heap.size, 1, none⟩) (Nat.le_of_lt hN) _).setCell (p := ⟨w.heap.size, 2, none⟩) (Nat.le_of_lt hN) _).setCell (p := ⟨w.heap.size, 3, none⟩) (Nat.le_of_lt hN) _).setCell (p := ⟨w.heap.size, 4, none⟩) (Nat.le_of_lt hN) _).setCell (p := ⟨w.heap.size, 5, none⟩) (Nat.le_of_lt hN) _).setCell (p := ⟨w.heap.size, 6, none⟩) (Nat.le_of_lt hN) _).setCell (p := ⟨w.heap.size, 7, none⟩) (Nat.le_of_lt hN) _).setCell (p := ⟨w.heap.size, 8, none⟩) (Nat.le_of_lt hN) _)
  · iterate 9 rw [setCell_block _ _ _ j (by show w.heap.size ≠ j; omega)]
    exact hj j h1 h2
  · simp only [T9, Nat.zero_add]
    refine ⟨?_, ?_, ?_, ?_, ?_, ?_, ?_, ?_, ?_⟩ <;> simp [go_sem, c0, c1, c2, c3, c4, c5, c6, c7, c8]
  · simp [go_sem, hf]
  · simpa using hz
theorem BM.own {p : Tlv} {es : List Tlv} (h : BM w W1 N K ra m cc ad k cp p) (hO : OwnT w (N + 1) (.slice ad k cp) k es) : OwnT W1 (N + 1) (.slice ad k cp) k es := hO.mid0 h.2.2.1
end
end Go.Proofs.Ytakikkigkmcffaa
