/- The contract of the document's Put. -/
import Derived.Test.YtcabeclbdjfoaaaRibG
namespace Go.Proofs.Ytcabeclbdjfoaaa
open Go.RowKit

/-- A route is laid into seven cells. -/
def set7 (W : World) (b o : Nat) (a l d s m n t : Int) : World := (((((((W.setCell ⟨b, o, none⟩ (.int .u32 a)).setCell ⟨b, o + 1, none⟩ (.int .i64 l)).setCell ⟨b, o + 2, none⟩ (.int .i64 d)).setCell ⟨b, o + 3, none⟩ (.int .i64 s)).setCell ⟨b, o + 4, none⟩ (.int .i64 m)).setCell ⟨b, o + 5, none⟩ (.int .i64 n)).setCell ⟨b, o + 6, none⟩ (.int .u16 t))
theorem set7_far {W : World} {b o : Nat} {a l d s m n t : Int} {p : Addr} (h : p.block ≠ b) : (set7 W b o a l d s m n t).cell? p = W.cell? p := by
  unfold set7
  iterate 7 rw [World.cell?_setCell_other _ _ _ _ (fun e => h (by rw [← e]))]
theorem set7_frozen {W : World} {b o : Nat} {a l d s m n t : Int} (p : Addr) : (set7 W b o a l d s m n t).frozen? p = W.frozen? p := by
  unfold set7
  simp only [World.frozen?_setCell]
theorem set7_size {W : World} {b o : Nat} {a l d s m n t : Int} : (set7 W b o a l d s m n t).heap.size = W.heap.size := by
  unfold set7
  simp
theorem set7_keep {B : Nat → Prop} {a0 W : World} {b o : Nat} {a l d s m n t : Int} (h : Keep B a0 W) (hb : B b) : Keep B a0 (set7 W b o a l d s m n t) := by
  unfold set7
  exact (((((((h.setCell (p := ⟨b, o, none⟩) hb _).setCell (p := ⟨b, o + 1, none⟩) hb _).setCell (p := ⟨b, o + 2, none⟩) hb _).setCell (p := ⟨b, o + 3, none⟩) hb _).setCell (p := ⟨b, o + 4, none⟩) hb _).setCell (p := ⟨b, o + 5, none⟩) hb _).setCell (p := ⟨b, o + 6, none⟩) hb _)
theorem flat_set7 (a l d s m n t : Int) : ∀ (L : List Rt) (i : Nat) (p : Rt), L[i]? = some p → (((((((L.flatMap Rt.cs).set (i * 7) (.int .u32 a)).set (i * 7 + 1) (.int .i64 l)).set (i * 7 + 2) (.int .i64 d)).set (i * 7 + 3) (.int .i64 s)).set (i * 7 + 4) (.int .i64 m)).set (i * 7 + 5) (.int .i64 n)).set (i * 7 + 6) (.int .u16 t) = (L.set i ⟨a, l, d, s, m, n, t⟩).flatMap Rt.cs
  | [], i, p, h => by simp at h
  | q :: L, 0, p, h => by rfl
  | q :: L, i + 1, p, h => by
    have ih := flat_set7 a l d s m n t L i p (by simpa using h)
    rw [List.flatMap_cons, List.set_cons_succ, List.flatMap_cons, ← ih, show (i + 1) * 7 + 6 = (i * 7 + 6) + 1 + 1 + 1 + 1 + 1 + 1 + 1 by omega, show (i + 1) * 7 + 5 = (i * 7 + 5) + 1 + 1 + 1 + 1 + 1 + 1 + 1 by omega, show (i + 1) * 7 + 4 = (i * 7 + 4) + 1 + 1 + 1 + 1 + 1 + 1 + 1 by omega, show (i + 1) * 7 + 3 = (i * 7 + 3) + 1 + 1 + 1 + 1 + 1 + 1 + 1 by omega, show (i + 1) * 7 + 2 = (i * 7 + 2) + 1 + 1 + 1 + 1 + 1 + 1 + 1 by omega, show (i + 1) * 7 + 1 = (i * 7 + 1) + 1 + 1 + 1 + 1 + 1 + 1 + 1 by omega, show (i + 1) * 7 = (i * 7) + 1 + 1 + 1 + 1 + 1 + 1 + 1 by omega]
    rfl
theorem setCell_heap {W : World} {g i : Nat} {cur : Array Value} {ty : TypeId} {fr : Nat × Nat} (v : Value) (hg : W.heap[g]? = some (.cells cur ty fr)) : (W.setCell ⟨g, i, none⟩ v).heap[g]? = some (.cells (cur.setIfInBounds i v) ty fr) := by
  rw [setCell_eq_setRow W g i cur ty fr v hg]
  exact setRow_heap W g _ _ ty fr hg
theorem OwnR.set7 {W : World} {base g n' cap i : Nat} {L : List Rt} {p : Rt} (h : OwnR W base (.slice (some ⟨g, 0, none⟩) n' cap) n' L) (hp : L[i]? = some p) (a l d s m n t : Int) : OwnR (set7 W g (i * 7) a l d s m n t) base (.slice (some ⟨g, 0, none⟩) n' cap) n' (L.set i ⟨a, l, d, s, m, n, t⟩) := by
  have hl := h.len
  have hi := (List.getElem?_eq_some_iff.1 hp).1
  rcases h.2 with ⟨h1, h0⟩ | ⟨g', c', cur, hv, hbg, hg, hle, hmx, hsz, htk⟩
  · cases h1
  simp only [Value.slice.injEq, Option.some.injEq, Addr.mk.injEq, and_true, true_and] at hv
  obtain ⟨rfl, rfl⟩ := hv
  unfold Go.Proofs.Ytcabeclbdjfoaaa.set7
  have k0 := setCell_heap (i := i * 7) (.int .u32 a) hg
  have k1 := setCell_heap (i := i * 7 + 1) (.int .i64 l) k0
  have k2 := setCell_heap (i := i * 7 + 2) (.int .i64 d) k1
  have k3 := setCell_heap (i := i * 7 + 3) (.int .i64 s) k2
  have k4 := setCell_heap (i := i * 7 + 4) (.int .i64 m) k3
  have k5 := setCell_heap (i := i * 7 + 5) (.int .i64 n) k4
  have k6 := setCell_heap (i := i * 7 + 6) (.int .u16 t) k5
  refine ⟨by rw [csR_flat_len, List.length_set, hl], .inr ⟨g, cap, _, rfl, hbg, k6, hle, hmx, by simpa using hsz, ?_⟩⟩
  simp only [Array.toList_setIfInBounds, List.take_set]
  rw [htk, flat_set7 a l d s m n t L i p hp]
end Go.Proofs.Ytcabeclbdjfoaaa
