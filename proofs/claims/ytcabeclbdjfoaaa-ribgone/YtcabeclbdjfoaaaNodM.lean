/- The program's trie in memory: the block of its head, that of its nodes. -/
import Derived.Test.YtcabeclbdjfoaaaRowN
import Derived.Test.YtcabeclbdjfoaaaBitA
import Derived.Test.YtcabeclbdjfoaaaTriY
namespace Go.Proofs.Ytcabeclbdjfoaaa
open Go.RowKit

structure TrM (W : World) (N g cap : Nat) (most cnt : Int) (ns : List Nd) : Prop where
  c0 : W.cell? ⟨N, 0, none⟩ = some (.slice (some ⟨g, 0, none⟩) ns.length cap)
  c1 : W.cell? ⟨N, 1, none⟩ = some (.int .i64 most)
  c2 : W.cell? ⟨N, 2, none⟩ = some (.int .i64 cnt)
  fz : ∀ o, W.frozen? ⟨N, o, none⟩ = false
  own : OwnN W 0 (.slice (some ⟨g, 0, none⟩) ns.length cap) ns.length ns
  ne : N ≠ g
  lt : N < W.heap.size
def twoB (N g k : Nat) : Prop := k = N ∨ k = g
theorem OwnN.same {W W' : World} {base : Nat} {v : Value} {n : Nat} {L : List Nd} (h : OwnN W base v n L) (hb : ∀ g, v.ownBlock = some g → W'.heap[g]? = W.heap[g]?) : OwnN W' base v n L := by
  refine ⟨h.1, ?_⟩
  rcases h.2 with hn | ⟨g, cap, cur, hv, hbg, hg, r⟩
  · exact .inl hn
  · refine .inr ⟨g, cap, cur, hv, hbg, ?_, r⟩
    rw [hb g (by rw [hv]; rfl)]
    exact hg
theorem OwnN.block {W : World} {base g n cap : Nat} {L : List Nd} (h : OwnN W base (.slice (some ⟨g, 0, none⟩) n cap) n L) : ∃ cur, W.heap[g]? = some (.cells cur 90 (0, 0)) ∧ n ≤ cap ∧ cap ≤ maxLen ∧ cur.size = cap * 5 ∧ cur.toList.take (n * 5) = L.flatMap Nd.cs := by
  rcases h.2 with ⟨h1, _⟩ | ⟨g', c', cur, hv, _, hg, r⟩
  · cases h1
  · simp only [Value.slice.injEq, Option.some.injEq, Addr.mk.injEq, and_true, true_and] at hv
    obtain ⟨rfl, rfl⟩ := hv
    exact ⟨cur, hg, r⟩
theorem OwnN.frozen {W : World} {base g n cap : Nat} {L : List Nd} (h : OwnN W base (.slice (some ⟨g, 0, none⟩) n cap) n L) (o : Nat) : W.frozen? ⟨g, o, none⟩ = false := by
  obtain ⟨cur, hg, _⟩ := h.block
  simp [World.frozen?, hg]
theorem OwnN.cells {W : World} {base g n cap : Nat} {L : List Nd} (h : OwnN W base (.slice (some ⟨g, 0, none⟩) n cap) n L) {i : Nat} {x : Nd} (hx : L[i]? = some x) {j : Nat} (hj : j < 5) {u : Value} (hu : x.cs[j]? = some u) : W.cell? ⟨g, i * 5 + j, none⟩ = some u := by
  have := World.ownsRow.cells h (g := g) rfl (i * 5 + j) u (by rw [csN_at L i x hx j hj]; exact hu)
  rw [Go.WideShapes.add_plain] at this
  rw [← this]
  congr 2
  omega
theorem flatN_set : ∀ (L : List Nd) (i : Nat) (x y : Nd) (j : Nat) (u : Value), L[i]? = some x → j < 5 → y.cs = x.cs.set j u → (L.flatMap Nd.cs).set (i * 5 + j) u = (L.set i y).flatMap Nd.cs
  | [], i, x, y, j, u, h, _, _ => by simp at h
  | q :: L, 0, x, y, j, u, h, hj, hy => by
    simp at h; subst h
    rw [List.set_cons_zero, List.flatMap_cons, List.flatMap_cons, Nat.zero_mul, Nat.zero_add, List.set_append_left _ _ (by show j < 5; exact hj), hy]
  | q :: L, i + 1, x, y, j, u, h, hj, hy => by
    have ih := flatN_set L i x y j u (by simpa using h) hj hy
    rw [List.flatMap_cons, List.set_cons_succ, List.flatMap_cons, ← ih, show (i + 1) * 5 + j = (i * 5 + j) + 1 + 1 + 1 + 1 + 1 by omega]
    rfl
theorem OwnN.set {W : World} {base g n cap i j : Nat} {L : List Nd} {x y : Nd} {u : Value} (h : OwnN W base (.slice (some ⟨g, 0, none⟩) n cap) n L) (hx : L[i]? = some x) (hj : j < 5) (hy : y.cs = x.cs.set j u) : OwnN (W.setCell ⟨g, i * 5 + j, none⟩ u) base (.slice (some ⟨g, 0, none⟩) n cap) n (L.set i y) := by
  have hl := h.len
  have hb := h.lt g rfl
  obtain ⟨cur, hg, hle, hmx, hsz, htk⟩ := h.block
  rw [setCell_eq_setRow W g (i * 5 + j) cur 90 (0, 0) _ hg]
  refine ⟨by rw [csN_flat_len, List.length_set, hl], .inr ⟨g, cap, _, rfl, hb, setRow_heap W g _ _ 90 (0, 0) hg, hle, hmx, by simpa using hsz, ?_⟩⟩
  rw [Array.toList_setIfInBounds, List.take_set, htk, flatN_set L i x y j u hx hj hy]
theorem flatN_take : ∀ (L : List Nd) (k : Nat), (L.flatMap Nd.cs).take (k * 5) = (L.take k).flatMap Nd.cs
  | [], k => by simp
  | x :: L, 0 => by simp
  | x :: L, k + 1 => by
    rw [List.flatMap_cons, List.take_succ_cons, List.flatMap_cons, ← flatN_take L k, show (k + 1) * 5 = (k * 5) + 1 + 1 + 1 + 1 + 1 by omega]
    rfl
theorem OwnN.cut {W : World} {base g n cap k : Nat} {L : List Nd} (h : OwnN W base (.slice (some ⟨g, 0, none⟩) n cap) n L) (hk : k ≤ n) : OwnN W base (.slice (some ⟨g, 0, none⟩) k cap) k (L.take k) := by
  have hl := h.len
  have hb := h.lt g rfl
  obtain ⟨cur, hg, hle, hmx, hsz, htk⟩ := h.block
  refine ⟨by rw [csN_flat_len, List.length_take, hl, Nat.min_eq_left hk], .inr ⟨g, cap, cur, rfl, hb, hg, Nat.le_trans hk hle, hmx, hsz, ?_⟩⟩
  rw [← flatN_take, ← htk, List.take_take, Nat.min_eq_left (Nat.mul_le_mul_right 5 hk)]
theorem OwnN.base {w : World} {b b' : Nat} {v : Value} {n : Nat} {L : List Nd} (h : OwnN w b v n L) (hb : b' ≤ b) : OwnN w b' v n L := by
  refine ⟨h.1, ?_⟩
  rcases h.2 with hn | ⟨g, cap, cur, hv, hbg, r⟩
  · exact .inl hn
  · exact .inr ⟨g, cap, cur, hv, Nat.le_trans hb hbg, r⟩

section
variable {W : World} {N g cap : Nat} {most cnt : Int} {ns : List Nd}
theorem TrM.g_lt (h : TrM W N g cap most cnt ns) : g < W.heap.size := by
  obtain ⟨cur, hg, _⟩ := h.own.block
  exact (Array.getElem?_eq_some_iff.1 hg).1
theorem TrM.keep (h : TrM W N g cap most cnt ns) {W' : World} {B : Nat → Prop} (hk : Keep B W W') (hN : ¬ B N) (hg : ¬ B g) : TrM W' N g cap most cnt ns :=
  ⟨(hk.cell (p := ⟨N, 0, none⟩) h.lt hN).trans h.c0, (hk.cell (p := ⟨N, 1, none⟩) h.lt hN).trans h.c1, (hk.cell (p := ⟨N, 2, none⟩) h.lt hN).trans h.c2, fun o => (hk.frozen (p := ⟨N, o, none⟩) h.lt hN).trans (h.fz o), h.own.same fun k hkk => by simp only [Value.ownBlock, Option.some.injEq] at hkk; subst hkk; exact hk.block _ h.g_lt hg, h.ne, Nat.lt_of_lt_of_le h.lt hk.size⟩
theorem TrM.later (h : TrM W N g cap most cnt ns) {W' : World} (hb : Below W.heap.size W W') : TrM W' N g cap most cnt ns := h.keep (B := fun _ => False) (keep_of hb) id id
theorem TrM.cap_le (h : TrM W N g cap most cnt ns) : ns.length ≤ cap ∧ cap ≤ maxLen := by
  obtain ⟨cur, hg, h1, h2, _⟩ := h.own.block
  exact ⟨h1, h2⟩
theorem TrM.gfz (h : TrM W N g cap most cnt ns) (o : Nat) : W.frozen? ⟨g, o, none⟩ = false := h.own.frozen o
theorem TrM.at (h : TrM W N g cap most cnt ns) {i : Nat} {x : Nd} (hx : ns[i]? = some x) : W.cell? ⟨g, i * 5, none⟩ = some (.int .i64 x.a) ∧ W.cell? ⟨g, i * 5 + 1, none⟩ = some (.int .i64 x.b) ∧ W.cell? ⟨g, i * 5 + 2, none⟩ = some (.int .i64 x.u) ∧ W.cell? ⟨g, i * 5 + 3, none⟩ = some (.bool x.h) ∧ W.cell? ⟨g, i * 5 + 4, none⟩ = some (.int .i64 x.n) :=
  ⟨h.own.cells hx (j := 0) (by decide) rfl, h.own.cells hx (j := 1) (by decide) rfl, h.own.cells hx (j := 2) (by decide) rfl, h.own.cells hx (j := 3) (by decide) rfl, h.own.cells hx (j := 4) (by decide) rfl⟩
theorem TrM.set (h : TrM W N g cap most cnt ns) {i j : Nat} {x y : Nd} {u : Value} (hx : ns[i]? = some x) (hj : j < 5) (hy : y.cs = x.cs.set j u) : TrM (W.setCell ⟨g, i * 5 + j, none⟩ u) N g cap most cnt (ns.set i y) := by
  have hne := h.ne
  have hN : ∀ o, (W.setCell ⟨g, i * 5 + j, none⟩ u).cell? ⟨N, o, none⟩ = W.cell? ⟨N, o, none⟩ := fun o => World.cell?_setCell_other _ _ _ _ (by simp <;> omega)
  refine ⟨?_, (hN 1).trans h.c1, (hN 2).trans h.c2, fun o => ?_, ?_, h.ne, by simpa [World.setCell] using h.lt⟩
  · rw [List.length_set]; exact (hN 0).trans h.c0
  · rw [World.frozen?_setCell]; exact h.fz o
  · rw [List.length_set]; exact h.own.set hx hj hy
theorem TrM.setCnt (h : TrM W N g cap most cnt ns) (c : Int) : TrM (W.setCell ⟨N, 2, none⟩ (.int .i64 c)) N g cap most c ns := by
  have hne := h.ne
  refine ⟨?_, ?_, ?_, fun o => ?_, ?_, h.ne, by simpa [World.setCell] using h.lt⟩
  · rw [World.cell?_setCell_other _ _ _ _ (by simp)]; exact h.c0
  · rw [World.cell?_setCell_other _ _ _ _ (by simp)]; exact h.c1
  · exact World.cell?_setCell_same _ _ _ h.c2
  · rw [World.frozen?_setCell]; exact h.fz o
  · exact h.own.same fun k hk => by
      simp only [Value.ownBlock, Option.some.injEq] at hk
      subst hk
      exact Below.heap_setCell _ _ _ _ (fun e => hne e.symm)
theorem TrM.cut (h : TrM W N g cap most cnt ns) {k : Nat} (hk : k ≤ ns.length) : TrM (W.setCell ⟨N, 0, none⟩ (.slice (some ⟨g, 0, none⟩) k cap)) N g cap most cnt (ns.take k) := by
  have hne := h.ne
  have hl : (ns.take k).length = k := by rw [List.length_take]; omega
  refine ⟨?_, ?_, ?_, fun o => ?_, ?_, h.ne, by simpa [World.setCell] using h.lt⟩
  · rw [hl]; exact World.cell?_setCell_same _ _ _ h.c0
  · rw [World.cell?_setCell_other _ _ _ _ (by simp)]; exact h.c1
  · rw [World.cell?_setCell_other _ _ _ _ (by simp)]; exact h.c2
  · rw [World.frozen?_setCell]; exact h.fz o
  · rw [hl]
    exact (h.own.cut hk).same fun k' hk' => by
      simp only [Value.ownBlock, Option.some.injEq] at hk'
      subst hk'
      exact Below.heap_setCell _ _ _ _ (fun e => hne e.symm)
end
end Go.Proofs.Ytcabeclbdjfoaaa
