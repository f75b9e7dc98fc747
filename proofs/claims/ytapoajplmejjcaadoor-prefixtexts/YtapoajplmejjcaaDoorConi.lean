/- What a call left of the boxed parameters. -/
import Derived.Test.YtapoajplmejjcaaDoorConh
namespace Go.Proofs.YtapoajplmejjcaaDoor
open Go.RowKit

theorem box1 {w w1 : World} {a l : Value} (hb : Below (w.alloc (.cells #[a, l] 24)).heap.size (w.alloc (.cells #[a, l] 24)) w1) :
    w1.cell? ⟨w.heap.size, 0, none⟩ = some a ∧ w1.cell? ⟨w.heap.size, 1, none⟩ = some l ∧ w.heap.size < w1.heap.size :=
  ⟨by rw [hb.cell (by simp)]; simp [go_sem], by rw [hb.cell (by simp)]; simp [go_sem], by have := hb.size; simp at this; omega⟩
theorem box2 {w w1 : World} {a l b m : Value} (hb : Below ((w.alloc (.cells #[a, l] 24)).alloc (.cells #[b, m] 24)).heap.size ((w.alloc (.cells #[a, l] 24)).alloc (.cells #[b, m] 24)) w1) :
    (w1.cell? ⟨w.heap.size, 0, none⟩ = some a ∧ w1.cell? ⟨w.heap.size, 1, none⟩ = some l ∧ w.heap.size < w1.heap.size) ∧
    (w1.cell? ⟨w.heap.size + 1, 0, none⟩ = some b ∧ w1.cell? ⟨w.heap.size + 1, 1, none⟩ = some m ∧ w.heap.size + 1 < w1.heap.size) :=
  ⟨⟨by rw [hb.cell (by simp; try omega)]; simp [go_sem], by rw [hb.cell (by simp; try omega)]; simp [go_sem], by have := hb.size; simp at this; omega⟩,
   ⟨by rw [hb.cell (by simp; try omega)]; simp [go_sem], by rw [hb.cell (by simp; try omega)]; simp [go_sem], by have := hb.size; simp at this; omega⟩⟩
theorem box3 {w w1 : World} {a l b m c n : Value} (hb : Below (((w.alloc (.cells #[a, l] 24)).alloc (.cells #[b, m] 24)).alloc (.cells #[c, n] 24)).heap.size (((w.alloc (.cells #[a, l] 24)).alloc (.cells #[b, m] 24)).alloc (.cells #[c, n] 24)) w1) :
    (w1.cell? ⟨w.heap.size, 0, none⟩ = some a ∧ w1.cell? ⟨w.heap.size, 1, none⟩ = some l ∧ w.heap.size < w1.heap.size) ∧
    (w1.cell? ⟨w.heap.size + 1, 0, none⟩ = some b ∧ w1.cell? ⟨w.heap.size + 1, 1, none⟩ = some m ∧ w.heap.size + 1 < w1.heap.size) ∧
    (w1.cell? ⟨w.heap.size + 1 + 1, 0, none⟩ = some c ∧ w1.cell? ⟨w.heap.size + 1 + 1, 1, none⟩ = some n ∧ w.heap.size + 1 + 1 < w1.heap.size) :=
  ⟨⟨by rw [hb.cell (by simp; try omega)]; simp [go_sem], by rw [hb.cell (by simp; try omega)]; simp [go_sem], by have := hb.size; simp at this; omega⟩,
   ⟨by rw [hb.cell (by simp; try omega)]; simp [go_sem], by rw [hb.cell (by simp; try omega)]; simp [go_sem], by have := hb.size; simp at this; omega⟩,
   ⟨by rw [hb.cell (by simp; try omega)]; simp [go_sem], by rw [hb.cell (by simp; try omega)]; simp [go_sem], by have := hb.size; simp at this; omega⟩⟩
theorem Below.out3 {w w' : World} {o o' o'' : Obj} (h : Below (((w.alloc o).alloc o').alloc o'').heap.size (((w.alloc o).alloc o').alloc o'') w') : Below w.heap.size w w' := (below3 w o o' o'').trans (h.mono (by simp; omega))
/-- A boxed pair, behind one more call. -/
theorem later2 {W W' : World} {N : Nat} {a l : Value} (h : W.cell? ⟨N, 0, none⟩ = some a ∧ W.cell? ⟨N, 1, none⟩ = some l ∧ N < W.heap.size) (hb : Below W.heap.size W W') :
    W'.cell? ⟨N, 0, none⟩ = some a ∧ W'.cell? ⟨N, 1, none⟩ = some l ∧ N < W'.heap.size :=
  ⟨(hb.cell h.2.2).trans h.1, (hb.cell h.2.2).trans h.2.1, Nat.lt_of_lt_of_le h.2.2 hb.size⟩
theorem alloc2 {W : World} {N : Nat} {a l : Value} (h : W.cell? ⟨N, 0, none⟩ = some a ∧ W.cell? ⟨N, 1, none⟩ = some l ∧ N < W.heap.size) (o : Obj) :
    (W.alloc o).cell? ⟨N, 0, none⟩ = some a ∧ (W.alloc o).cell? ⟨N, 1, none⟩ = some l ∧ N < (W.alloc o).heap.size := later2 h (below1 W o)
theorem new2 (W : World) (a l : Value) (t : TypeId) :
    (W.alloc (.cells #[a, l] t)).cell? ⟨W.heap.size, 0, none⟩ = some a ∧ (W.alloc (.cells #[a, l] t)).cell? ⟨W.heap.size, 1, none⟩ = some l ∧ W.heap.size < (W.alloc (.cells #[a, l] t)).heap.size :=
  ⟨by simp [go_sem], by simp [go_sem], by simp⟩
theorem stp {w0 wi w' : World} (hB : Below w0.heap.size w0 wi) (hb : Below wi.heap.size wi w') : Below w0.heap.size w0 w' := hB.trans (hb.mono hB.size)
theorem stp1 {w0 wi w' : World} {o : Obj} (hB : Below w0.heap.size w0 wi) (hb : Below (wi.alloc o).heap.size (wi.alloc o) w') : Below w0.heap.size w0 w' := stp (stp hB (below1 wi o)) hb
end Go.Proofs.YtapoajplmejjcaaDoor
