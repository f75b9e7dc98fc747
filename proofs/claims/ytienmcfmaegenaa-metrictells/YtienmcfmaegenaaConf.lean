/- The contract of awake: the chapter's examples hold. -/
import Derived.Test.YtienmcfmaegenaaCone
namespace Go.Proofs.Ytienmcfmaegenaa
open Go.RowKit

theorem up_of : ofI 1000 10 1 = 2562560 := by decide
theorem up_band : min (1000 : Int) 100 = 100 := by decide
theorem up_delay : addI 10 20 16777216 = 30 := by decide
theorem up_hops : addI 1 1 100 = 2 := by decide
theorem up_rip : addI 15 3 16 = 16 := by decide

theorem awake_any (w : World) :
    Calls Try.prog 11 #[] w fun e w' => e = .returned (.bool true) ∧ Below w.heap.size w w' := by
  go_enter Try.func11, Try.ntmps11
  go_wp2_with (first
    | (go_at_call 18; refine (of_any _ _ _ _ up_of).mono ?_; rintro e w1 ⟨rfl, hb⟩; obtain ⟨c0, c1, c2, z0⟩ := box1 hb)
    | (go_at_call 12; refine (join_any _ _ _ _ _ _ _ (by decide) (by decide) (by decide) (by decide) (by decide) (by decide) (by decide) (by decide) up_band up_delay up_hops).mono ?_; rintro e w2 ⟨rfl, hb2⟩)
    | (go_at_call 22; refine (hops_any _ _ _ (by decide) (by decide) (by decide) (by decide) up_rip).mono ?_; rintro e w3 ⟨rfl, rfl⟩))
  go_ret
  exact ⟨rfl, stp (Below.out1 hb) hb2⟩

theorem box3 {w w1 : World} {x y z x' y' z' x'' y'' z'' : Value} (hb : Below (((w.alloc (.cells #[x, y, z] 23)).alloc (.cells #[x', y', z'] 23)).alloc (.cells #[x'', y'', z''] 23)).heap.size (((w.alloc (.cells #[x, y, z] 23)).alloc (.cells #[x', y', z'] 23)).alloc (.cells #[x'', y'', z''] 23)) w1) :
    (w1.cell? ⟨w.heap.size, 0, none⟩ = some x ∧ w1.cell? ⟨w.heap.size, 1, none⟩ = some y ∧ w1.cell? ⟨w.heap.size, 2, none⟩ = some z ∧ w.heap.size < w1.heap.size) ∧
    (w1.cell? ⟨w.heap.size + 1, 0, none⟩ = some x' ∧ w1.cell? ⟨w.heap.size + 1, 1, none⟩ = some y' ∧ w1.cell? ⟨w.heap.size + 1, 2, none⟩ = some z' ∧ w.heap.size + 1 < w1.heap.size) ∧
    (w1.cell? ⟨w.heap.size + 1 + 1, 0, none⟩ = some x'' ∧ w1.cell? ⟨w.heap.size + 1 + 1, 1, none⟩ = some y'' ∧ w1.cell? ⟨w.heap.size + 1 + 1, 2, none⟩ = some z'' ∧ w.heap.size + 1 + 1 < w1.heap.size) :=
  ⟨⟨by rw [hb.cell (by simp; try omega)]; simp [go_sem], by rw [hb.cell (by simp; try omega)]; simp [go_sem], by rw [hb.cell (by simp; try omega)]; simp [go_sem], by have := hb.size; simp at this; omega⟩,
   ⟨by rw [hb.cell (by simp; try omega)]; simp [go_sem], by rw [hb.cell (by simp; try omega)]; simp [go_sem], by rw [hb.cell (by simp; try omega)]; simp [go_sem], by have := hb.size; simp at this; omega⟩,
   ⟨by rw [hb.cell (by simp; try omega)]; simp [go_sem], by rw [hb.cell (by simp; try omega)]; simp [go_sem], by rw [hb.cell (by simp; try omega)]; simp [go_sem], by have := hb.size; simp at this; omega⟩⟩
end Go.Proofs.Ytienmcfmaegenaa
