/- What names no function: boxes, worlds that grow (stage 14's seat; where filter's texts lie, FilA has these words: then BasB imports FilA and MatB alone). -/
import Derived.Test.YtlpfbmeelacgaaaChecked
import Derived.Test.YtlpfbmeelacgaaaMatB
import Derived.WalkKit
import Derived.ProofKit
import Derived.OpenShut
import Derived.LoopTactic
import Derived.Handy
import Derived.WalkMore
import Derived.WalkSpells
import Derived.ScopeJumps
import Derived.Deep.OwnRows
import Derived.Deep.QuietTactic
import Derived.BigQuiet
import Derived.Deep.RegionHeld3
import Derived.Deep.RegionWith
import Derived.Lib.QuietBelow
import Derived.Maps.AppendAt
import Derived.Deep.AppendLies
namespace Go.Proofs.Ytlpfbmeelacgaaa
open Go.RowKit
def I64 (x : Int) : Prop := -9223372036854775808 ≤ x ∧ x ≤ 9223372036854775807
theorem ret_bool {a b : Bool} (h : a = b) : Ending.returned (.bool a) = .returned (.bool b) := by rw [h]
theorem ret_int {k : IntKind} {a b : Int} (h : a = b) : Ending.returned (.int k a) = .returned (.int k b) := by rw [h]
theorem bcell {W w1 : World} (hb : Below W.heap.size W w1) : (∀ b o, b < W.heap.size → w1.cell? ⟨b, o, none⟩ = W.cell? ⟨b, o, none⟩) ∧ (∀ b o, b < W.heap.size → w1.frozen? ⟨b, o, none⟩ = W.frozen? ⟨b, o, none⟩) :=
  ⟨fun b o h => hb.cell (p := ⟨b, o, none⟩) h, fun b o h => hb.frozen (p := ⟨b, o, none⟩) h⟩
theorem below_drewN {B : Nat} {a w : World} (h : Below B a w) (n : Nat) : Below B a (w.drewN n) :=
  h.trans ⟨rfl, rfl, rfl, Nat.le_refl _, fun _ _ => rfl⟩
theorem below1 (w : World) (o : Obj) : Below w.heap.size w (w.alloc o) := (Below.refl _ _).alloc (Nat.le_refl _) _
theorem below2 (w : World) (o o' : Obj) : Below w.heap.size w ((w.alloc o).alloc o') := (below1 w o).alloc (by simp) _
theorem below3 (w : World) (o o' o'' : Obj) : Below w.heap.size w (((w.alloc o).alloc o').alloc o'') := (below2 w o o').alloc (by simp; omega) _
theorem Below.out1 {w w' : World} {o : Obj} (h : Below (w.alloc o).heap.size (w.alloc o) w') : Below w.heap.size w w' := (below1 w o).trans (h.mono (by simp))
theorem Below.out2 {w w' : World} {o o' : Obj} (h : Below ((w.alloc o).alloc o').heap.size ((w.alloc o).alloc o') w') : Below w.heap.size w w' := (below2 w o o').trans (h.mono (by simp; omega))
theorem Below.out3 {w w' : World} {o o' o'' : Obj} (h : Below (((w.alloc o).alloc o').alloc o'').heap.size (((w.alloc o).alloc o').alloc o'') w') : Below w.heap.size w w' := (below3 w o o' o'').trans (h.mono (by simp; omega))
theorem later2 {W W' : World} {N : Nat} {a l : Value} (h : W.cell? ⟨N, 0, none⟩ = some a ∧ W.cell? ⟨N, 1, none⟩ = some l ∧ N < W.heap.size) (hb : Below W.heap.size W W') :
    W'.cell? ⟨N, 0, none⟩ = some a ∧ W'.cell? ⟨N, 1, none⟩ = some l ∧ N < W'.heap.size :=
  ⟨(hb.cell h.2.2).trans h.1, (hb.cell h.2.2).trans h.2.1, Nat.lt_of_lt_of_le h.2.2 hb.size⟩
theorem alloc2 {W : World} {N : Nat} {a l : Value} (h : W.cell? ⟨N, 0, none⟩ = some a ∧ W.cell? ⟨N, 1, none⟩ = some l ∧ N < W.heap.size) (o : Obj) :
    (W.alloc o).cell? ⟨N, 0, none⟩ = some a ∧ (W.alloc o).cell? ⟨N, 1, none⟩ = some l ∧ N < (W.alloc o).heap.size := later2 h (below1 W o)
theorem new2 (W : World) (a l : Value) (t : TypeId) :
    (W.alloc (.cells #[a, l] t)).cell? ⟨W.heap.size, 0, none⟩ = some a ∧ (W.alloc (.cells #[a, l] t)).cell? ⟨W.heap.size, 1, none⟩ = some l ∧ W.heap.size < (W.alloc (.cells #[a, l] t)).heap.size :=
  ⟨by simp [go_sem], by simp [go_sem], by simp⟩
theorem stp {w0 wi w' : World} (hB : Below w0.heap.size w0 wi) (hb : Below wi.heap.size wi w') : Below w0.heap.size w0 w' := hB.trans (hb.mono hB.size)
theorem stp1 {w0 wi w' : World} {o : Obj} (hB : Below w0.heap.size w0 wi) (hb : Below (wi.alloc o).heap.size (wi.alloc o) w') : Below w0.heap.size w0 w' := stp (stp hB (below1 wi o)) hb
end Go.Proofs.Ytlpfbmeelacgaaa
