/- Contracts of wholeEntry and the document's. -/
import Derived.Test.YtabpillcpnnidaaCon3
import Derived.Test.YtabpillcpnnidaaMat5
namespace Go.Proofs.Ytabpillcpnnidaa
open Go.RowKit

theorem make16 (W : World) : Sem.run Try.prog (Instr.makeSlice 26 (.int .i64 16) (.int .i64 16)) W = .ok (.slice (some ⟨W.heap.size, 0, none⟩) 16 16) (W.alloc (.cells #[.int .u8 0, .int .u8 0, .int .u8 0, .int .u8 0, .int .u8 0, .int .u8 0, .int .u8 0, .int .u8 0, .int .u8 0, .int .u8 0, .int .u8 0, .int .u8 0, .int .u8 0, .int .u8 0, .int .u8 0, .int .u8 0] 5)) := by
  have h := run_make_row' 26 5 (.int .u8 0) 1 Try.underlying26 info5 rfl .i64 .i64 16 (by omega) (by omega) W
  rw [show madeCells #[Value.int .u8 0] 16 = #[.int .u8 0, .int .u8 0, .int .u8 0, .int .u8 0, .int .u8 0, .int .u8 0, .int .u8 0, .int .u8 0, .int .u8 0, .int .u8 0, .int .u8 0, .int .u8 0, .int .u8 0, .int .u8 0, .int .u8 0, .int .u8 0] from by kernel_rfl] at h
  exact h
theorem make20 (W : World) : Sem.run Try.prog (Instr.makeSlice 26 (.int .i64 20) (.int .i64 20)) W = .ok (.slice (some ⟨W.heap.size, 0, none⟩) 20 20) (W.alloc (.cells #[.int .u8 0, .int .u8 0, .int .u8 0, .int .u8 0, .int .u8 0, .int .u8 0, .int .u8 0, .int .u8 0, .int .u8 0, .int .u8 0, .int .u8 0, .int .u8 0, .int .u8 0, .int .u8 0, .int .u8 0, .int .u8 0, .int .u8 0, .int .u8 0, .int .u8 0, .int .u8 0] 5)) := by
  have h := run_make_row' 26 5 (.int .u8 0) 1 Try.underlying26 info5 rfl .i64 .i64 20 (by omega) (by omega) W
  rw [show madeCells #[Value.int .u8 0] 20 = #[.int .u8 0, .int .u8 0, .int .u8 0, .int .u8 0, .int .u8 0, .int .u8 0, .int .u8 0, .int .u8 0, .int .u8 0, .int .u8 0, .int .u8 0, .int .u8 0, .int .u8 0, .int .u8 0, .int .u8 0, .int .u8 0, .int .u8 0, .int .u8 0, .int .u8 0, .int .u8 0] from by kernel_rfl] at h
  exact h

theorem refWhole_any (w : World) :
    Calls Try.prog 20 #[] w fun e w' => e = .returned (.slice (some ⟨w.heap.size, 0, none⟩) 20 20) ∧ w' = w.alloc (.cells (wholeL.map (Value.int .u8)).toArray 5) := by
  have hmk := make20 w
  go_enter Try.func20, Try.ntmps20
  go_wp2
  go_ret
  exact ⟨rfl, rfl⟩

theorem Own8.drew {w : World} {base : Nat} {e : TypeId} {v : Value} {n : Nat} {l : List Int} (h : Own8 w base e v n l) : Own8 w.drew base e v n l := h.later (Below.refl _ _).drew
theorem Row8.drew {w : World} {a : Option Addr} {n : Nat} {l : List Int} (h : Row8 w a n l) : Row8 w.drew a n l := h.later (Below.refl _ _).drew
def z16 : List Int := [0, 0, 0, 0, 0, 0, 0, 0, 0, 0, 0, 0, 0, 0, 0, 0]
def c16 : Obj := .cells #[.int .u8 0, .int .u8 0, .int .u8 0, .int .u8 0, .int .u8 0, .int .u8 0, .int .u8 0, .int .u8 0, .int .u8 0, .int .u8 0, .int .u8 0, .int .u8 0, .int .u8 0, .int .u8 0, .int .u8 0, .int .u8 0] 5
def c4 : Obj := .cells #[.int .u8 0, .int .u8 0, .int .u8 0, .int .u8 16] 5
theorem bytes4 : Bytes [0, 0, 0, 16] := by unfold Bytes; decide
theorem whole1 (w : World) : Own8 ((w.alloc c16).alloc c4).drew w.heap.size 5 (.slice (some ⟨w.heap.size, 0, none⟩) 16 16) 16 z16 ∧ Row8 ((w.alloc c16).alloc c4).drew (some ⟨w.heap.size + 1, 0, none⟩) 4 [0, 0, 0, 16] ∧ w.heap.size ≤ ((w.alloc c16).alloc c4).drew.heap.size ∧ Below w.heap.size w ((w.alloc c16).alloc c4).drew :=
  ⟨((own8_at w w.heap.size rfl w.heap.size 5 z16 (Nat.le_refl _) (by decide)).alloc c4).drew, (row8_at (w.alloc c16) (w.heap.size + 1) (by simp) [0, 0, 0, 16] 5 4 rfl bytes4 (by decide)).drew, (below2 w c16 c4).drew.size, (below2 w c16 c4).drew⟩
theorem whole2 (w : World) : Own8 ((w.alloc c4).alloc c16).drew w.heap.size 5 (.slice (some ⟨w.heap.size + 1, 0, none⟩) 16 16) 16 z16 ∧ Row8 ((w.alloc c4).alloc c16).drew (some ⟨w.heap.size, 0, none⟩) 4 [0, 0, 0, 16] ∧ w.heap.size ≤ ((w.alloc c4).alloc c16).drew.heap.size ∧ Below w.heap.size w ((w.alloc c4).alloc c16).drew :=
  ⟨(own8_at (w.alloc c4) (w.heap.size + 1) (by simp) w.heap.size 5 z16 (by omega) (by decide)).drew, ((row8_at w w.heap.size rfl [0, 0, 0, 16] 5 4 rfl bytes4 (by decide)).later (below1 _ _)).drew, (below2 w c4 c16).drew.size, (below2 w c4 c16).drew⟩

set_option maxHeartbeats 400000 in
theorem wholeEntry_any (w : World) :
    Calls Try.prog 18 #[] w fun e w' => ∃ a c, e = .returned (.slice a 20 c) ∧ Own8 w' w.heap.size 5 (.slice a 20 c) 20 wholeL ∧ Below w.heap.size w w' := by
  have hmk := make16
  go_enter Try.func18, Try.ntmps18
  go_wp2
  go_region_held3 (fun _ => True) (trivial)
    (first
      | (go_at_call 30; refine (put32_any _ _ (by decide) (by decide)).mono ?_; rintro e w' ⟨rfl, rfl⟩)
      | (refine step_app8 _ (by rfl) _ _ 26 5 (by rfl) w.heap.size Try.underlying26 info5 _ 16 z16 (by rfl) (whole1 w).1 _ 4 4 [0, 0, 0, 16] (by rfl) (whole1 w).2.1 20 (by rfl) wholeL (by rfl) (by decide) (whole1 w).2.2.1 ?_; intro a' c' w' ho hb; have hB := (whole1 w).2.2.2.trans hb; clear hb)
      | (refine step_app8 _ (by rfl) _ _ 26 5 (by rfl) w.heap.size Try.underlying26 info5 _ 16 z16 (by rfl) (whole2 w).1 _ 4 4 [0, 0, 0, 16] (by rfl) (whole2 w).2.1 20 (by rfl) wholeL (by rfl) (by decide) (whole2 w).2.2.1 ?_; intro a' c' w' ho hb; have hB := (whole2 w).2.2.2.trans hb; clear hb))
  all_goals
    go_wp2
    go_ret
    exact ⟨_, _, rfl, ho, hB⟩
end Go.Proofs.Ytabpillcpnnidaa
