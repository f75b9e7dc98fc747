/- The contract of awake. -/
import Derived.Test.YtbbnlkcacpbfdaaConb
namespace Go.Proofs.Ytbbnlkcacpbfdaa
open Go.RowKit

theorem conv_any {w : World} {a : Option Addr} {len : Nat} (cap : Nat) {l : List Int} (h : Row8 w a len l) :
    Sem.run Try.prog (convert 23 9 (.slice a len cap)) w = .ok (.string (strOfNums l)) w := conv8 23 5 9 Try.underlying23 Try.underlying5 Try.underlying9 cap h

def ups (w : World) : World := (w.alloc (.cells #[.int .u8 0, .int .u8 1, .int .u8 242, .int .u8 3] 5)).alloc (.cells #[.int .u8 1, .int .u8 2] 5)

theorem awake_any (w : World) :
    Calls Try.prog 12 #[] w fun e w' => e = .returned (.bool true) ∧ w' = ups w := by
  have e1 : addI 5 20 16 = 16 := by decide
  have e2 : newerB 1 65535 = true := by decide
  have e3 : sumI [0, 1, 242, 3] = 3579 := by decide
  have e4 : Sem.run Try.prog (convert 23 9 (.slice (some ⟨w.heap.size + 1, 0, none⟩) 2 2)) ((w.alloc (.cells #[.int .u8 0, .int .u8 1, .int .u8 242, .int .u8 3] 5)).alloc (.cells #[.int .u8 1, .int .u8 2] 5)) =
      .ok (.string ⟨#[1, 2]⟩) ((w.alloc (.cells #[.int .u8 0, .int .u8 1, .int .u8 242, .int .u8 3] 5)).alloc (.cells #[.int .u8 1, .int .u8 2] 5)) := by
    have h := row8_new (w.alloc (.cells #[.int .u8 0, .int .u8 1, .int .u8 242, .int .u8 3] 5)) [1, 2] 5 (by unfold Bytes; decide) (by decide)
    have hz : (w.alloc (.cells #[.int .u8 0, .int .u8 1, .int .u8 242, .int .u8 3] 5)).heap.size = w.heap.size + 1 := by simp
    rw [hz] at h
    exact conv_any 2 h
  go_enter Try.func12, Try.ntmps12
  go_wp2_with (first
    | (go_at_call 19; refine (add_any _ _ _ _ (by decide) (by decide) (by decide)).mono ?_; rintro e w' ⟨rfl, rfl⟩)
    | (go_at_call 21; refine (newer_any _ _ _).mono ?_; rintro e w' ⟨rfl, rfl⟩)
    | (go_at_call 23; refine (sum_any _ _ _ [0, 1, 242, 3] _ (row8_new _ [0, 1, 242, 3] 5 (by unfold Bytes; decide) (by decide))).mono ?_; rintro e w' ⟨rfl, rfl⟩)
    | (go_at_call 18; refine (put16_any _ _ (by decide) (by decide)).mono ?_; rintro e w' ⟨rfl, rfl⟩)
    )
  go_ret
  exact ⟨rfl, rfl⟩
theorem grown_ups (w : World) : Grown w (ups w) := ((Grown.refl _).alloc _ _).alloc _ _
theorem below_ups (w : World) : Below w.heap.size w (ups w) := below_alloc2 w _ _
theorem size_ups (w : World) : (ups w).heap.size = w.heap.size + 2 := by simp [ups]
end Go.Proofs.Ytbbnlkcacpbfdaa
