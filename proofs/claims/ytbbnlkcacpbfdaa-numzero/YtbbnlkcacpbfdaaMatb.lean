/- Plain mathematics of numbers as bytes: no program is named here. -/
import Derived.Test.YtbbnlkcacpbfdaaMath
namespace Go.Proofs.Ytbbnlkcacpbfdaa
open Go.RowKit

/-- The number of k bytes from place p on, the highest first. -/
def getV (l : List Int) (p : Nat) : Nat → Int
  | 0 => 0
  | k + 1 => getV l p k * 256 + l[p + k]?.getD 0

theorem getV_bd {l : List Int} (h : Bytes l) (p k : Nat) : 0 ≤ getV l p k ∧ getV l p k < 256 ^ k := by
  induction k with
  | zero => simp [getV]
  | succ k ih =>
    have := h.at (p + k)
    rw [Int.pow_succ]
    simp only [getV]
    omega

theorem getV_small {l : List Int} (h : Bytes l) (p k : Nat) (hk : k ≤ 3) : 0 ≤ getV l p k ∧ getV l p k < 16777216 := by
  have := getV_bd h p k
  have : k = 0 ∨ k = 1 ∨ k = 2 ∨ k = 3 := by omega
  rcases this with rfl | rfl | rfl | rfl <;> simp at * <;> omega

theorem or_low (n b : Int) (hn : 0 ≤ n ∧ n < 16777216) (hb : 0 ≤ b ∧ b ≤ 255) : bits .or .u32 (n * 256) b = n * 256 + b := by
  rw [u32_or _ _ (by omega) (by omega) (by omega) (by omega)]
  have := nat_join 8 (n * 256).toNat b.toNat (by omega) (by omega)
  rw [this]; omega
end Go.Proofs.Ytbbnlkcacpbfdaa
