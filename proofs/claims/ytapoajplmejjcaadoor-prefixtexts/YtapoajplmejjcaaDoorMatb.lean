/- Texts of prefixes: digits read and written. No program is named here. -/
import Derived.Lib.ItoaLen
namespace Go.Proofs.YtapoajplmejjcaaDoor
open Go.Lib

/-- The k-th byte of an address, the highest first. -/
def byteI (a : Int) (k : Nat) : Int := a / ((2 ^ (8 * (3 - k)) : Nat) : Int) % 256
def sepU (k : Nat) : UInt8 := if k = 3 then 47 else 46
/-- The text of the first k bytes, each with what stands behind it. -/
def showP (a : Int) : Nat → List UInt8
  | 0 => []
  | k + 1 => showP a k ++ (itoa (byteI a k) ++ [sepU k])
def showL (a l : Int) : List UInt8 := showP a 4 ++ itoa l

theorem byteI_bd (a : Int) (k : Nat) : 0 ≤ byteI a k ∧ byteI a k ≤ 255 := by unfold byteI; omega
theorem itoa_len (a : Int) (k : Nat) : (itoa (byteI a k)).length ≤ 21 := by
  have := byteI_bd a k
  exact itoa_length_le _ (by omega) (by omega)
theorem showP_len (a : Int) (k : Nat) : (showP a k).length ≤ 22 * k := by
  induction k with
  | zero => simp [showP]
  | succ k ih =>
    have := itoa_len a k
    simp only [showP, List.length_append, List.length_singleton]
    omega
theorem cat_list (x y : List UInt8) : (⟨x.toArray⟩ : ByteArray) ++ ⟨y.toArray⟩ = ⟨(x ++ y).toArray⟩ := by
  apply ByteArray.ext
  simp
end Go.Proofs.YtapoajplmejjcaaDoor
