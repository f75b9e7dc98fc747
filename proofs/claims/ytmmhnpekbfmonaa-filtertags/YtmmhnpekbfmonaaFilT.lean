/- Tags as numbers whose bits are domains: plain mathematics. No program is named here. -/
import Derived.Laws.BitsAllLaws
import Derived.Test.YtmmhnpekbfmonaaMat2
namespace Go.Proofs.Ytmmhnpekbfmonaa

def domB (d : Int) : Bool := decide (0 ≤ d ∧ d < 16)
def hasT (t : Nat) (d : Int) : Bool := domB d && t.testBit d.toNat
theorem domB_true {d : Int} (h0 : 0 ≤ d) (h1 : d < 16) : domB d = true := by simp [domB, h0, h1]
theorem domB_lo {d : Int} (h : d < 0) : domB d = false := by simp [domB]; omega
theorem domB_hi {d : Int} (h : 16 ≤ d) : domB d = false := by simp [domB]; omega
theorem domB_iff {d : Int} : domB d = true ↔ 0 ≤ d ∧ d < 16 := by simp [domB]

theorem pow_bd {n : Nat} (h : n < 16) : 0 < 2 ^ n ∧ 2 ^ n ≤ 32768 := by
  have h1 : 2 ^ n ≤ 2 ^ 15 := Nat.pow_le_pow_right (by omega) (by omega)
  exact ⟨Nat.two_pow_pos _, by simpa using h1⟩

theorem and_pow (t n : Nat) : t &&& 2 ^ n = if t.testBit n then 2 ^ n else 0 := by
  apply Nat.eq_of_testBit_eq
  intro i
  rw [Nat.testBit_and, Nat.testBit_two_pow]
  by_cases h : n = i
  · subst h; cases t.testBit n <;> simp
  · cases t.testBit n <;> simp [h]
theorem bit_and (t n : Nat) : (t &&& 2 ^ n != 0) = t.testBit n := by
  rw [and_pow]
  have := Nat.two_pow_pos n
  cases t.testBit n <;> simp
theorem bit_div (t n : Nat) : (t / 2 ^ n % 2 == 1) = t.testBit n := by
  rw [Nat.testBit_eq_decide_div_mod_eq]
  by_cases h : t / 2 ^ n % 2 = 1 <;> simp [h]
theorem and_lt {a b : Nat} (ha : a < 65536) : a &&& b < 65536 := Nat.lt_of_le_of_lt Nat.and_le_left ha
theorem high {a i : Nat} (ha : a < 65536) (hi : 16 ≤ i) : a.testBit i = false :=
  Nat.testBit_lt_two_pow (Nat.lt_of_lt_of_le ha (Nat.pow_le_pow_right (n := 2) (by omega) hi))

end Go.Proofs.Ytmmhnpekbfmonaa
