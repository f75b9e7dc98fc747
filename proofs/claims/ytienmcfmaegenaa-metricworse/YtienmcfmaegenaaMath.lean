/- Whole numbers below 2^53 as doubles: they, their sums, and the way back are exact. No program is named here. -/
import Derived.Laws.ComplexArith
namespace Go.Proofs.Ytienmcfmaegenaa
open Ieee

/-- The bits of a whole number. -/
def fl (n : Nat) : Nat := Format.nearest double false n 0

theorem log2_mul_pow {s : Nat} (hs : 0 < s) (k : Nat) : (s * 2 ^ k).log2 = s.log2 + k := by
  have h0 : s ≠ 0 := by omega
  have hp : 0 < 2 ^ k := Nat.two_pow_pos k
  have h1 : s * 2 ^ k ≠ 0 := by
    have := Nat.mul_pos hs hp
    omega
  rw [Nat.log2_eq_iff h1]
  have h2 := (Nat.log2_eq_iff (k := s.log2) h0).1 rfl
  constructor
  · rw [Nat.pow_add]; exact Nat.mul_le_mul_right _ h2.1
  · rw [show s.log2 + k + 1 = (s.log2 + 1) + k by omega, Nat.pow_add]
    exact Nat.mul_lt_mul_of_pos_right h2.2 hp

theorem mul_pow_div {s d k : Nat} (hd : d ≤ k) : s * 2 ^ k / 2 ^ d = s * 2 ^ (k - d) := by
  have e : s * 2 ^ k = s * 2 ^ (k - d) * 2 ^ d := by rw [Nat.mul_assoc, ← Nat.pow_add, Nat.sub_add_cancel hd]
  rw [e, Nat.mul_div_cancel _ (Nat.two_pow_pos d)]

theorem mul_pow_mod {s d k : Nat} (hd : d ≤ k) : s * 2 ^ k % 2 ^ d = 0 := by
  have e : s * 2 ^ k = s * 2 ^ (k - d) * 2 ^ d := by rw [Nat.mul_assoc, ← Nat.pow_add, Nat.sub_add_cancel hd]
  rw [e, Nat.mul_mod_left]

theorem cut_even {s d k : Nat} (neg : Bool) (hs : 0 < s) (hd : d ≤ k) : Toward.even.cut neg (s * 2 ^ k) d = s * 2 ^ (k - d) := by
  unfold Toward.cut
  have hm : min d ((s * 2 ^ k).log2 + 2) = d := by rw [log2_mul_pow hs]; omega
  simp only [hm, Nat.shiftLeft_eq, Nat.one_mul, mul_pow_div hd, mul_pow_mod hd]
  have hp := Nat.two_pow_pos d
  have : (2 ^ d == 0) = false := by simp
  simp

theorem cut_zero {s d k : Nat} (neg : Bool) (hd : d ≤ k) : Toward.zero.cut neg (s * 2 ^ k) d = s * 2 ^ (k - d) := by
  unfold Toward.cut
  rcases Nat.eq_zero_or_pos s with rfl | hs
  · simp
  · have hm : min d ((s * 2 ^ k).log2 + 2) = d := by rw [log2_mul_pow hs]; omega
    simp only [hm, Nat.shiftLeft_eq, Nat.one_mul, mul_pow_div hd]
    simp

theorem least : double.leastPlace = -1074 := by decide
theorem frac : double.fractionBits = 52 := rfl
theorem bin : double.binade = 2 ^ 52 := rfl
theorem infr : double.infRung = 2047 * 2 ^ 52 := by decide
theorem signw : double.signWeight = 2 ^ 63 := rfl

theorem log2_le {s : Nat} (hs : 0 < s) (h : s < 2 ^ 53) : s.log2 ≤ 52 := by
  have := (Nat.log2_lt (n := s) (k := 53) (by omega)).2 h
  omega

/-- What is kept of a number: 53 digits. -/
theorem kept_bd {s : Nat} (hs : 0 < s) (h : s < 2 ^ 53) : 2 ^ 52 ≤ s * 2 ^ (52 - s.log2) ∧ s * 2 ^ (52 - s.log2) < 2 * 2 ^ 52 := by
  have hL := log2_le hs h
  have h2 := (Nat.log2_eq_iff (k := s.log2) (by omega)).1 rfl
  have e : (2 : Nat) ^ 52 = 2 ^ s.log2 * 2 ^ (52 - s.log2) := by rw [← Nat.pow_add]; congr 1; omega
  have e' : (2 : Nat) * 2 ^ 52 = 2 ^ (s.log2 + 1) * 2 ^ (52 - s.log2) := by rw [← Nat.pow_add, show s.log2 + 1 + (52 - s.log2) = 53 by omega]
  constructor
  · rw [e]; exact Nat.mul_le_mul_right _ h2.1
  · rw [e']; exact Nat.mul_lt_mul_of_pos_right h2.2 (Nat.two_pow_pos _)

theorem nearest_of {s : Nat} (k : Nat) (hs : 0 < s) (h : s < 2 ^ 53) :
    double.nearest false (s * 2 ^ k) (-(k : Int)) = (s.log2 + 1022) * 2 ^ 52 + s * 2 ^ (52 - s.log2) := by
  have hL := log2_le hs h
  have hb := kept_bd hs h
  have h1 : s * 2 ^ k ≠ 0 := by have := Nat.mul_pos hs (Nat.two_pow_pos k); omega
  unfold Format.nearest
  rw [if_neg h1]
  simp only [log2_mul_pow hs, least, frac, bin, infr]
  have e1 : max (-(k : Int) + ((s.log2 + k : Nat) : Int) - ((52 : Nat) : Int)) (-1074) = (s.log2 : Int) - 52 := by omega
  rw [e1]
  have e2 : (-(k : Int) - ((s.log2 : Int) - 52)).toNat = 52 - s.log2 - k := by omega
  have e3 : ((s.log2 : Int) - 52 - -(k : Int)).toNat = k - (52 - s.log2) := by omega
  have e4 : ((s.log2 : Int) - 52 - -1074).toNat = s.log2 + 1022 := by omega
  rw [e2, e3, e4, Nat.shiftLeft_eq, Nat.mul_assoc, ← Nat.pow_add, cut_even false hs (by omega)]
  rw [show k + (52 - s.log2 - k) - (k - (52 - s.log2)) = 52 - s.log2 by omega]
  unfold Format.word
  simp only [Bool.false_eq_true, if_false]
  generalize s * 2 ^ (52 - s.log2) = q at *
  generalize s.log2 = L at *
  omega

theorem fl_of {n : Nat} (k : Nat) (h : n < 2 ^ 53) : double.nearest false (n * 2 ^ k) (-(k : Int)) = fl n := by
  unfold fl
  rcases Nat.eq_zero_or_pos n with rfl | hs
  · simp [Format.nearest]
  · have := nearest_of 0 hs h
    simp only [Nat.pow_zero, Nat.mul_one, Int.natCast_zero, Int.neg_zero] at this
    rw [nearest_of k hs h, this]

theorem read_fl {n : Nat} (h : n < 2 ^ 53) : ∃ k : Nat, double.read (fl n) = .number false (n * 2 ^ k) (-(k : Int)) := by
  rcases Nat.eq_zero_or_pos n with rfl | hs
  · have z : ∀ k : Nat, 0 * 2 ^ k = 0 := fun k => Nat.zero_mul _
    obtain ⟨k, hk⟩ : ∃ k : Nat, k = 1074 := ⟨_, rfl⟩
    refine ⟨k, ?_⟩
    rw [z, hk]
    decide
  · have hL := log2_le hs h
    have hb := kept_bd hs h
    refine ⟨52 - n.log2, ?_⟩
    have e := nearest_of 0 hs h
    simp only [Nat.pow_zero, Nat.mul_one, Int.natCast_zero, Int.neg_zero] at e
    unfold fl
    rw [e]
    unfold Format.read
    simp only [least, bin, infr, signw]
    generalize n * 2 ^ (52 - n.log2) = q at *
    generalize n.log2 = L at *
    have e1 : ((L + 1022) * 2 ^ 52 + q) % 2 ^ 63 = (L + 1022) * 2 ^ 52 + q := by omega
    have e2 : ((L + 1022) * 2 ^ 52 + q) / 2 ^ 63 = 0 := by omega
    have e3 : ((L + 1022) * 2 ^ 52 + q) / 2 ^ 52 = L + 1023 := by omega
    have e4 : ((L + 1022) * 2 ^ 52 + q) % 2 ^ 52 = q - 2 ^ 52 := by omega
    rw [e1, e2, e3, e4, if_neg (by omega), if_pos (by omega)]
    have e5 : 2 ^ 52 + (q - 2 ^ 52) = q := by omega
    have e6 : (-1074 : Int) + ((L + 1023 - 1 : Nat) : Int) = -((52 - L : Nat) : Int) := by omega
    rw [e5, e6]
    rfl

theorem add_fl {m n : Nat} (h : m + n < 2 ^ 53) : double.add (fl m) (fl n) = some (fl (m + n)) := by
  obtain ⟨k, hk⟩ := read_fl (n := m) (by omega)
  obtain ⟨j, hj⟩ := read_fl (n := n) (by omega)
  unfold Format.add
  rw [hk, hj]
  have eb : min (-(k : Int)) (-(j : Int)) = -((max k j : Nat) : Int) := by omega
  have ek : (-(k : Int) - -((max k j : Nat) : Int)).toNat = max k j - k := by omega
  have ej : (-(j : Int) - -((max k j : Nat) : Int)).toNat = max k j - j := by omega
  simp only [Datum.sum, eb, ek, ej, Ieee.signed, Bool.false_eq_true, if_false, Nat.shiftLeft_eq, Nat.mul_assoc, ← Nat.pow_add, Option.map_some, Format.write, Bool.and_self]
  rw [show k + (max k j - k) = max k j by omega, show j + (max k j - j) = max k j by omega]
  generalize max k j = K
  have et : ((m * 2 ^ K : Nat) : Int) + ((n * 2 ^ K : Nat) : Int) = (((m + n) * 2 ^ K : Nat) : Int) := by rw [Nat.add_mul]; push_cast; rfl
  rw [et]
  have en : (if (((m + n) * 2 ^ K : Nat) : Int) = 0 then false else decide ((((m + n) * 2 ^ K : Nat) : Int) < 0)) = false := by
    split
    · rfl
    · simp only [decide_eq_false_iff_not]; omega
  rw [en, Int.natAbs_natCast, fl_of K h]

theorem toInt_fl {n : Nat} (h : n < 2 ^ 53) : (double.read (fl n)).toInt .zero = some (n : Int) := by
  obtain ⟨k, hk⟩ := read_fl h
  rw [hk]
  have e1 : (-(k : Int)).toNat = 0 := by omega
  have e2 : (- -(k : Int)).toNat = k := by omega
  simp only [Datum.toInt, Datum.integral, e1, e2, Nat.shiftLeft_zero, cut_zero false (Nat.le_refl k), Nat.sub_self, Nat.pow_zero, Nat.mul_one, Ieee.signed, Bool.false_eq_true, if_false]

theorem toInt64_fl {n : Nat} (h : n < 2 ^ 53) : floatToIntVal .f64 (fl n) .i64 = some (n : Int) := by
  have e : (FloatKind.f64.decode (fl n)).toInt .zero = some (n : Int) := toInt_fl h
  unfold floatToIntVal
  rw [e]
  have h1 : IntKind.i64.min ≤ (n : Int) ∧ (n : Int) ≤ IntKind.i64.max := by
    have a : IntKind.i64.min = -9223372036854775808 := by decide
    have b : IntKind.i64.max = 9223372036854775807 := by decide
    rw [a, b]; omega
  exact if_pos h1

theorem ofInt_fl (n : Nat) : floatOfInt .f64 (n : Int) = fl n := by
  have e : decide ((n : Int) < 0) = false := by simp only [decide_eq_false_iff_not]; omega
  unfold floatOfInt FloatKind.nearest FloatKind.encode fl
  simp only [Int.natAbs_natCast, FloatKind.format, Format.write, e]

theorem bits_fl {m n : Nat} (h : m + n < 2 ^ 53) : floatBits .add .f64 (fl m) (fl n) = some (fl (m + n)) := add_fl h
theorem csum_fl {a b c d : Nat} (h : a + c < 2 ^ 53) (h' : b + d < 2 ^ 53) : cSumBits .add .f64 (fl a) (fl b) (fl c) (fl d) = some (fl (a + c), fl (b + d)) := by
  unfold cSumBits
  rw [bits_fl h, bits_fl h']
  rfl
end Go.Proofs.Ytienmcfmaegenaa
