/- Bits of an address, one by one; prefixes by their bits. No program is named here. -/
import Derived.Test.YtmmhnpekbfmonaaFilM
import Derived.Laws.BitsAllLaws
namespace Go.Proofs.Ytmmhnpekbfmonaa

theorem shl_val : ∀ n, n < 32 → (2 : Int) ^ (31 - n) % 4294967296 = ((2 ^ (31 - n) : Nat) : Int) := by decide
theorem and_shl {x k : Nat} (hx : x < 4294967296) (hk : k < 32) : bits .and .u32 (x : Int) ((2 : Int) ^ (31 - k) % 4294967296) = if x.testBit (31 - k) then ((2 ^ (31 - k) : Nat) : Int) else 0 := by
  have h3 : 2 ^ (31 - k) < 2 ^ 32 := Nat.pow_lt_pow_right (by omega) (by omega)
  rw [shl_val k hk, u32_and_nat _ _ hx (by omega), and_pow]
  split <;> rfl
/-- The first n bits. -/
def cutN (x n : Nat) : Nat := x / 2 ^ (32 - n) * 2 ^ (32 - n)
theorem cut_andM (x n : Nat) : andM (x : Int) n = ((cutN x n : Nat) : Int) := by
  unfold andM cutN
  have h1 : x / 2 ^ (32 - n) * 2 ^ (32 - n) + x % 2 ^ (32 - n) = x := Nat.div_add_mod' x _
  have h2 : ((x : Int) % ((2 ^ (32 - n) : Nat) : Int)) = ((x % 2 ^ (32 - n) : Nat) : Int) := (Int.natCast_emod _ _).symm
  rw [h2]
  omega
theorem cut_bit (x n i : Nat) : (cutN x n).testBit i = (decide (32 - n ≤ i) && x.testBit i) := by
  unfold cutN
  rw [Nat.testBit_mul_two_pow, Nat.testBit_div_two_pow]
  by_cases h : 32 - n ≤ i
  · rw [Nat.sub_add_cancel h]
  · simp [h]
theorem cut_zero {x : Nat} (hx : x < 4294967296) : cutN x 0 = 0 := by
  unfold cutN
  rw [Nat.div_eq_of_lt (by simpa using hx), Nat.zero_mul]
theorem cut_lt {x : Nat} (hx : x < 4294967296) (n : Nat) : cutN x n < 4294967296 := Nat.lt_of_le_of_lt (Nat.div_mul_le_self x _) hx
theorem cut_yes {x k : Nat} (hk : k < 32) (hb : x.testBit (31 - k) = true) : cutN x k ||| 2 ^ (31 - k) = cutN x (k + 1) := by
  refine Nat.eq_of_testBit_eq fun i => ?_
  rw [Nat.testBit_or, cut_bit, cut_bit, Nat.testBit_two_pow]
  by_cases h : i = 31 - k
  · subst h; rw [hb]; simp
  · rw [decide_eq_false (p := 31 - k = i) (by omega), Bool.or_false]
    congr 1
    rw [decide_eq_decide]
    omega
theorem cut_no {x k : Nat} (hk : k < 32) (hb : x.testBit (31 - k) = false) : cutN x k = cutN x (k + 1) := by
  refine Nat.eq_of_testBit_eq fun i => ?_
  rw [cut_bit, cut_bit]
  by_cases h : i = 31 - k
  · subst h; rw [hb]; simp
  · congr 1
    rw [decide_eq_decide]
    omega
theorem or_shl {x k : Nat} (hx : x < 4294967296) (hk : k < 32) (hb : x.testBit (31 - k) = true) : bits .or .u32 ((cutN x k : Nat) : Int) ((2 : Int) ^ (31 - k) % 4294967296) = ((cutN x (k + 1) : Nat) : Int) := by
  have h3 : 2 ^ (31 - k) < 2 ^ 32 := Nat.pow_lt_pow_right (by omega) (by omega)
  rw [shl_val k hk, u32_or_nat _ _ (cut_lt hx k) (by omega), cut_yes hk hb]
/-- Each prefix that may be is within the shortest one. -/
theorem all_fit {x n t : Nat} (hx : x < 4294967296) (hn : n ≤ 32) (b : Bool) : fitR ⟨b, 0, 0, 0, 32, 0, 0⟩ ((cutN x n : Nat) : Int) (n : Int) t = true := by
  have h1 : andM ((cutN x n : Nat) : Int) n = ((cutN x n : Nat) : Int) := by rw [← cut_andM, andM_andM _ (Nat.le_refl n)]
  have h2 : mayB ((cutN x n : Nat) : Int) (n : Int) = true := by
    rw [mayB, decide_eq_true_eq]
    exact ⟨by omega, by omega, by rw [Int.toNat_natCast]; exact h1⟩
  have h3 : andM ((cutN x n : Nat) : Int) 0 = 0 := by rw [cut_andM, cut_zero (cut_lt hx n)]; rfl
  have h4 : mayB 0 0 = true := by decide
  have h5 : hasB 0 0 ((cutN x n : Nat) : Int) = true := by unfold hasB; rw [h4, Int.toNat_zero, h3]; rfl
  have h6 : coversB 0 0 ((cutN x n : Nat) : Int) (n : Int) = true := by unfold coversB; rw [h2, h5]; simp
  have h7 : fitT 0 0 t 16 = true := by rw [fitT_iff (by decide) (by decide)]; simp
  unfold fitR
  simp only [Int.toNat_zero]
  rw [h6, h7]
  simp
  omega
/-- The prefixes of a rule and of a route, bit by bit. -/
def lensK (a l qa ql k : Nat) : Bool := (List.range k).all fun j => !(decide (j < l) && (qa.testBit (31 - j) != a.testBit (31 - j)) || decide (ql ≤ j) && qa.testBit (31 - j))
theorem lensK_succ (a l qa ql k : Nat) : lensK a l qa ql (k + 1) = (lensK a l qa ql k && !(decide (k < l) && (qa.testBit (31 - k) != a.testBit (31 - k)) || decide (ql ≤ k) && qa.testBit (31 - k))) := by
  unfold lensK
  rw [List.range_succ, List.all_append]
  simp
theorem high32 {x i : Nat} (hx : x < 4294967296) (hi : 32 ≤ i) : x.testBit i = false :=
  Nat.testBit_lt_two_pow (Nat.lt_of_lt_of_le (show x < 2 ^ 32 by omega) (Nat.pow_le_pow_right (by omega) hi))
theorem may_bits {x n : Nat} (hn : n ≤ 32) : mayB (x : Int) (n : Int) = true ↔ ∀ j, j < 32 → n ≤ j → x.testBit (31 - j) = false := by
  rw [mayB, decide_eq_true_eq, Int.toNat_natCast, cut_andM]
  constructor
  · rintro ⟨-, -, h⟩ j hj hnj
    have h' : cutN x n = x := by omega
    rw [← h', cut_bit, decide_eq_false (by omega), Bool.false_and]
  · intro h
    refine ⟨by omega, by omega, ?_⟩
    have : cutN x n = x := Nat.eq_of_testBit_eq fun i => by
      rw [cut_bit]
      by_cases hi : 32 - n ≤ i
      · simp [hi]
      · have := h (31 - i) (by omega) (by omega)
        rw [show 31 - (31 - i) = i by omega] at this
        rw [this, Bool.and_false]
    rw [this]
theorem lens_fit {b : Bool} {a l g e qa ql : Nat} (ha : a < 4294967296) (hq : qa < 4294967296) (hql : ql ≤ 32) (hm : mayU ⟨b, (a : Int), (l : Int), (g : Int), (e : Int), 0, 0⟩ = true) :
    fitR ⟨b, (a : Int), (l : Int), (g : Int), (e : Int), 0, 0⟩ (qa : Int) (ql : Int) 65535 = (decide (g ≤ ql ∧ ql ≤ e) && lensK a l qa ql 32) := by
  obtain ⟨h1, h2⟩ := Bool.and_eq_true_iff.1 hm
  rw [decide_eq_true_eq] at h2
  simp only at h1 h2
  have hl : l ≤ 32 := by omega
  have h7 : fitT 0 0 65535 16 = true := by decide
  unfold fitR
  simp only [Int.toNat_zero]
  rw [h7, Bool.and_true]
  by_cases hin : g ≤ ql ∧ ql ≤ e
  case neg => rw [decide_eq_false (p := (g : Int) ≤ ql ∧ (ql : Int) ≤ e) (by omega), decide_eq_false hin]; simp
  rw [decide_eq_true (p := (g : Int) ≤ ql ∧ (ql : Int) ≤ e) (by omega), decide_eq_true hin, Bool.and_true, Bool.true_and]
  have hb := (may_bits hl).1 h1
  rw [Bool.eq_iff_iff, coversB, hasB, h1, Bool.true_and, Bool.and_eq_true, Bool.and_eq_true, decide_eq_true_eq, beq_iff_eq, Int.toNat_natCast, cut_andM, may_bits hql, lensK, List.all_eq_true]
  constructor
  · rintro ⟨⟨h3, -⟩, h4⟩ j hj
    have hj' := List.mem_range.1 hj
    have h5 : cutN qa l = a := by omega
    by_cases hjl : j < l
    · have h6 : qa.testBit (31 - j) = a.testBit (31 - j) := by rw [← h5, cut_bit, decide_eq_true (by omega), Bool.true_and]
      by_cases hjq : ql ≤ j
      · omega
      · rw [h6, decide_eq_false hjq]; simp
    · by_cases hjq : ql ≤ j
      · rw [h3 j hj' hjq]; simp [hjl]
      · simp [hjl, hjq]
  · intro H
    refine ⟨⟨fun j hj hnj => ?_, by omega⟩, ?_⟩
    · have := H j (List.mem_range.2 hj)
      cases hb2 : qa.testBit (31 - j)
      · rfl
      · rw [hb2, decide_eq_true hnj] at this; simp at this
    · have : cutN qa l = a := Nat.eq_of_testBit_eq fun i => by
        rw [cut_bit]
        by_cases hi : 32 - l ≤ i
        · rw [decide_eq_true hi, Bool.true_and]
          by_cases hi32 : i < 32
          · have := H (31 - i) (List.mem_range.2 (by omega))
            rw [show 31 - (31 - i) = i by omega, decide_eq_true (show 31 - i < l by omega)] at this
            cases e1 : qa.testBit i <;> cases e2 : a.testBit i <;> simp [e1, e2] at this ⊢
          · rw [high32 hq (by omega), high32 ha (by omega)]
        · have := hb (31 - i) (by omega) (by omega)
          rw [show 31 - (31 - i) = i by omega] at this
          rw [this, decide_eq_false hi, Bool.false_and]
      rw [this]
end Go.Proofs.Ytmmhnpekbfmonaa
