/- Numbers of masks: the mask of n bits, and what it leaves of an address. No program is named here. -/
import Derived.Laws.BitsAllLaws
namespace Go.Proofs.Ytmmhnpekbfmonaa

/-- The mask of n bits (n at most 32). -/
def mkI (n : Nat) : Int := 4294967296 - ((2 ^ (32 - n) : Nat) : Int)
/-- How many bits Mask takes. -/
def cl (b : Int) : Nat := (min (max b 0) 32).toNat
def maskV (b : Int) : Int := mkI (cl b)
/-- What the mask of n bits leaves of a. -/
def andM (a : Int) (n : Nat) : Int := a - a % ((2 ^ (32 - n) : Nat) : Int)
def oneI (k : Nat) : Int := 2147483648 / ((2 ^ k : Nat) : Int)
theorem mkI_bd (n : Nat) : 0 ≤ mkI n ∧ mkI n < 4294967296 := by
  unfold mkI
  have h : 2 ^ (32 - n) ≤ 2 ^ 32 := Nat.pow_le_pow_right (by omega) (by omega)
  have h0 : 0 < 2 ^ (32 - n) := Nat.two_pow_pos _
  omega
theorem maskV_bd (b : Int) : 0 ≤ maskV b ∧ maskV b < 4294967296 := mkI_bd _
theorem cl_of {b : Int} (h0 : 0 ≤ b) (h1 : b ≤ 32) : cl b = b.toNat := by unfold cl; omega
theorem cl_le (b : Int) : cl b ≤ 32 := by unfold cl; omega
theorem nat_and_mask (a k m : Nat) (hk : k ≤ m) (ha : a < 2 ^ m) : a &&& (2 ^ m - 2 ^ k) = a - a % 2 ^ k := by
  have e1 : 2 ^ m - 2 ^ k = (2 ^ (m - k) - 1) <<< k := by
    rw [Nat.shiftLeft_eq, Nat.sub_mul, ← Nat.pow_add, Nat.one_mul, Nat.sub_add_cancel hk]
  have e2 : a - a % 2 ^ k = (a >>> k) <<< k := by
    rw [Nat.shiftLeft_eq, Nat.shiftRight_eq_div_pow]
    have := Nat.div_add_mod a (2 ^ k)
    rw [Nat.mul_comm] at this
    omega
  rw [e1, e2]
  apply Nat.eq_of_testBit_eq
  intro i
  simp only [Nat.testBit_and, Nat.testBit_shiftLeft, Nat.testBit_shiftRight, Nat.testBit_two_pow_sub_one]
  by_cases h : k ≤ i
  · have e : k + (i - k) = i := by omega
    rw [e]
    by_cases h2 : i < m
    · have : i - k < m - k := by omega
      simp [h, this]
    · have : a.testBit i = false := Nat.testBit_lt_two_pow (Nat.lt_of_lt_of_le ha (Nat.pow_le_pow_right (by omega) (by omega)))
      simp [this]
  · simp [h]
theorem u32_andM (a : Int) (n : Nat) (h0 : 0 ≤ a) (h1 : a < 4294967296) (_hn : n ≤ 32) : bits .and .u32 a (mkI n) = andM a n := by
  obtain ⟨x, rfl⟩ := Int.eq_ofNat_of_zero_le h0
  have hm := mkI_bd n
  have e : mkI n = ((4294967296 - 2 ^ (32 - n) : Nat) : Int) := by
    have h : 2 ^ (32 - n) ≤ 2 ^ 32 := Nat.pow_le_pow_right (by omega) (by omega)
    unfold mkI
    rw [Int.ofNat_sub h]
    rfl
  rw [u32_and _ _ h0 h1 hm.1 hm.2, e]
  have hx : x < 2 ^ 32 := by omega
  have := nat_and_mask x (32 - n) 32 (by omega) hx
  simp only [Int.toNat_natCast]
  rw [show (4294967296 : Nat) = 2 ^ 32 from rfl, this]
  unfold andM
  rw [Int.ofNat_sub (Nat.mod_le _ _)]
  simp
theorem mask_val0 : ∀ n, n < 33 → 4294967295 * 2 ^ (32 - n) % 4294967296 = mkI n := by decide
theorem mask_val {b : Int} (h0 : 0 ≤ b) (h1 : b ≤ 32) : 4294967295 * 2 ^ (32 - b).toNat % 4294967296 = maskV b := by
  have e : (32 - b).toNat = 32 - b.toNat := by omega
  unfold maskV
  rw [cl_of h0 h1, e]
  exact mask_val0 _ (by omega)
theorem mask_lo {b : Int} (h : b < 0) : 0 = maskV b := by
  have e : cl b = 0 := by unfold cl; omega
  unfold maskV
  rw [e]
  decide
theorem mask_hi {b : Int} (h : 32 < b) : 4294967295 = maskV b := by
  have e : cl b = 32 := by unfold cl; omega
  unfold maskV
  rw [e]
  decide
theorem mkI_all : ∀ k, k < 32 → mkI (k + 1) = mkI k + oneI k := by decide
theorem oneI_all : ∀ k, k < 32 → oneI (k + 1) = oneI k / 2 ∧ 0 ≤ oneI k ∧ oneI k ≤ 2147483648 := by decide
theorem mkI_lt : ∀ k, k < 32 → mkI k < mkI (k + 1) := by decide
theorem mkI_mono {j k : Nat} (h : j < k) (hk : k ≤ 32) : mkI j < mkI k := by
  induction k with
  | zero => omega
  | succ k ih =>
    have := mkI_lt k (by omega)
    by_cases e : j = k
    · subst e; exact this
    · have := ih (by omega) (by omega); omega
theorem mkI_inj {j k : Nat} (hj : j ≤ 32) (hk : k ≤ 32) (h : mkI j = mkI k) : j = k := by
  rcases Nat.lt_trichotomy j k with l | l | l
  · have := mkI_mono l hk; omega
  · exact l
  · have := mkI_mono l hj; omega
theorem andM_bd (a : Int) (n : Nat) (h0 : 0 ≤ a) : 0 ≤ andM a n ∧ andM a n ≤ a := by
  have hp : (0 : Int) < ((2 ^ (32 - n) : Nat) : Int) := by have := Nat.two_pow_pos (32 - n); omega
  have h1 := Int.emod_nonneg a (Int.ne_of_gt hp)
  have h2 := Int.mul_ediv_add_emod a ((2 ^ (32 - n) : Nat) : Int)
  have h3 : 0 ≤ ((2 ^ (32 - n) : Nat) : Int) * (a / ((2 ^ (32 - n) : Nat) : Int)) := Int.mul_nonneg (by omega) (Int.ediv_nonneg h0 (by omega))
  unfold andM
  omega
theorem andM_mul (a : Int) (n : Nat) : andM a n = ((2 ^ (32 - n) : Nat) : Int) * (a / ((2 ^ (32 - n) : Nat) : Int)) := by
  have h2 := Int.mul_ediv_add_emod a ((2 ^ (32 - n) : Nat) : Int)
  unfold andM
  omega
/-- A shorter mask of a longer one's is the shorter one's. -/
theorem andM_andM (a : Int) {m n : Nat} (h : m ≤ n) : andM (andM a n) m = andM a m := by
  have hp : (0 : Int) < ((2 ^ (32 - n) : Nat) : Int) := by have := Nat.two_pow_pos (32 - n); omega
  have e : ((2 ^ (32 - m) : Nat) : Int) = ((2 ^ (32 - n) : Nat) : Int) * ((2 ^ ((32 - m) - (32 - n)) : Nat) : Int) := by
    rw [← Int.natCast_mul, ← Nat.pow_add, Nat.add_sub_cancel' (by omega)]
  rw [andM_mul _ m, andM_mul a n, andM_mul a m, e]
  generalize ((2 ^ (32 - n) : Nat) : Int) = u at hp
  generalize ((2 ^ ((32 - m) - (32 - n)) : Nat) : Int) = t
  rw [Int.mul_ediv_mul_of_pos _ _ hp, Int.ediv_ediv_of_nonneg (by omega)]
/-- What a prefix is asked. -/
def lenB (l : Int) : Bool := decide (0 ≤ l ∧ l ≤ 32)
theorem lenB_true {l : Int} (h0 : 0 ≤ l) (h1 : l ≤ 32) : lenB l = true := by simp [lenB, h0, h1]
theorem lenB_false {l : Int} (h : ¬ (0 ≤ l ∧ l ≤ 32)) : lenB l = false := by rw [lenB, decide_eq_false_iff_not]; exact h
def mayB (a l : Int) : Bool := decide (0 ≤ l ∧ l ≤ 32 ∧ andM a l.toNat = a)
def hasB (a l x : Int) : Bool := mayB a l && (andM x l.toNat == a)
def coversB (pa pl qa ql : Int) : Bool := mayB qa ql && decide (pl ≤ ql) && hasB pa pl qa
def lessB (pa pl qa ql : Int) : Bool := decide (pa < qa ∨ pa = qa ∧ pl < ql)
/-- How many bits a mask has: the first number whose mask it is. -/
def bitsN (m : Int) : Option Nat := (List.range 33).find? fun n => mkI n == m
def bitsI (m : Int) : Int := (((bitsN m).getD 0 : Nat) : Int)
def bitsB (m : Int) : Bool := (bitsN m).isSome
theorem find_first (p : Nat → Bool) (N k : Nat) (hk : k < N) (h : p k = true) (hb : ∀ j, j < k → p j = false) : (List.range N).find? p = some k := by
  rw [List.find?_range_eq_some]
  exact ⟨h, List.mem_range.2 hk, fun j hj => by simp [hb j hj]⟩
theorem bits_some {m : Int} {k : Nat} (hk : k < 33) (h : mkI k = m) (hb : ∀ j, j < k → mkI j ≠ m) : bitsN m = some k :=
  find_first _ 33 k hk (by simp [h]) (fun j hj => by simp [hb j hj])
theorem bits_none {m : Int} (hb : ∀ j, j < 33 → mkI j ≠ m) : bitsN m = none := by
  unfold bitsN
  rw [List.find?_range_eq_none]
  intro j hj
  simp [hb j hj]
theorem bits_mk {k : Nat} (hk : k ≤ 32) : bitsN (mkI k) = some k :=
  bits_some (by omega) rfl (fun j hj e => by have := mkI_inj (by omega) hk e; omega)
end Go.Proofs.Ytmmhnpekbfmonaa
