/- The two halves of a prefix: numbers. No program is named here. -/
import Derived.Test.YtapoajplmejjcaaDoorMath
namespace Go.Proofs.YtapoajplmejjcaaDoor

theorem mod_half (v T : Int) (hT : 0 < T) : v % (2 * T) = v % T ∨ v % (2 * T) = v % T + T := by
  have h0 := Int.emod_nonneg v (show 2 * T ≠ 0 by omega)
  have h1 := Int.emod_lt_of_pos v (show 0 < 2 * T by omega)
  have h2 : v % (2 * T) % T = v % T := Int.emod_emod_of_dvd v ⟨2, by omega⟩
  rw [← h2]
  generalize v % (2 * T) = r at h0 h1
  by_cases h : r < T
  · left; rw [Int.emod_eq_of_lt h0 h]
  · right
    have : (r - T + T) % T = (r - T) % T := Int.add_emod_right (r - T) T
    rw [Int.sub_add_cancel] at this
    have e := Int.emod_eq_of_lt (show 0 ≤ r - T by omega) (show r - T < T by omega)
    omega
/-- The bit behind the mask of l bits. -/
def bitT (l : Int) : Int := ((2 ^ (31 - l.toNat) : Nat) : Int)
theorem bitT_pos (l : Int) : 0 < bitT l := by unfold bitT; have := Nat.two_pow_pos (31 - l.toNat); omega
theorem and_lo (v l : Int) (h0 : 0 ≤ l) (h1 : l < 32) : andM v l.toNat = v - v % (2 * bitT l) := by
  unfold andM bitT
  have e : 32 - l.toNat = (31 - l.toNat) + 1 := by omega
  rw [e, Nat.pow_succ]
  rw [show (((2 ^ (31 - l.toNat) * 2 : Nat)) : Int) = 2 * ((2 ^ (31 - l.toNat) : Nat) : Int) by omega]
theorem and_hi (v l : Int) (h0 : 0 ≤ l) : andM v (l + 1).toNat = v - v % bitT l := by
  unfold andM bitT
  rw [show 32 - (l + 1).toNat = 31 - l.toNat by omega]

/-- What is known of a prefix and its two halves. -/
theorem halves {a l : Int} (ha0 : 0 ≤ a) (ha1 : a < 4294967296) (h0 : 0 ≤ l) (h1 : l < 32) (hm : mayB a l = true) :
    andM a (l + 1).toNat = a ∧ andM (a + bitT l) (l + 1).toNat = a + bitT l ∧ andM (a + bitT l) l.toNat = a ∧ a + bitT l < 4294967296 ∧ a % (2 * bitT l) = 0 := by
  have hT := bitT_pos l
  have e0 : andM a l.toNat = a := by rw [mayB, decide_eq_true_eq] at hm; exact hm.2.2
  rw [and_lo a l h0 h1] at e0
  have e1 : a % (2 * bitT l) = 0 := by omega
  have e2 : a % bitT l = 0 := by
    rcases mod_half a (bitT l) hT with h | h
    · omega
    · have := Int.emod_nonneg a (show bitT l ≠ 0 by omega); omega
  have e3 : (a + bitT l) % bitT l = 0 := by rw [Int.add_emod_right]; exact e2
  have e4 : (a + bitT l) % (2 * bitT l) = bitT l := by
    rw [Int.add_emod, e1, Int.zero_add, Int.emod_emod, Int.emod_eq_of_lt (by omega) (by omega)]
  refine ⟨by rw [and_hi a l h0]; omega, by rw [and_hi _ l h0]; omega, by rw [and_lo _ l h0 h1]; omega, ?_, e1⟩
  -- a is a multiple of 2T below 2^32, which is one too
  have e5 : (4294967296 : Int) % (2 * bitT l) = 0 := by
    obtain ⟨n, rfl⟩ := Int.eq_ofNat_of_zero_le h0
    have hn : n < 32 := by omega
    have : ∀ n, n < 32 → (4294967296 : Int) % (2 * ((2 ^ (31 - n) : Nat) : Int)) = 0 := by decide
    exact this n hn
  have e6 : (4294967296 - a) % (2 * bitT l) = 0 := by rw [Int.sub_emod, e5, e1]; simp
  have e7 : 2 * bitT l ≤ 4294967296 - a := by
    by_cases h : 4294967296 - a < 2 * bitT l
    · rw [Int.emod_eq_of_lt (by omega) h] at e6; omega
    · omega
  omega
theorem or_bit {a l : Int} (ha0 : 0 ≤ a) (ha1 : a < 4294967296) (h0 : 0 ≤ l) (h1 : l < 32) (hm : mayB a l = true) : bits .or .u32 a (bitT l) = a + bitT l := by
  obtain ⟨_, _, _, h4, h5⟩ := halves ha0 ha1 h0 h1 hm
  obtain ⟨x, rfl⟩ := Int.eq_ofNat_of_zero_le ha0
  have hT := bitT_pos l
  unfold bitT at *
  have hp : 2 ^ (31 - l.toNat + 1) = 2 ^ (31 - l.toNat) * 2 := Nat.pow_succ ..
  rw [u32_or_nat _ _ (by omega) (by omega)]
  rw [nat_join (31 - l.toNat + 1) x (2 ^ (31 - l.toNat)) ?_ (by omega)]
  · simp
  · rw [hp]; have : ((x % (2 ^ (31 - l.toNat) * 2) : Nat) : Int) = 0 := by rw [Int.natCast_emod]; rw [show ((2 ^ (31 - l.toNat) * 2 : Nat) : Int) = 2 * ((2 ^ (31 - l.toNat) : Nat) : Int) by omega]; exact h5
    omega
theorem bit_shl : ∀ n, n < 32 → (2 : Int) ^ (31 - n) % 4294967296 = ((2 ^ (31 - n) : Nat) : Int) := by decide
end Go.Proofs.YtapoajplmejjcaaDoor
