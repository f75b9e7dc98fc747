/- The program's bit of an address. -/
import Derived.Test.YtcabeclbdjfoaaaNodA
import Derived.Test.YtcabeclbdjfoaaaTriX
namespace Go.Proofs.Ytcabeclbdjfoaaa
open Go.RowKit

/-- The bit behind so many, as a number; 0 behind all. -/
def bitI (x : Int) (k : Nat) : Int := x * 2 ^ k % 4294967296 / 2147483648
theorem bit_val {x : Int} {k : Nat} (h0 : 0 ≤ x) (hk : k < 32) : bitI x k = if bitX x k = true then 1 else 0 := by
  obtain ⟨n, rfl⟩ : ∃ n : Nat, x = (n : Int) := ⟨x.toNat, by omega⟩
  have e1 : 4294967296 = 2 ^ (32 - k) * 2 ^ k := by rw [← Nat.pow_add, show 32 - k + k = 32 by omega]
  have e2 : 2147483648 = 2 ^ (31 - k) * 2 ^ k := by rw [← Nat.pow_add, show 31 - k + k = 31 by omega]
  have e3 : 2 ^ (32 - k) = 2 ^ (31 - k) * 2 := by rw [show 32 - k = (31 - k) + 1 by omega, Nat.pow_succ]
  have key : n * 2 ^ k % 4294967296 / 2147483648 = n / 2 ^ (31 - k) % 2 := by
    rw [e1, e2, Nat.mul_mod_mul_right, Nat.mul_div_mul_right _ _ (Nat.two_pow_pos k), e3, Nat.mod_mul_right_div_self]
  have c : bitI (n : Int) k = ((n * 2 ^ k % 4294967296 / 2147483648 : Nat) : Int) := by
    unfold bitI
    rw [Int.natCast_ediv, Int.natCast_emod, Int.natCast_mul, Int.natCast_pow]
    rfl
  rw [c, key]
  unfold bitX
  rw [Int.toNat_natCast]
  rcases Nat.mod_two_eq_zero_or_one (n / 2 ^ (31 - k)) with h | h <;> rw [h] <;> rfl
theorem bit_end (x : Int) : bitI x 32 = 0 := by
  unfold bitI
  rw [show (2 : Int) ^ 32 = 4294967296 by decide]
  omega
set_option maxHeartbeats 400000 in
theorem bit_any (x : Int) (k : Nat) (w : World) (hk : k ≤ 32) {v : Int} (hv : bitI x k = v) :
    Calls Try.prog 58 #[.int .u32 x, .int .i64 k] w fun e w' => e = .returned (.int .i64 v) ∧ w' = w := by
  subst hv
  go_enter Try.func58, Try.ntmps58
  go_wp2
  go_ret
  exact ⟨rfl, rfl⟩
end Go.Proofs.Ytcabeclbdjfoaaa
