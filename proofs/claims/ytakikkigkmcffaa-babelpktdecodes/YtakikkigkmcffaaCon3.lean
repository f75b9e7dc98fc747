/- Contracts of the small functions: needs, fits, Len32, LeadingZeros32 and the document's. -/
import Derived.Test.YtakikkigkmcffaaCon2
import Derived.Test.YtakikkigkmcffaaMat6
import Derived.Lib.QuietBelow
import Derived.Laws.MathBits
namespace Go.Proofs.Ytakikkigkmcffaa
open Go.RowKit

theorem needs_any (l : Int) (w : World) (h0 : 0 ≤ l) (h1 : l ≤ 255) {n : Nat} (hn : nd l = n) :
    Calls Try.prog 38 #[.int .i64 l] w fun e w' => e = .returned (.int .i64 n) ∧ w' = w := by
  subst hn
  have HN : Hid ((l + 7) / 8 = (nd l : Int)) := by unfold Hid nd; omega
  go_enter Try.func38, Try.ntmps38
  go_wp2
  go_ret
  exact ⟨ret_int HN.out, rfl⟩
theorem refNeeds_any (l : Int) (w : World) (h0 : 0 ≤ l) (h1 : l ≤ 255) {n : Nat} (hn : nd l = n) :
    Calls Try.prog 46 #[.int .i64 l] w fun e w' => e = .returned (.int .i64 n) ∧ w' = w := by
  subst hn
  have HN : Hid ((l + 7) / 8 = (nd l : Int)) := by unfold Hid nd; omega
  go_enter Try.func46, Try.ntmps46
  go_wp2
  go_ret
  exact ⟨ret_int HN.out, rfl⟩
theorem fits_any (n m : Int) (w : World) {v : Bool} (hv : fitB n m = v) :
    Calls Try.prog 36 #[.int .i64 n, .int .i64 m] w fun e w' => e = .returned (.bool v) ∧ w' = w := by
  subst hv
  by_cases h0 : 0 ≤ n
  all_goals
    have HM : Hid (fitB n m = (decide (0 ≤ n) && decide (n ≤ m))) := rfl
    go_enter Try.func36, Try.ntmps36
    go_wp2
    go_ret
    exact ⟨ret_bool (by rw [HM.out]; first | (simp [h0]; done) | (rw [decide_eq_false (by omega)]; rfl)), rfl⟩
/-- How many bits a number has, as far as it matters. -/
def lenOk (x n : Int) : Prop := 0 ≤ n ∧ n ≤ 32 ∧ (x = 0 → n = 0) ∧ (0 < x → 1 ≤ n) ∧ (x < 256 → n ≤ 8) ∧ (256 ≤ x → 9 ≤ n) ∧ (x < 65536 → n ≤ 16) ∧ (65536 ≤ x → 17 ≤ n) ∧ (x < 16777216 → n ≤ 24) ∧ (16777216 ≤ x → 25 ≤ n)
theorem bitLen_pos (i : Nat) (h : i ≠ 0) : 1 ≤ bitLen i := by unfold bitLen; rw [if_neg h]; omega
theorem bitLen_z : bitLen 0 = 0 := rfl
theorem wrap64_in {x : Int} (h0 : 0 ≤ x) (h1 : x ≤ 1000) : wrap64 x = x := by unfold wrap64; omega
theorem len_fin {x y c : Int} (k : Nat) (hk : k = y.toNat) (hx0 : 0 ≤ x) (hx1 : x < 4294967296) (hy0 : 0 ≤ y) (hy1 : y < 256) (hc : (c = 24 ∧ y = x / 65536 / 256 ∧ 16777216 ≤ x) ∨ (c = 16 ∧ y = x / 65536 ∧ 65536 ≤ x ∧ x < 16777216) ∨ (c = 8 ∧ y = x / 256 ∧ 256 ≤ x ∧ x < 65536) ∨ (c = 0 ∧ y = x ∧ x < 256)) :
    lenOk x (wrap64 (c + wrap64 (bitLen k))) := by
  have h8 := bitLen_le8 k (by omega)
  rw [wrap64_in (x := (bitLen k : Int)) (by omega) (by omega), wrap64_in (by omega) (by omega)]
  by_cases hz : k = 0
  · subst hz
    rw [bitLen_z]
    unfold lenOk
    omega
  · have := bitLen_pos k hz
    unfold lenOk
    omega
set_option maxRecDepth 100000 in
set_option maxHeartbeats 1000000 in
theorem len32_any (x : Int) (w : World) (h0 : 0 ≤ x) (h1 : x < 4294967296) :
    Calls Try.prog 48 #[.int .u32 x] w fun e w' => ∃ n, e = .returned (.int .i64 n) ∧ lenOk x n ∧ w' = w := by
  by_cases ha : 65536 ≤ x
  · by_cases hb : 256 ≤ x / 65536
    · go_enter Try.func48, Try.ntmps48
      go_wp2
      rw [len8tab_get]
      go_ret
      exact ⟨_, rfl, len_fin (c := 24) (y := x / 65536 / 256) _ rfl h0 h1 (by omega) (by omega) (by omega), rfl⟩
    · go_enter Try.func48, Try.ntmps48
      go_wp2
      rw [len8tab_get]
      go_ret
      exact ⟨_, rfl, len_fin (c := 16) (y := x / 65536) _ rfl h0 h1 (by omega) (by omega) (by omega), rfl⟩
  · by_cases hb : 256 ≤ x
    · go_enter Try.func48, Try.ntmps48
      go_wp2
      rw [len8tab_get]
      go_ret
      exact ⟨_, rfl, len_fin (c := 8) (y := x / 256) _ rfl h0 h1 (by omega) (by omega) (by omega), rfl⟩
    · go_enter Try.func48, Try.ntmps48
      go_wp2
      rw [len8tab_get]
      go_ret
      have hf := len_fin (x := x) (c := 0) (y := x) _ rfl h0 h1 (by omega) (by omega) (by omega)
      rw [Int.zero_add] at hf
      exact ⟨_, rfl, hf, rfl⟩
theorem xor_zero_iff (x y : Nat) : x ^^^ y = 0 ↔ x = y := by
  constructor
  · intro h
    apply Nat.eq_of_testBit_eq
    intro i
    have := congrArg (fun z => z.testBit i) h
    simp only [Nat.testBit_xor, Nat.zero_testBit] at this
    cases h1 : x.testBit i <;> cases h2 : y.testBit i <;> simp [h1, h2] at this ⊢
  · rintro rfl; exact Nat.xor_self x
theorem xor_lt (x y k : Nat) : x ^^^ y < 2 ^ k ↔ x / 2 ^ k = y / 2 ^ k := by
  rw [← Nat.shiftRight_eq_div_pow, ← Nat.shiftRight_eq_div_pow, ← xor_zero_iff, ← Nat.shiftRight_xor_distrib, Nat.shiftRight_eq_div_pow]
  rw [Nat.div_eq_zero_iff]
  have := Nat.two_pow_pos k
  omega
/-- What two addresses have in common, by the bits in which they differ. -/
theorem lz_cm {x y n : Int} (hx0 : 0 ≤ x) (hx1 : x < 4294967296) (hy0 : 0 ≤ y) (hy1 : y < 4294967296) (h : lenOk (bits .xor .u32 x y) n) : (32 - n) / 8 = (cm x y : Int) := by
  rw [u32_xor x y hx0 hx1 hy0 hy1] at h
  have k0 := xor_lt x.toNat y.toNat 24
  have k1 := xor_lt x.toNat y.toNat 16
  have k2 := xor_lt x.toNat y.toNat 8
  have k3 := xor_lt x.toNat y.toNat 0
  simp only [Nat.reducePow, Nat.div_one] at k0 k1 k2 k3
  generalize x.toNat ^^^ y.toNat = z at *
  unfold lenOk at h
  unfold cm
  split
  · have : ¬ z < 16777216 := fun hz => by have := k0.1 hz; omega
    omega
  split
  · have : ¬ z < 65536 := fun hz => by have := k1.1 hz; omega
    have := k0.2 (by omega)
    omega
  split
  · have : ¬ z < 256 := fun hz => by have := k2.1 hz; omega
    have := k1.2 (by omega)
    omega
  split
  · have : ¬ z < 1 := fun hz => by have := k3.1 hz; omega
    have := k2.2 (by omega)
    omega
  · have := k3.2 (by omega)
    omega
theorem lz_any (x : Int) (w : World) (h0 : 0 ≤ x) (h1 : x < 4294967296) :
    Calls Try.prog 28 #[.int .u32 x] w fun e w' => ∃ n, e = .returned (.int .i64 (32 - n)) ∧ lenOk x n ∧ w' = w := by
  go_enter Try.func28, Try.ntmps28
  go_wp2_with (go_at_call 48; refine (len32_any _ _ h0 h1).mono ?_; rintro e w' ⟨n, rfl, hn, rfl⟩; have hn0 : 0 ≤ n := hn.1; have hn1 : n ≤ 32 := hn.2.1)
  go_ret
  exact ⟨n, rfl, hn, rfl⟩
def sqI (x y h : Int) : Int := if h < 0 ∨ 4 < h then 0 else (sq x y h.toNat : Int)
theorem u32_xor_bd (x y : Int) (hx0 : 0 ≤ x) (hx1 : x < 4294967296) (hy0 : 0 ≤ y) (hy1 : y < 4294967296) : 0 ≤ bits .xor .u32 x y ∧ bits .xor .u32 x y < 4294967296 := by
  rw [u32_xor x y hx0 hx1 hy0 hy1]
  have : x.toNat ^^^ y.toNat < 2 ^ 32 := Nat.xor_lt_two_pow (by omega) (by omega)
  omega
set_option maxHeartbeats 1000000 in
theorem squeeze_any (x y h : Int) (w : World) (hx0 : 0 ≤ x) (hx1 : x < 4294967296) (hy0 : 0 ≤ y) (hy1 : y < 4294967296) {v : Int} (hv : sqI x y h = v) :
    Calls Try.prog 14 #[.int .u32 x, .int .u32 y, .int .i64 h] w fun e w' => e = .returned (.int .i64 v) ∧ w' = w := by
  subst hv
  by_cases ha : h < 0
  · have HV : Hid (sqI x y h = 0) := by unfold Hid sqI; rw [if_pos (.inl ha)]
    go_enter Try.func14, Try.ntmps14
    go_wp2
    go_ret
    exact ⟨ret_int HV.out.symm, rfl⟩
  by_cases hb : 4 < h
  · have HV : Hid (sqI x y h = 0) := by unfold Hid sqI; rw [if_pos (.inr hb)]
    go_enter Try.func14, Try.ntmps14
    go_wp2
    go_ret
    exact ⟨ret_int HV.out.symm, rfl⟩
  have HX : Hid (0 ≤ bits .xor .u32 x y ∧ bits .xor .u32 x y < 4294967296) := u32_xor_bd x y hx0 hx1 hy0 hy1
  have HV : Hid (∀ n, lenOk (bits .xor .u32 x y) n → sqI x y h = if h < (32 - n) / 8 then h else (32 - n) / 8) := by
    intro n hn
    have e := lz_cm hx0 hx1 hy0 hy1 hn
    unfold sqI sq
    rw [if_neg (by omega), e]
    split <;> omega
  obtain ⟨z, hz⟩ : ∃ z, bits .xor .u32 x y = z := ⟨_, rfl⟩
  rw [hz] at HX HV
  go_enter Try.func14, Try.ntmps14
  go_wp2_with (go_at_call 28; refine (lz_any _ _ HX.out.1 HX.out.2).mono ?_; rintro e w' ⟨n, rfl, hn, rfl⟩; have hn0 : 0 ≤ n := hn.1; have hn1 : n ≤ 32 := hn.2.1; have HN := HV.out n hn; clear hn)
  all_goals
    go_ret
    exact ⟨rfl, rfl⟩
end Go.Proofs.Ytakikkigkmcffaa
