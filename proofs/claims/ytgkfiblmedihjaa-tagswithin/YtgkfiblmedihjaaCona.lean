/- Contracts of the plain functions of tags: isDomain, bit, Has, Within, Add, and the document's own. -/
import Derived.Test.YtgkfiblmedihjaaChecked
import Derived.Test.YtgkfiblmedihjaaMath
import Derived.WalkKit
import Derived.ProofKit
import Derived.OpenShut
import Derived.LoopTactic
import Derived.Handy
namespace Go.Proofs.Ytgkfiblmedihjaa
open Go.RowKit
theorem ret_bool {a b : Bool} (h : a = b) : Ending.returned (.bool a) = .returned (.bool b) := by rw [h]
theorem ret_int {k : IntKind} {a b : Int} (h : a = b) : Ending.returned (.int k a) = .returned (.int k b) := by rw [h]

theorem isDomain_any (d : Int) (w : World) {v : Bool} (hv : domB d = v) :
    Calls Try.prog 24 #[.int .i64 d] w fun e w' => e = .returned (.bool v) ∧ w' = w := by
  subst hv
  by_cases h0 : 0 ≤ d <;> by_cases h1 : d < 16
  all_goals
    go_enter Try.func24, Try.ntmps24
    go_wp2
    go_ret
    exact ⟨ret_bool (by simp [domB, h0, h1]), rfl⟩
theorem refIs_any (d : Int) (w : World) {v : Bool} (hv : domB d = v) :
    Calls Try.prog 26 #[.int .i64 d] w fun e w' => e = .returned (.bool v) ∧ w' = w := by
  subst hv
  by_cases h0 : 0 ≤ d <;> by_cases h1 : d < 16
  all_goals
    go_enter Try.func26, Try.ntmps26
    go_wp2
    go_ret
    exact ⟨ret_bool (by simp [domB, h0, h1]), rfl⟩

theorem bit_any (n p : Nat) (w : World) (hn : n < 16) (hp : p = 2 ^ n) :
    Calls Try.prog 25 #[.int .i64 (n : Int)] w fun e w' => e = .returned (.int .u16 (p : Int)) ∧ w' = w := by
  subst hp
  have hm : min n 16 = n := by omega
  have hb := pow_bd hn
  have hb2 : (0 : Int) < 2 ^ n ∧ (2 : Int) ^ n ≤ 32768 := by
    have e : ((2 ^ n : Nat) : Int) = 2 ^ n := by simp
    omega
  go_enter Try.func25, Try.ntmps25
  go_wp2
  go_ret
  exact ⟨ret_int (by simp), rfl⟩

theorem refBit_any (n p : Nat) (w : World) (hn : n < 16) (hp : p = 2 ^ n) :
    Calls Try.prog 27 #[.int .i64 (n : Int)] w fun e w' => e = .returned (.int .i64 (p : Int)) ∧ w' = w := by
  go_enter Try.func27, Try.ntmps27
  go_wp2
  go_loop [3, 4] (fun m i => ∃ k q : Nat, k ≤ n ∧ i = .int .i64 k ∧ m = .int .i64 q ∧ Hid (q = 2 ^ k)) (fun _ i => n - (intOf i).toNat)
  case atStart => exact ⟨0, 1, by omega, rfl, rfl, rfl⟩
  case round =>
    obtain ⟨k, q, hk, rfl, rfl, hq⟩ := hrel
    by_cases hlt : k < n
    · have hb := pow_bd (n := k) (by omega)
      rw [← hq.out] at hb
      have hq2 : Hid (2 * q = 2 ^ (k + 1)) := by unfold Hid; rw [hq.out, Nat.pow_succ]; omega
      clear hp hq
      go_wp2
      go_round
      case rel => exact ⟨k + 1, 2 * q, by omega, by go_num, by go_num, hq2⟩
      case measure => simp [intOf]; omega
    · obtain rfl : k = n := by omega
      have HE : Hid (q = p) := hq.out.trans hp.symm
      clear hp hq
      go_wp2
      go_ret
      exact ⟨by rw [HE.out]; rfl, rfl⟩

theorem has_any (t : Nat) (d : Int) (w : World) (ht : t < 65536) {v : Bool} (hv : hasB t d = v) :
    Calls Try.prog 14 #[.int .u16 (t : Int), .int .i64 d] w fun e w' => e = .returned (.bool v) ∧ w' = w := by
  cases hd : domB d
  · obtain rfl : v = false := by rw [← hv]; simp [hasB, hd]
    clear hv
    go_enter Try.func14, Try.ntmps14
    go_wp2_with (go_at_call 24; refine (isDomain_any _ _ hd).mono ?_; rintro e w' ⟨rfl, rfl⟩)
    go_ret
    exact ⟨rfl, rfl⟩
  · have h01 := domB_iff.1 hd
    obtain ⟨n, rfl⟩ := Int.eq_ofNat_of_zero_le h01.1
    have hn : n < 16 := by omega
    obtain ⟨p, hp⟩ : ∃ p, p = 2 ^ n := ⟨_, rfl⟩
    have hb := pow_bd hn
    rw [← hp] at hb
    have hq : (bits .and .u16 (t : Int) (p : Int) != 0) = v := by
      rw [u16_and_nat t p ht (by omega), ← hv]
      have := bit_and t n
      rw [← hp] at this
      simp only [hasB, hd, Bool.true_and, Int.toNat_natCast]
      rw [← this, Bool.eq_iff_iff]
      simp
    have HP : Hid (p = 2 ^ n) := hp
    clear hp hv h01
    go_enter Try.func14, Try.ntmps14
    go_wp2_with (first
      | (go_at_call 24; refine (isDomain_any _ _ hd).mono ?_; rintro e w' ⟨rfl, rfl⟩)
      | (go_at_call 25; refine (bit_any n p _ hn HP.out).mono ?_; rintro e w' ⟨rfl, rfl⟩))
    go_ret
    exact ⟨rfl, rfl⟩

theorem refHas_any (t : Nat) (d : Int) (w : World) (ht : t < 65536) {v : Bool} (hv : hasB t d = v) :
    Calls Try.prog 15 #[.int .u16 (t : Int), .int .i64 d] w fun e w' => e = .returned (.bool v) ∧ w' = w := by
  cases hd : domB d
  · obtain rfl : v = false := by rw [← hv]; simp [hasB, hd]
    clear hv
    go_enter Try.func15, Try.ntmps15
    go_wp2_with (go_at_call 26; refine (refIs_any _ _ hd).mono ?_; rintro e w' ⟨rfl, rfl⟩)
    go_ret
    exact ⟨rfl, rfl⟩
  · have h01 := domB_iff.1 hd
    obtain ⟨n, rfl⟩ := Int.eq_ofNat_of_zero_le h01.1
    have hn : n < 16 := by omega
    obtain ⟨p, hp⟩ : ∃ p, p = 2 ^ n := ⟨_, rfl⟩
    have hb := pow_bd hn
    rw [← hp] at hb
    have hq : ((t : Int) / (p : Int) % 2 == 1) = v := by
      rw [← hv]
      have := bit_div t n
      rw [← hp] at this
      simp only [hasB, hd, Bool.true_and, Int.toNat_natCast]
      rw [← this, Bool.eq_iff_iff]
      simp
      omega
    have hz : 0 ≤ (t : Int) / (p : Int) ∧ (t : Int) / (p : Int) < 65536 := by
      have h1 := Int.ediv_nonneg (a := (t : Int)) (b := (p : Int)) (by omega) (by omega)
      have h2 := Int.ediv_le_self (a := (t : Int)) (p : Int) (by omega)
      omega
    have HP : Hid (p = 2 ^ n) := hp
    clear hp hv h01
    go_enter Try.func15, Try.ntmps15
    go_wp2_with (first
      | (go_at_call 26; refine (refIs_any _ _ hd).mono ?_; rintro e w' ⟨rfl, rfl⟩)
      | (go_at_call 27; refine (refBit_any n p _ hn HP.out).mono ?_; rintro e w' ⟨rfl, rfl⟩))
    go_ret
    exact ⟨rfl, rfl⟩

theorem within_any (a b : Nat) (w : World) (ha : a < 65536) (hb : b < 65536) {v : Bool} (hv : wit a b = v) :
    Calls Try.prog 18 #[.int .u16 (a : Int), .int .u16 (b : Int)] w fun e w' => e = .returned (.bool v) ∧ w' = w := by
  have hq : (bits .andNot .u16 (a : Int) (b : Int) == 0) = v := by
    rw [u16_andNot_nat a b ha hb, ← hv, Bool.eq_iff_iff, wit]
    simp
  clear hv
  go_enter Try.func18, Try.ntmps18
  go_wp2
  go_ret
  exact ⟨rfl, rfl⟩

theorem refWithin_any (a b : Nat) (w : World) (ha : a < 65536) (hb : b < 65536) {v : Bool} (hv : wit a b = v) :
    Calls Try.prog 19 #[.int .u16 (a : Int), .int .u16 (b : Int)] w fun e w' => e = .returned (.bool v) ∧ w' = w := by
  have HV : Hid (wit a b = v) := hv
  clear hv
  go_enter Try.func19, Try.ntmps19
  go_wp2
  go_loop [5] (fun i => ∃ k : Nat, k ≤ 16 ∧ i = .int .i64 k ∧ Hid (∀ j, j < k → a.testBit j = true → b.testBit j = true)) (fun i => 16 - (intOf i).toNat)
  case atStart => exact ⟨0, by omega, rfl, fun j hj => by omega⟩
  case round =>
    obtain ⟨k, hk, rfl, hn⟩ := hrel
    by_cases hlt : k < 16
    · have hd : domB (k : Int) = true := domB_true (by omega) (by omega)
      cases h1 : a.testBit k
      · have ha1 : hasB a (k : Int) = false := by simp [hasB, h1]
        have HN : Hid (∀ j, j < k + 1 → a.testBit j = true → b.testBit j = true) := fun j hj hj2 => by
          by_cases e : j = k
          · subst e; rw [h1] at hj2; cases hj2
          · exact hn.out j (by omega) hj2
        have hb1 : hasB b (k : Int) = b.testBit k := by simp [hasB, hd]
        clear hn h1
        go_wp2_with (go_at_call 15; refine (refHas_any _ _ _ (by assumption) rfl).mono ?_; rintro e w' ⟨rfl, rfl⟩)
        go_round
        case rel => exact ⟨k + 1, by omega, by go_num, HN⟩
        case measure => simp [intOf]; omega
      · have ha1 : hasB a (k : Int) = true := by simp [hasB, h1, hd]
        cases h2 : b.testBit k
        · have hb1 : hasB b (k : Int) = false := by simp [hasB, h2]
          have HN : Hid (v = false) := by
            unfold Hid
            rw [← HV.out]
            cases e : wit a b
            · rfl
            · have := (wit_16 ha hb).1 e k hlt h1
              rw [h2] at this; cases this
          clear hn h1 h2
          go_wp2_with (go_at_call 15; refine (refHas_any _ _ _ (by assumption) rfl).mono ?_; rintro e w' ⟨rfl, rfl⟩)
          go_ret
          exact ⟨by rw [HN.out]; rfl, rfl⟩
        · have hb1 : hasB b (k : Int) = true := by simp [hasB, h2, hd]
          have HN : Hid (∀ j, j < k + 1 → a.testBit j = true → b.testBit j = true) := fun j hj hj2 => by
            by_cases e : j = k
            · subst e; exact h2
            · exact hn.out j (by omega) hj2
          clear hn h1 h2
          go_wp2_with (go_at_call 15; refine (refHas_any _ _ _ (by assumption) rfl).mono ?_; rintro e w' ⟨rfl, rfl⟩)
          go_round
          case rel => exact ⟨k + 1, by omega, by go_num, HN⟩
          case measure => simp [intOf]; omega
    · obtain rfl : k = 16 := by omega
      have HN : Hid (v = true) := by
        unfold Hid
        rw [← HV.out]
        exact (wit_16 ha hb).2 hn.out
      clear hn
      go_wp2
      go_ret
      exact ⟨by rw [HN.out]; rfl, rfl⟩

theorem add_any (t : Nat) (d : Int) (w : World) (ht : t < 65536) {x y : Nat} (hx : addT t d = x) (hy : addE t d = y) :
    Calls Try.prog 20 #[.int .u16 (t : Int), .int .i64 d] w fun e w' => e = .returned (.tuple #[.int .u16 (x : Int), .int .i64 (y : Int)]) ∧ w' = w := by
  cases hd : domB d
  · obtain rfl : x = 0 := by rw [← hx]; simp [addT, hd]
    obtain rfl : y = 1 := by rw [← hy]; simp [addE, hd]
    clear hx hy
    go_enter Try.func20, Try.ntmps20
    go_wp2_with (go_at_call 24; refine (isDomain_any _ _ hd).mono ?_; rintro e w' ⟨rfl, rfl⟩)
    go_ret2
    exact ⟨rfl, rfl⟩
  · have h01 := domB_iff.1 hd
    obtain ⟨n, rfl⟩ := Int.eq_ofNat_of_zero_le h01.1
    have hn : n < 16 := by omega
    clear h01
    cases h1 : t.testBit n
    · have hh : hasB t (n : Int) = false := by simp [hasB, h1]
      obtain ⟨p, hp⟩ : ∃ p, p = 2 ^ n := ⟨_, rfl⟩
      have hb := pow_bd hn
      rw [← hp] at hb
      obtain rfl : y = 0 := by rw [← hy]; simp [addE, hd, h1]
      have hq : bits .or .u16 (t : Int) (p : Int) = (x : Int) := by
        rw [u16_or_nat t p ht (by omega), ← hx, addT, if_pos hd]
        simp [h1, hp]
      have HP : Hid (p = 2 ^ n) := hp
      clear hp hx hy h1
      go_enter Try.func20, Try.ntmps20
      go_wp2_with (first
        | (go_at_call 24; refine (isDomain_any _ _ hd).mono ?_; rintro e w' ⟨rfl, rfl⟩)
        | (go_at_call 14; refine (has_any t _ _ ht hh).mono ?_; rintro e w' ⟨rfl, rfl⟩)
        | (go_at_call 25; refine (bit_any n p _ hn HP.out).mono ?_; rintro e w' ⟨rfl, rfl⟩))
      go_ret2
      exact ⟨rfl, rfl⟩
    · have hh : hasB t (n : Int) = true := by simp [hasB, h1, hd]
      obtain rfl : x = 0 := by rw [← hx]; simp [addT, h1]
      obtain rfl : y = 6 := by rw [← hy]; simp [addE, hd, h1]
      clear hx hy h1
      go_enter Try.func20, Try.ntmps20
      go_wp2_with (first
        | (go_at_call 24; refine (isDomain_any _ _ hd).mono ?_; rintro e w' ⟨rfl, rfl⟩)
        | (go_at_call 14; refine (has_any t _ _ ht hh).mono ?_; rintro e w' ⟨rfl, rfl⟩))
      go_ret2
      exact ⟨rfl, rfl⟩

theorem refAdd_any (t : Nat) (d : Int) (w : World) (ht : t < 65536) {x y : Nat} (hx : addT t d = x) (hy : addE t d = y) :
    Calls Try.prog 21 #[.int .u16 (t : Int), .int .i64 d] w fun e w' => e = .returned (.tuple #[.int .u16 (x : Int), .int .i64 (y : Int)]) ∧ w' = w := by
  cases hd : domB d
  · obtain rfl : x = 0 := by rw [← hx]; simp [addT, hd]
    obtain rfl : y = 1 := by rw [← hy]; simp [addE, hd]
    clear hx hy
    go_enter Try.func21, Try.ntmps21
    go_wp2_with (go_at_call 26; refine (refIs_any _ _ hd).mono ?_; rintro e w' ⟨rfl, rfl⟩)
    go_ret2
    exact ⟨rfl, rfl⟩
  · have h01 := domB_iff.1 hd
    obtain ⟨n, rfl⟩ := Int.eq_ofNat_of_zero_le h01.1
    have hn : n < 16 := by omega
    clear h01
    cases h1 : t.testBit n
    · have hh : hasB t (n : Int) = false := by simp [hasB, h1]
      obtain ⟨p, hp⟩ : ∃ p, p = 2 ^ n := ⟨_, rfl⟩
      have hb := pow_bd hn
      rw [← hp] at hb
      obtain rfl : y = 0 := by rw [← hy]; simp [addE, hd, h1]
      have hq : (t : Int) + (p : Int) = (x : Int) := by
        have := or_sum ht hn h1
        rw [← hp] at this
        rw [← hx, addT, if_pos hd]
        simp [h1]
        rw [← hp, ← this]
        omega
      have hx2 : x < 65536 := by rw [← hx]; exact addT_lt ht _
      have HP : Hid (p = 2 ^ n) := hp
      clear hp hx hy h1
      go_enter Try.func21, Try.ntmps21
      go_wp2_with (first
        | (go_at_call 26; refine (refIs_any _ _ hd).mono ?_; rintro e w' ⟨rfl, rfl⟩)
        | (go_at_call 15; refine (refHas_any t _ _ ht hh).mono ?_; rintro e w' ⟨rfl, rfl⟩)
        | (go_at_call 27; refine (refBit_any n p _ hn HP.out).mono ?_; rintro e w' ⟨rfl, rfl⟩))
      go_ret2
      exact ⟨rfl, rfl⟩
    · have hh : hasB t (n : Int) = true := by simp [hasB, h1, hd]
      obtain rfl : x = 0 := by rw [← hx]; simp [addT, h1]
      obtain rfl : y = 6 := by rw [← hy]; simp [addE, hd, h1]
      clear hx hy h1
      go_enter Try.func21, Try.ntmps21
      go_wp2_with (first
        | (go_at_call 26; refine (refIs_any _ _ hd).mono ?_; rintro e w' ⟨rfl, rfl⟩)
        | (go_at_call 15; refine (refHas_any t _ _ ht hh).mono ?_; rintro e w' ⟨rfl, rfl⟩))
      go_ret2
      exact ⟨rfl, rfl⟩
end Go.Proofs.Ytgkfiblmedihjaa
