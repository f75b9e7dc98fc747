/- Contracts of the small functions of reading: Get16, Get32, get64, num2, num8, readPair, readHello, readIhu, getTag. -/
import Derived.Test.YtakikkigkmcffaaCon9
namespace Go.Proofs.Ytakikkigkmcffaa
open Go.RowKit

/-- The number of two bytes, nought where they are not there. -/
def g16 (l : List Int) (p : Nat) : Int := if p + 2 ≤ l.length then getV l p 2 else 0
def g32 (l : List Int) (p : Nat) : Int := if p + 4 ≤ l.length then getV l p 4 else 0
def g64 (l : List Int) (p : Nat) : Int := g32 l p * 4294967296 + g32 l (p + 4)
theorem g16_is {l : List Int} {p : Nat} (h : p + 2 ≤ l.length) : g16 l p = getV l p 2 := by unfold g16; rw [if_pos h]
theorem g64_is {l : List Int} {p : Nat} (h : p + 8 ≤ l.length) : g64 l p = v8 l p := by unfold g64 g32 v8; rw [if_pos (by omega), if_pos (by omega)]
theorem g16_bd {l : List Int} (h : Bytes l) (p : Nat) : 0 ≤ g16 l p ∧ g16 l p ≤ 65535 := by
  unfold g16; split
  · exact getV_h h p
  · omega
theorem g32_bd {l : List Int} (h : Bytes l) (p : Nat) : 0 ≤ g32 l p ∧ g32 l p ≤ 4294967295 := by
  unfold g32; split
  · exact getV_u h p
  · omega
theorem g64_bd {l : List Int} (h : Bytes l) (p : Nat) : 0 ≤ g64 l p ∧ g64 l p ≤ 18446744073709551615 := by
  have h1 := g32_bd h p
  have h2 := g32_bd h (p + 4)
  unfold g64; omega
section
variable (a : Option Addr) (n cap : Nat) (l : List Int) (w : World) (hr : Row8 w a n l) (hn : n ≤ 3000)
include hr hn
theorem get16_any (p : Nat) {v : Int} (hv : g16 l p = v) : Calls Try.prog 49 #[.slice a n cap, .int .i64 p] w fun e w' => e = .returned (.tuple #[.int .u16 v, .bool (decide (p + 2 ≤ n))]) ∧ w' = w := by
  subst hv
  by_cases h : p + 2 ≤ n
  · rw [g16_is (by rw [hr.1]; exact h), decide_eq_true h]
    exact get16_yes a n cap l p w hr hn h
  · have e : g16 l p = 0 := by unfold g16; rw [if_neg (by rw [hr.1]; exact h)]
    rw [e, decide_eq_false h]
    exact get16_no a n cap p w hn (.inr (by omega))
theorem get32_any (p : Nat) {v : Int} (hv : g32 l p = v) : Calls Try.prog 72 #[.slice a n cap, .int .i64 p] w fun e w' => e = .returned (.tuple #[.int .u32 v, .bool (decide (p + 4 ≤ n))]) ∧ w' = w := by
  subst hv
  by_cases h : p + 4 ≤ n
  · have e : g32 l p = getV l p 4 := by unfold g32; rw [if_pos (by rw [hr.1]; exact h)]
    rw [e, decide_eq_true h]
    exact get32_yes a n cap l p w hr hn h
  · have e : g32 l p = 0 := by unfold g32; rw [if_neg (by rw [hr.1]; exact h)]
    rw [e, decide_eq_false h]
    exact get32_no a n cap p w hn (.inr (by omega))
end
theorem or64 (x y : Int) (hx : 0 ≤ x ∧ x ≤ 4294967295) (hy : 0 ≤ y ∧ y ≤ 4294967295) : bits .or .u64 (x * 4294967296) y = x * 4294967296 + y := by
  rw [u64_or _ _ (by omega) (by omega) (by omega) (by omega)]
  have := nat_join 32 (x * 4294967296).toNat y.toNat (by omega) (by omega)
  rw [this]; omega
set_option maxHeartbeats 400000 in
theorem get64_any (a : Option Addr) (n cap : Nat) (l : List Int) (w : World) (hr : Row8 w a n l) (hn : n ≤ 3000) (p : Nat) (hp : p ≤ 1000) {v : Int} (hv : g64 l p = v) : Calls Try.prog 69 #[.slice a n cap, .int .i64 p] w fun e w' => e = .returned (.int .u64 v) ∧ w' = w := by
  subst hv
  have b1 := g32_bd hr.2.2.1 p
  have b2 := g32_bd hr.2.2.1 (p + 4)
  have HR : Hid (Row8 w a n l) := hr
  have HV : Hid (g64 l p = g32 l p * 4294967296 + g32 l (p + 4)) := rfl
  obtain ⟨x, hx⟩ : ∃ x, g32 l p = x := ⟨_, rfl⟩
  obtain ⟨y, hy⟩ : ∃ y, g32 l (p + 4) = y := ⟨_, rfl⟩
  rw [hx] at b1 HV
  rw [hy] at b2 HV
  have HX : Hid (g32 l p = x) := hx
  have HY : Hid (g32 l (p + 4) = y) := hy
  have eo := or64 x y b1 b2
  obtain ⟨x0, x1⟩ := b1
  obtain ⟨y0, y1⟩ := b2
  have HEo : Hid (bits .or .u64 (x * 4294967296) y = x * 4294967296 + y) := eo
  clear hr hx hy eo
  go_enter Try.func69, Try.ntmps69
  go_wp2_with (first
    | (go_at_call_of 72 (Value.int IntKind.i64 (p : Int)); refine (get32_any _ _ _ l _ HR.out hn p HX.out).mono ?_; rintro e w' ⟨rfl, rfl⟩)
    | (go_at_call 72; refine (get32_any _ _ _ l _ HR.out hn (p + 4) HY.out).mono ?_; rintro e w' ⟨rfl, rfl⟩))
  go_ret
  exact ⟨ret_int (by rw [HV.out, ← HEo.out]), rfl⟩
set_option maxHeartbeats 400000 in
theorem readPair_any (a : Option Addr) (n cap : Nat) (l : List Int) (w : World) (hr : Row8 w a n l) (hn : n ≤ 3000) {x y : Int} (hx : g16 l 2 = x) (hy : g16 l 4 = y) {v : Bool} (hv : pairB l = v) :
    Calls Try.prog 68 #[.slice a n cap] w fun e w' => e = .returned (.tuple #[.int .u16 x, .int .u16 y, .bool v]) ∧ w' = w := by
  have HR : Hid (Row8 w a n l) := hr
  have HL : Hid (l.length = n) := hr.1
  have HX : Hid (g16 l 2 = x) := hx
  have HY : Hid (g16 l 4 = y) := hy
  obtain ⟨z, hz⟩ : ∃ z, g16 l 0 = z := ⟨_, rfl⟩
  have HZ : Hid (g16 l 0 = z) := hz
  have HV : Hid (v = (decide (n = 6) && z == 0)) := by
    unfold Hid; rw [← hv, ← hz]; unfold pairB
    rw [HL.out]
    by_cases h6 : n = 6
    · rw [g16_is (by rw [HL.out]; omega)]
    · simp [h6]
  clear hr hx hy hz hv
  by_cases h6 : n = 6
  · subst h6
    go_enter Try.func68, Try.ntmps68
    go_wp2_with (first
      | (go_at_call_of 49 (Value.int IntKind.i64 0); refine (get16_any _ _ _ l _ HR.out hn 0 HZ.out).mono ?_; rintro e w' ⟨rfl, rfl⟩)
      | (go_at_call_of 49 (Value.int IntKind.i64 2); refine (get16_any _ _ _ l _ HR.out hn 2 HX.out).mono ?_; rintro e w' ⟨rfl, rfl⟩)
      | (go_at_call_of 49 (Value.int IntKind.i64 4); refine (get16_any _ _ _ l _ HR.out hn 4 HY.out).mono ?_; rintro e w' ⟨rfl, rfl⟩))
    go_ret3
    exact ⟨by rw [HV.out]; rfl, rfl⟩
  · have e6 : ((n : Int) == 6) = false := by rw [beq_eq_false_iff_ne]; omega
    have HV' : Hid (v = false) := by unfold Hid; rw [HV.out]; simp [h6]
    clear HV h6
    go_enter Try.func68, Try.ntmps68
    go_wp2_with (first
      | (go_at_call_of 49 (Value.int IntKind.i64 0); refine (get16_any _ _ _ l _ HR.out hn 0 HZ.out).mono ?_; rintro e w' ⟨rfl, rfl⟩)
      | (go_at_call_of 49 (Value.int IntKind.i64 2); refine (get16_any _ _ _ l _ HR.out hn 2 HX.out).mono ?_; rintro e w' ⟨rfl, rfl⟩)
      | (go_at_call_of 49 (Value.int IntKind.i64 4); refine (get16_any _ _ _ l _ HR.out hn 4 HY.out).mono ?_; rintro e w' ⟨rfl, rfl⟩))
    go_ret3
    exact ⟨by rw [HV'.out]; rfl, rfl⟩
end Go.Proofs.Ytakikkigkmcffaa
