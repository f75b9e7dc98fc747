/- Reading a number's digits: the pure functions. No program is named here. -/
import Derived.Test.YtapoajplmejjcaaDoorMatb
namespace Go.Proofs.YtapoajplmejjcaaDoor
open Go.Lib

/-- The digits at the head of a text: the number and how many there are; none, if the number goes above most. -/
def scanD (most : Nat) : List UInt8 → Nat → Option (Nat × Nat)
  | [], n => some (n, 0)
  | c :: r, n => if 48 ≤ c.toNat ∧ c.toNat ≤ 57 then (if most < 10 * n + (c.toNat - 48) then none else (scanD most r (10 * n + (c.toNat - 48))).map fun p => (p.1, p.2 + 1)) else some (n, 0)
/-- The number whose digits begin at a place, and the place behind them. -/
def numR (l : List UInt8) (at_ most : Nat) : Option (Nat × Nat) :=
  match scanD most (l.drop at_) 0 with
  | none => none
  | some (v, k) => if k = 0 ∨ (1 < k ∧ l[at_]?.getD 0 = 48) then none else some (v, at_ + k)
def numV (l : List UInt8) (a m : Nat) : Int := (((numR l a m).map (·.1)).getD 0 : Nat)
def numE (l : List UInt8) (a m : Nat) : Int := (((numR l a m).map (·.2)).getD 0 : Nat)
def numB (l : List UInt8) (a m : Nat) : Bool := (numR l a m).isSome

theorem scanD_shift (p : Option (Nat × Nat)) (i j : Nat) : (p.map fun q => (q.1, q.2 + i)).map (fun q => (q.1, q.2 + j)) = p.map fun q => (q.1, q.2 + (j + i)) := by
  cases p with
  | none => rfl
  | some q => simp; omega
theorem drop_cons (l : List UInt8) (e : Nat) (h : e < l.length) : l.drop e = l[e] :: l.drop (e + 1) := List.drop_eq_getElem_cons h
theorem bytes_at (s : ByteArray) (k : Nat) (h : k < s.size) : s.data.toList.drop k = s[k] :: s.data.toList.drop (k + 1) := drop_cons s.data.toList k h
theorem bytes_getD (s : ByteArray) (k : Nat) (h : k < s.size) : s.data.toList[k]?.getD 0 = s[k] := by
  rw [List.getElem?_eq_getElem (show k < s.data.toList.length from h)]
  rfl
theorem bytes_end (s : ByteArray) : s.data.toList.drop s.size = [] := List.drop_of_length_le (Nat.le_refl _)

theorem scan_big {s : ByteArray} {k x most : Nat} (h : k < s.size) (h0 : 48 ≤ (s[k].toNat : Int)) (h1 : (s[k].toNat : Int) ≤ 57) (hb : (most : Int) < 10 * x + ((s[k].toNat : Int) - 48)) :
    scanD most (s.data.toList.drop k) x = none := by
  rw [bytes_at s k h, scanD, if_pos (by omega), if_pos (by omega)]
theorem scan_step {s : ByteArray} {k x most : Nat} (h : k < s.size) (h0 : 48 ≤ (s[k].toNat : Int)) (h1 : (s[k].toNat : Int) ≤ 57) (hb : ¬ (most : Int) < 10 * x + ((s[k].toNat : Int) - 48)) :
    scanD most (s.data.toList.drop k) x = (scanD most (s.data.toList.drop (k + 1)) (10 * x + (s[k].toNat - 48))).map fun p => (p.1, p.2 + 1) := by
  rw [bytes_at s k h, scanD, if_pos (by omega), if_neg (by omega)]
theorem scan_stop {s : ByteArray} {k x most : Nat} (h : k < s.size) (h0 : ¬ (48 ≤ (s[k].toNat : Int) ∧ (s[k].toNat : Int) ≤ 57)) :
    scanD most (s.data.toList.drop k) x = some (x, 0) := by
  rw [bytes_at s k h, scanD, if_neg (by omega)]
theorem scan_end {s : ByteArray} {x most : Nat} : scanD most (s.data.toList.drop s.size) x = some (x, 0) := by rw [bytes_end, scanD]

theorem num_none {l : List UInt8} {a most : Nat} (h : scanD most (l.drop a) 0 = none) : numV l a most = 0 ∧ numE l a most = 0 ∧ numB l a most = false := by
  simp [numV, numE, numB, numR, h]
theorem num_bad {l : List UInt8} {a most x j : Nat} (h : scanD most (l.drop a) 0 = some (x, j)) (hb : j = 0 ∨ (1 < j ∧ l[a]?.getD 0 = 48)) : numV l a most = 0 ∧ numE l a most = 0 ∧ numB l a most = false := by
  have e : numR l a most = none := by unfold numR; rw [h]; simp only []; rw [if_pos hb]
  simp [numV, numE, numB, e]
theorem num_good {l : List UInt8} {a most x j : Nat} (h : scanD most (l.drop a) 0 = some (x, j)) (hb : ¬ (j = 0 ∨ (1 < j ∧ l[a]?.getD 0 = 48))) : numV l a most = x ∧ numE l a most = ((a + j : Nat) : Int) ∧ numB l a most = true := by
  have e : numR l a most = some (x, a + j) := by unfold numR; rw [h]; simp only []; rw [if_neg hb]
  simp [numV, numE, numB, e]
theorem u8_is {c : UInt8} {n : UInt8} (h : c = n) : ((c.toNat : Int) == (n.toNat : Int)) = true := by simp [h]
theorem u8_not {c : UInt8} {n : UInt8} (h : ¬ c = n) : ((c.toNat : Int) == (n.toNat : Int)) = false := by
  rw [beq_eq_false_iff_ne]
  intro e
  exact h (UInt8.toNat_inj.1 (by omega))
end Go.Proofs.YtapoajplmejjcaaDoor
