/- The document's way to read a text: numbers parted by what is no digit. No program is named here. -/
import Derived.Test.YtapoajplmejjcaaDoorMatg
namespace Go.Proofs.YtapoajplmejjcaaDoor
open Go.Lib

/-- The numbers of a text, parted by what is no digit. -/
def splitN : List UInt8 → List Nat → Nat → List Nat
  | [], acc, x => acc ++ [x]
  | c :: r, acc, x => if 48 ≤ c.toNat ∧ c.toNat ≤ 57 then splitN r acc (10 * x + (c.toNat - 48)) else splitN r (acc ++ [x]) 0

theorem split_digits (rest : List UInt8) : ∀ (ds : List UInt8) (acc : List Nat) (x : Nat), (∀ c ∈ ds, isD c) → splitN (ds ++ rest) acc x = splitN rest acc (val x ds)
  | [], acc, x, _ => rfl
  | c :: ds, acc, x, h => by
    rw [List.cons_append, splitN, if_pos (show 48 ≤ c.toNat ∧ c.toNat ≤ 57 from h c (by simp)), split_digits rest ds acc _ (fun d hd => h d (by simp [hd])), val_cons]
theorem split_sep (k : Nat) (rest : List UInt8) (acc : List Nat) (v : Nat) : splitN (decDigits v ++ sepU k :: rest) acc 0 = splitN rest (acc ++ [v]) 0 := by
  have h : ¬ isD (sepU k) := noD_sep k []
  rw [split_digits _ _ _ _ (dec_isD v), dec_val, splitN, if_neg (show ¬ (48 ≤ (sepU k).toNat ∧ (sepU k).toNat ≤ 57) from h)]
theorem split_last (acc : List Nat) (v : Nat) : splitN (decDigits v) acc 0 = acc ++ [v] := by
  have := split_digits [] (decDigits v) acc 0 (dec_isD v)
  rw [List.append_nil] at this
  rw [this, dec_val, splitN]
theorem split_tail (a b : Nat) : splitN (tailS a b 4) [] 0 = [byN a 0, byN a 1, byN a 2, byN a 3, b] := by
  simp only [tailS, split_sep, split_last]
  rfl
theorem byN_join (a : Nat) (h : a < 4294967296) : byN a 0 * 16777216 + byN a 1 * 65536 + byN a 2 * 256 + byN a 3 = a := by
  simp only [byN, Nat.sub_zero, Nat.reduceSub, Nat.reduceMul, Nat.reducePow]
  omega
theorem byN_le (a k : Nat) : byN a k ≤ 255 := by unfold byN; omega
theorem dec_le3 (u : Nat) (h : u < 1000) : (decDigits u).length ≤ 3 := by
  by_cases h1 : u < 10
  · rw [decDigits_one h1]; simp
  · by_cases h2 : u < 100
    · rw [decDigits_two h1 h2]; simp
    · rw [decDigits, dif_neg h1, decDigits_two (by omega) (by omega)]; simp
theorem dec_le2 (u : Nat) (h : u < 100) : (decDigits u).length ≤ 2 := by
  by_cases h1 : u < 10
  · rw [decDigits_one h1]; simp
  · rw [decDigits_two h1 h]; simp
theorem tail_len (a b : Nat) (hb : b ≤ 32) : (tailS a b 4).length ≤ 18 := by
  have h0 := dec_le3 (byN a 0) (by have := byN_le a 0; omega)
  have h1 := dec_le3 (byN a 1) (by have := byN_le a 1; omega)
  have h2 := dec_le3 (byN a 2) (by have := byN_le a 2; omega)
  have h3 := dec_le3 (byN a 3) (by have := byN_le a 3; omega)
  have h4 := dec_le2 b (by omega)
  simp only [tailS, List.length_append, List.length_cons, Nat.sub_zero, Nat.reduceSub]
  omega

/-- A text that is a prefix's, read by the document. -/
theorem ref_yes {L : List UInt8} {A B : Nat} (h : parseF L = some (A, B)) :
    L.length ≤ 18 ∧ splitN L [] 0 = [byN A 0, byN A 1, byN A 2, byN A 3, B] ∧ A < 4294967296 ∧ B ≤ 32 ∧ mayB (A : Int) (B : Int) = true ∧ showL (A : Int) (B : Int) = L := by
  obtain ⟨h1, h2, h3, h4⟩ := show_parse h
  have e : L = tailS A B 4 := by rw [← h1, showL_tail]
  exact ⟨by rw [e]; exact tail_len A B h4, by rw [e]; exact split_tail A B, h3, h4, h2, h1⟩
/-- A text that is none's is nobody's text. -/
theorem ref_no {L : List UInt8} (h : parseF L = none) (A B : Nat) (hA : A < 4294967296) (hm : mayB (A : Int) (B : Int) = true) : showL (A : Int) (B : Int) ≠ L := by
  intro e
  have := parse_show A B hA hm
  rw [e, h] at this
  cases this

theorem split_step {s : ByteArray} {k x : Nat} {acc : List Nat} (h : k < s.size) (h0 : 48 ≤ (s[k].toNat : Int)) (h1 : (s[k].toNat : Int) ≤ 57) :
    splitN (s.data.toList.drop k) acc x = splitN (s.data.toList.drop (k + 1)) acc (10 * x + (s[k].toNat - 48)) := by
  rw [bytes_at s k h, splitN, if_pos (by omega)]
theorem split_cut {s : ByteArray} {k x : Nat} {acc : List Nat} (h : k < s.size) (h0 : ¬ (48 ≤ (s[k].toNat : Int) ∧ (s[k].toNat : Int) ≤ 57)) :
    splitN (s.data.toList.drop k) acc x = splitN (s.data.toList.drop (k + 1)) (acc ++ [x]) 0 := by
  rw [bytes_at s k h, splitN, if_neg (by omega)]
theorem split_end {s : ByteArray} {x : Nat} {acc : List Nat} : splitN (s.data.toList.drop s.size) acc x = acc ++ [x] := by rw [bytes_end, splitN]
theorem pow_bd (k : Nat) (h : k ≤ 17) : 10 ^ k ≤ 100000000000000000 := Nat.pow_le_pow_right (n := 10) (i := k) (j := 17) (by omega) h
end Go.Proofs.YtapoajplmejjcaaDoor
