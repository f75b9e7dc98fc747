/- The sixteen bits as one number: a bit that comes in, bits that are lost, the first three. No program is named here. -/
import Derived.Test.YtenkghcdhanciaaMatG
namespace Go.Proofs.Ytenkghcdhanciaa

theorem foldN : ∀ (l : List Bool) (a : Int), l.foldl (fun n b => n * 2 + bitN b) a = a * 2 ^ l.length + numN l
  | [], a => by simp [numN]
  | b :: l, a => by
    show l.foldl _ (a * 2 + bitN b) = _
    have h0 : numN (b :: l) = l.foldl (fun n b => n * 2 + bitN b) (0 * 2 + bitN b) := rfl
    rw [h0, foldN l (a * 2 + bitN b), foldN l (0 * 2 + bitN b), List.length_cons, Int.pow_succ, Int.add_mul, Int.add_mul, Int.zero_mul, Int.zero_mul, Int.zero_add, Int.mul_assoc, Int.mul_comm 2, Int.add_assoc]
theorem numN_app (l m : List Bool) : numN (l ++ m) = numN l * 2 ^ m.length + numN m := by
  show (l ++ m).foldl _ 0 = _
  rw [List.foldl_append, foldN m]
  rfl
theorem numN_zeros : ∀ k : Nat, numN (List.replicate k false) = 0
  | 0 => rfl
  | k + 1 => by
    have h : List.replicate (k + 1) false = [false] ++ List.replicate k false := rfl
    rw [h, numN_app, numN_zeros k]
    simp [numN, bitN]
theorem numN_bounds (l : List Bool) : 0 ≤ numN l ∧ numN l < 2 ^ l.length := by
  have := numN_lt l.length (l := l) (Nat.le_refl _)
  rwa [List.take_length] at this
theorem numN16 {l : List Bool} (h : l.length = 16) : 0 ≤ numN l ∧ numN l < 65536 := by
  have := numN_bounds l
  rw [h] at this
  exact this
/-- A bit comes in. -/
theorem numN_in {h : List Bool} (hl : h.length = 16) (b : Bool) : numN (inN b h) = bitN b * 32768 + numN h / 2 := by
  obtain ⟨c, hc⟩ : ∃ c, h[15]? = some c := ⟨_, List.getElem?_eq_getElem (by omega)⟩
  have h1 := numN_take hc
  rw [show 15 + 1 = h.length by omega, List.take_length] at h1
  have h2 : numN (inN b h) = numN [b] * 2 ^ (h.take 15).length + numN (h.take 15) := numN_app [b] (h.take 15)
  have h3 : (h.take 15).length = 15 := by simp [hl]
  rw [h3] at h2
  have hb : numN [b] = bitN b := by simp [numN]
  rw [h2, hb, h1]
  have := bitN_le c
  have h4 : (2 : Int) ^ 15 = 32768 := by decide
  rw [h4]
  omega
theorem numN_in0 {h : List Bool} (hl : h.length = 16) : numN (inN false h) = numN h / 2 := by
  rw [numN_in hl]; simp [bitN]
theorem numN_in1 {h : List Bool} (hl : h.length = 16) : numN (inN true h) = 32768 + numN h / 2 := by
  rw [numN_in hl]; simp [bitN]
/-- Noughts come in. -/
theorem numN_down : ∀ (k : Nat) {h : List Bool}, h.length = 16 → numN (downN k h) = numN h / 2 ^ k
  | 0, h, _ => by simp [downN]
  | k + 1, h, hl => by
    show numN (downN k (inN false h)) = _
    rw [numN_down k (inN_len hl), numN_in0 hl, Int.pow_succ, Int.mul_comm, Int.ediv_ediv_of_nonneg (by decide)]
theorem downN_far {k : Nat} {h : List Bool} (hl : h.length = 16) (hk : 16 ≤ k) : numN (downN k h) = 0 := by
  rw [numN_down k hl]
  have h1 := numN16 hl
  have h2 : (2 : Int) ^ 16 ≤ 2 ^ k := by
    have : (2 : Nat) ^ 16 ≤ 2 ^ k := Nat.pow_le_pow_right (by decide) hk
    exact_mod_cast this
  have h3 : (2 : Int) ^ 16 = 65536 := by decide
  exact Int.ediv_eq_zero_of_lt h1.1 (by omega)
/-- The first bits are lost. -/
theorem upN_eq (k : Nat) {h : List Bool} (hl : h.length = 16) : upN k h = (h ++ List.replicate k false).drop k := by
  unfold upN
  exact List.take_of_length_le (by simp [hl])
theorem numN_up (k : Nat) {h : List Bool} (hl : h.length = 16) : numN (upN k h) = numN h * 2 ^ k % 65536 := by
  rw [upN_eq k hl]
  have h1 : numN (h ++ List.replicate k false) = numN h * 2 ^ k := by
    rw [numN_app, numN_zeros, List.length_replicate, Int.add_zero]
  have h2 := numN_app ((h ++ List.replicate k false).take k) ((h ++ List.replicate k false).drop k)
  rw [List.take_append_drop, h1] at h2
  have h3 : ((h ++ List.replicate k false).drop k).length = 16 := by simp [hl]
  have h4 := numN16 h3
  rw [h3, show (2 : Int) ^ 16 = 65536 by decide] at h2
  omega
/-- One bit is lost. -/
theorem upN_succ (k : Nat) {h : List Bool} (hl : h.length = 16) : upN (k + 1) h = upN 1 (upN k h) := by
  have e : (h ++ List.replicate (k + 1) false) = (h ++ List.replicate k false) ++ List.replicate 1 false := by
    rw [List.append_assoc, List.replicate_append_replicate]
  rw [upN_eq (k + 1) hl, upN_eq k hl, upN_eq 1 (by simp [hl]), e, List.drop_append_of_le_length (l₁ := h ++ List.replicate k false) (by simp [hl]; omega), ← List.drop_drop,
    List.drop_append_of_le_length (l₁ := (h ++ List.replicate k false).drop k) (by simp [hl])]
theorem upN_zero {h : List Bool} (hl : h.length = 16) : upN 0 h = h := by
  rw [upN_eq 0 hl]; simp
/-- The bit at place j of the number. -/
theorem numN_bit {h : List Bool} (hl : h.length = 16) {j : Nat} {b : Bool} (hj : h[j]? = some b) : numN h / 2 ^ (15 - j) % 2 = bitN b := by
  have hlt : j < 16 := by
    have := (List.getElem?_eq_some_iff.1 hj).1
    omega
  have h1 := numN_app (h.take (j + 1)) (h.drop (j + 1))
  rw [List.take_append_drop, numN_take hj] at h1
  have h2 : (h.drop (j + 1)).length = 15 - j := by simp only [List.length_drop, hl]; omega
  have h3 := numN_bounds (h.drop (j + 1))
  rw [h2] at h1 h3
  rw [h1, Int.add_comm, Int.add_mul_ediv_right _ _ (by exact Int.ne_of_gt (Int.pow_pos (by decide))), Int.ediv_eq_zero_of_lt h3.1 h3.2]
  have := bitN_le b
  omega
/-- How many of the first three bits are there. -/
theorem firstN_num {h : List Bool} (hl : h.length = 16) : firstN h = numN h / 32768 % 2 + numN h / 16384 % 2 + numN h / 8192 % 2 := by
  obtain ⟨b0, b1, b2, b3, b4, b5, b6, b7, b8, b9, b10, b11, b12, b13, b14, b15, rfl⟩ := len16 hl
  have h0 := numN_bit hl (j := 0) (b := b0) rfl
  have h1 := numN_bit hl (j := 1) (b := b1) rfl
  have h2 := numN_bit hl (j := 2) (b := b2) rfl
  rw [show (2 : Int) ^ (15 - 0) = 32768 by decide] at h0
  rw [show (2 : Int) ^ (15 - 1) = 16384 by decide] at h1
  rw [show (2 : Int) ^ (15 - 2) = 8192 by decide] at h2
  rw [h0, h1, h2]
  simp [firstN]
/-- The first three bits as one number. -/
theorem top3 {h : List Bool} (hl : h.length = 16) : ∃ q : Int, numN h / 8192 = q ∧ 0 ≤ q ∧ q < 8 ∧ (firstN h < 2 ↔ q = 0 ∨ q = 1 ∨ q = 2 ∨ q = 4) := by
  refine ⟨_, rfl, ?_, ?_, ?_⟩
  · have := numN16 hl; omega
  · have := numN16 hl; omega
  · have := numN16 hl
    rw [firstN_num hl]
    omega
end Go.Proofs.Ytenkghcdhanciaa
