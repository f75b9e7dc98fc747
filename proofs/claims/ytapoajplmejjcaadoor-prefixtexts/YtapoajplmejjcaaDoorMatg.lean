/- A prefix comes back from its text, and a text from its prefix. No program is named here. -/
import Derived.Test.YtapoajplmejjcaaDoorMatf
namespace Go.Proofs.YtapoajplmejjcaaDoor
open Go.Lib

/-- The k-th byte of an address, as a number without a sign. -/
def byN (a k : Nat) : Nat := a / 2 ^ (8 * (3 - k)) % 256
/-- What stands of a prefix's text when so many bytes are still to come. -/
def tailS (a b : Nat) : Nat → List UInt8
  | 0 => decDigits b
  | r + 1 => decDigits (byN a (3 - r)) ++ sepU (3 - r) :: tailS a b r

theorem byN_int (a k : Nat) : byteI (a : Int) k = (byN a k : Nat) := by unfold byteI byN; omega
theorem itoa_nat (n : Nat) : itoa (n : Int) = decDigits n := by unfold itoa; rw [if_neg (by omega)]; rfl
theorem showL_tail (a b : Nat) : showL (a : Int) (b : Int) = tailS a b 4 := by
  simp only [showL, showP, tailS, byN_int, itoa_nat]
  simp
theorem noD_sep (k : Nat) (l : List UInt8) : noD (sepU k :: l) := by
  show ¬ isD (sepU k)
  unfold sepU
  split <;> (unfold isD; decide)
theorem byN_step (a r : Nat) (hr : r < 4) : a / 2 ^ (8 * r) = a / 2 ^ (8 * (r + 1)) * 256 + byN a (3 - r) := by
  unfold byN
  rw [show 3 - (3 - r) = r by omega, show 8 * (r + 1) = 8 * r + 8 by omega, Nat.pow_add, ← Nat.div_div_eq_div_mul]
  generalize a / 2 ^ (8 * r) = q
  omega

/-- Parse of what is left of a text. -/
theorem parse_tail (L : List UInt8) (a b : Nat) (hb : b ≤ 32) (hm : mayB (a : Int) (b : Int) = true) :
    ∀ (r p : Nat), r ≤ 4 → p ≤ L.length → L.drop p = tailS a b r → parseG L r p (a / 2 ^ (8 * r)) = some (a, b)
  | 0, p, _, hp, h => by
    have hn := num_read (l := L) (rest := []) (p := p) (most := 32) (v := b) (by rw [h, tailS, List.append_nil]) trivial hb
    have hl := congrArg List.length h
    rw [List.length_drop, tailS] at hl
    rw [Nat.mul_zero, Nat.pow_zero, Nat.div_one]
    exact par0_on hn ⟨by omega, hm⟩
  | r + 1, p, hr, hp, h => by
    rw [tailS] at h
    have hn := num_read (l := L) (p := p) (most := 255) h (noD_sep _ _) (by unfold byN; omega)
    have hl := congrArg List.length h
    rw [List.length_drop, List.length_append, List.length_cons] at hl
    have hd : L.drop (p + (decDigits (byN a (3 - r))).length) = sepU (3 - r) :: tailS a b r := by
      rw [← List.drop_drop, h, List.drop_left]
    have hget : L[p + (decDigits (byN a (3 - r))).length]? = some (sepU (3 - r)) := by rw [← List.head?_drop, hd]; rfl
    rw [parG_on hn ⟨by omega, by rw [hget]; rfl⟩, ← byN_step a r (by omega)]
    refine parse_tail L a b hb hm r _ (by omega) (by omega) ?_
    rw [← List.drop_drop, hd]
    rfl
theorem parse_show (a b : Nat) (ha : a < 4294967296) (hm : mayB (a : Int) (b : Int) = true) : parseF (showL (a : Int) (b : Int)) = some (a, b) := by
  have hb : b ≤ 32 := by rw [mayB, decide_eq_true_eq] at hm; omega
  rw [showL_tail]
  have := parse_tail (tailS a b 4) a b hb hm 4 0 (Nat.le_refl _) (Nat.zero_le _) rfl
  rw [show a / 2 ^ (8 * 4) = 0 from Nat.div_eq_of_lt ha] at this
  exact this

/-- What was parsed is the text. -/
theorem tail_parse (L : List UInt8) : ∀ (r p addr A B : Nat), r ≤ 4 → p ≤ L.length → parseG L r p addr = some (A, B) →
    A / 2 ^ (8 * r) = addr ∧ L.drop p = tailS A B r ∧ mayB (A : Int) (B : Int) = true ∧ B ≤ 32
  | 0, p, addr, A, B, _, hp, h => by
    rw [parseG] at h
    cases hn : numR L p 32 with
    | none => rw [hn] at h; cases h
    | some q =>
      obtain ⟨v, e⟩ := q
      rw [hn] at h
      simp only [] at h
      split at h
      · rename_i hc
        simp only [Option.some.injEq, Prod.mk.injEq] at h
        obtain ⟨rfl, rfl⟩ := h
        have hd := num_parts hn
        have hle := numR_le hp hn
        rw [hc.1, List.drop_length, List.append_nil] at hd
        exact ⟨by simp, hd, hc.2, hle.2⟩
      · cases h
  | r + 1, p, addr, A, B, hr, hp, h => by
    rw [parseG] at h
    cases hn : numR L p 255 with
    | none => rw [hn] at h; cases h
    | some q =>
      obtain ⟨v, e⟩ := q
      rw [hn] at h
      simp only [] at h
      split at h
      · rename_i hc
        obtain ⟨i1, i2, i3, i4⟩ := tail_parse L r (e + 1) _ A B (by omega) (by omega) h
        have hd := num_parts hn
        have hle := numR_le hp hn
        have hs := byN_step A r (by omega)
        have hb : byN A (3 - r) < 256 := by unfold byN; omega
        have e1 : byN A (3 - r) = v := by omega
        refine ⟨by omega, ?_, i3, i4⟩
        rw [hd, tailS, e1, drop_cons L e hc.1, i2]
        have : L[e] = sepU (3 - r) := by have := hc.2; rw [List.getElem?_eq_getElem hc.1] at this; simpa using this
        rw [this]
      · cases h
theorem show_parse {L : List UInt8} {A B : Nat} (h : parseF L = some (A, B)) : showL (A : Int) (B : Int) = L ∧ mayB (A : Int) (B : Int) = true ∧ A < 4294967296 ∧ B ≤ 32 := by
  obtain ⟨i1, i2, i3, i4⟩ := tail_parse L 4 0 0 A B (Nat.le_refl _) (Nat.zero_le _) h
  refine ⟨by rw [showL_tail, ← i2]; rfl, i3, ?_, i4⟩
  have : A / 4294967296 = 0 := i1
  omega
end Go.Proofs.YtapoajplmejjcaaDoor
