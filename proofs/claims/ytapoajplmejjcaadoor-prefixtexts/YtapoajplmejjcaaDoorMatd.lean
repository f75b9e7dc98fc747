/- Reading a prefix's text: the pure functions. No program is named here. -/
import Derived.Test.YtapoajplmejjcaaDoorMatc
import Derived.Test.YtapoajplmejjcaaDoorMath
namespace Go.Proofs.YtapoajplmejjcaaDoor
open Go.Lib

/-- What is left to be read: so many bytes, from a place on, behind an address so far. -/
def parseG (l : List UInt8) : Nat → Nat → Nat → Option (Nat × Nat)
  | 0, p, addr =>
    match numR l p 32 with
    | none => none
    | some (b, e) => if e = l.length ∧ mayB addr b = true then some (addr, b) else none
  | r + 1, p, addr =>
    match numR l p 255 with
    | none => none
    | some (v, e) => if e < l.length ∧ l[e]?.getD 0 = sepU (3 - r) then parseG l r (e + 1) (addr * 256 + v) else none
def parseF (l : List UInt8) : Option (Nat × Nat) := parseG l 4 0 0
def parA (l : List UInt8) : Int := (((parseF l).map (·.1)).getD 0 : Nat)
def parL (l : List UInt8) : Int := (((parseF l).map (·.2)).getD 0 : Nat)
def parE (l : List UInt8) : Int := if (parseF l).isSome then 0 else 2

theorem scanD_le (most : Nat) : ∀ (l : List UInt8) (n v k : Nat), scanD most l n = some (v, k) → k ≤ l.length ∧ (n ≤ most → v ≤ most)
  | [], n, v, k, h => by simp only [scanD, Option.some.injEq, Prod.mk.injEq] at h; simp; omega
  | c :: r, n, v, k, h => by
    rw [scanD] at h
    split at h
    · split at h
      · cases h
      · rename_i hb
        obtain ⟨⟨v', k'⟩, h', e⟩ := Option.map_eq_some_iff.1 h
        have := scanD_le most r _ _ _ h'
        simp only [Prod.mk.injEq] at e
        simp only [List.length_cons]
        exact ⟨by omega, fun _ => by have := this.2 (by omega); omega⟩
    · simp only [Option.some.injEq, Prod.mk.injEq] at h
      exact ⟨by omega, fun _ => by omega⟩
theorem numR_le {l : List UInt8} {p most v e : Nat} (hp : p ≤ l.length) (h : numR l p most = some (v, e)) : e ≤ l.length ∧ v ≤ most := by
  unfold numR at h
  cases hc : scanD most (l.drop p) 0 with
  | none => rw [hc] at h; cases h
  | some q =>
    obtain ⟨x, k⟩ := q
    rw [hc] at h
    simp only [] at h
    split at h
    · cases h
    · simp only [Option.some.injEq, Prod.mk.injEq] at h
      have := scanD_le most _ _ _ _ hc
      rw [List.length_drop] at this
      exact ⟨by omega, by have := this.2 (Nat.zero_le _); omega⟩
theorem par_none {l : List UInt8} (h : parseF l = none) : parA l = 0 ∧ parL l = 0 ∧ parE l = 2 := by simp [parA, parL, parE, h]
theorem par_some {l : List UInt8} {a b : Nat} (h : parseF l = some (a, b)) : parA l = a ∧ parL l = b ∧ parE l = 0 := by simp [parA, parL, parE, h]
theorem parG_no {l : List UInt8} {r p addr : Nat} (h : numR l p 255 = none) : parseG l (r + 1) p addr = none := by rw [parseG, h]
theorem parG_bad {l : List UInt8} {r p addr v e : Nat} (h : numR l p 255 = some (v, e)) (hb : ¬ (e < l.length ∧ l[e]?.getD 0 = sepU (3 - r))) : parseG l (r + 1) p addr = none := by rw [parseG, h]; simp only []; rw [if_neg hb]
theorem parG_on {l : List UInt8} {r p addr v e : Nat} (h : numR l p 255 = some (v, e)) (hb : e < l.length ∧ l[e]?.getD 0 = sepU (3 - r)) : parseG l (r + 1) p addr = parseG l r (e + 1) (addr * 256 + v) := by rw [parseG, h]; simp only []; rw [if_pos hb]
theorem par0_no {l : List UInt8} {p addr : Nat} (h : numR l p 32 = none) : parseG l 0 p addr = none := by rw [parseG, h]
theorem par0_bad {l : List UInt8} {p addr v e : Nat} (h : numR l p 32 = some (v, e)) (hb : ¬ (e = l.length ∧ mayB addr v = true)) : parseG l 0 p addr = none := by rw [parseG, h]; simp only []; rw [if_neg hb]
theorem par0_on {l : List UInt8} {p addr v e : Nat} (h : numR l p 32 = some (v, e)) (hb : e = l.length ∧ mayB addr v = true) : parseG l 0 p addr = some (addr, v) := by rw [parseG, h]; simp only []; rw [if_pos hb]
end Go.Proofs.YtapoajplmejjcaaDoor
