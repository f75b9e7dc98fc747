/- Rules of a filter: which fits, which is the first; plain mathematics. No program is named here. -/
import Derived.Test.YtmmhnpekbfmonaaFilT
import Derived.WalkKit
namespace Go.Proofs.Ytmmhnpekbfmonaa

structure Ru where
  m : Bool
  a : Int
  l : Int
  g : Int
  e : Int
  h : Int
  n : Int
deriving DecidableEq
/-- The first k domains: all of h, none of n. -/
def fitT (h n t k : Nat) : Bool := (List.range k).all fun d => !(h.testBit d && !t.testBit d || n.testBit d && t.testBit d)
def fitR (x : Ru) (qa ql : Int) (t : Nat) : Bool := coversB x.a x.l qa ql && decide (x.g ≤ ql ∧ ql ≤ x.e) && fitT x.h.toNat x.n.toNat t 16
def fstR (qa ql : Int) (t : Nat) (L : List Ru) : Option Nat := L.findIdx? fun x => fitR x qa ql t
def perI (qa ql : Int) (t : Nat) (L : List Ru) : Int := match fstR qa ql t L with
  | some i => (i : Int)
  | none => -1
def perB (qa ql : Int) (t : Nat) (L : List Ru) : Bool := match fstR qa ql t L with
  | some i => (L[i]?.map Ru.m).getD false
  | none => false
def mayU (x : Ru) : Bool := mayB x.a x.l && decide (x.l ≤ x.g ∧ x.g ≤ x.e ∧ x.e ≤ 32)
def mayL (L : List Ru) : Bool := decide (L.length ≤ 32) && L.all mayU

theorem fitT_zero (h n t : Nat) : fitT h n t 0 = true := rfl
theorem fitT_succ (h n t k : Nat) : fitT h n t (k + 1) = (fitT h n t k && !(h.testBit k && !t.testBit k || n.testBit k && t.testBit k)) := by
  unfold fitT
  rw [List.range_succ, List.all_append]
  simp
theorem fitT_no {h n t k m : Nat} (hk : k < m) (hf : (h.testBit k && !t.testBit k || n.testBit k && t.testBit k) = true) : fitT h n t m = false := by
  rw [fitT, List.all_eq_false]
  exact ⟨k, List.mem_range.2 hk, by simp [hf]⟩
theorem fitT_iff {h n t : Nat} (hh : h < 65536) (hn : n < 65536) : fitT h n t 16 = ((t &&& h == h) && (t &&& n == 0)) := by
  rw [Bool.eq_iff_iff, fitT, List.all_eq_true, Bool.and_eq_true, beq_iff_eq, beq_iff_eq]
  constructor
  · intro H
    refine ⟨Nat.eq_of_testBit_eq fun i => ?_, Nat.eq_of_testBit_eq fun i => ?_⟩
    · by_cases hi : i < 16
      · have := H i (List.mem_range.2 hi)
        rw [Nat.testBit_and]
        cases hb : h.testBit i <;> cases ht : t.testBit i <;> simp_all
      · rw [Nat.testBit_and, high hh (by omega)]; simp
    · by_cases hi : i < 16
      · have := H i (List.mem_range.2 hi)
        rw [Nat.testBit_and]
        cases hb : n.testBit i <;> cases ht : t.testBit i <;> simp_all
      · rw [Nat.testBit_and, high hn (by omega)]; simp
  · rintro ⟨h1, h2⟩ i _
    have e1 : (t &&& h).testBit i = h.testBit i := by rw [h1]
    have e2 : (t &&& n).testBit i = false := by rw [h2]; simp
    rw [Nat.testBit_and] at e1 e2
    cases hb : h.testBit i <;> cases ht : t.testBit i <;> cases hc : n.testBit i <;> simp_all
section
variable {qa ql : Int} {t : Nat} {L : List Ru}
theorem fst_first {j : Nat} {p : Ru} (hn : ∀ i, i < j → ∀ q, L[i]? = some q → fitR q qa ql t = false) (h : L[j]? = some p) (hp : fitR p qa ql t = true) : fstR qa ql t L = some j := by
  rw [fstR, List.findIdx?_eq_some_iff_getElem]
  obtain ⟨hj, he⟩ := List.getElem?_eq_some_iff.1 h
  refine ⟨hj, by rw [he]; exact hp, fun i hi => ?_⟩
  rw [hn i hi _ (List.getElem?_eq_getElem (by omega))]
  decide
theorem fst_never (hn : ∀ i, i < L.length → ∀ q, L[i]? = some q → fitR q qa ql t = false) : fstR qa ql t L = none := by
  rw [fstR, List.findIdx?_eq_none_iff]
  intro q hq
  obtain ⟨i, hi⟩ := List.getElem?_of_mem hq
  exact hn i (List.getElem?_eq_some_iff.1 hi).1 q hi
theorem fst_some {i : Nat} (h : fstR qa ql t L = some i) : ∃ p, L[i]? = some p ∧ fitR p qa ql t = true ∧ i < L.length := by
  rw [fstR, List.findIdx?_eq_some_iff_getElem] at h
  obtain ⟨hi, hp, -⟩ := h
  exact ⟨_, List.getElem?_eq_getElem hi, hp, hi⟩
theorem per_some {i : Nat} {p : Ru} (h : fstR qa ql t L = some i) (hp : L[i]? = some p) : perI qa ql t L = (i : Int) ∧ perB qa ql t L = p.m := by
  unfold perI perB; rw [h]; simp [hp]
theorem per_none (h : fstR qa ql t L = none) : perI qa ql t L = -1 ∧ perB qa ql t L = false := by
  unfold perI perB; rw [h]; exact ⟨rfl, rfl⟩
theorem fst_app (M : List Ru) : fstR qa ql t (L ++ M) = match fstR qa ql t L with
    | some i => some i
    | none => (fstR qa ql t M).map (· + L.length) := by
  unfold fstR
  rw [List.findIdx?_append]
  cases L.findIdx? (fun x => fitR x qa ql t) <;> rfl
theorem fst_drop {i : Nat} (h : fstR qa ql t L = some i) : fstR qa ql t (L.drop i) = some 0 := by
  obtain ⟨p, hp, hf, -⟩ := fst_some h
  exact fst_first (p := p) (fun k hk => by omega) (by simpa using hp) hf
end
theorem may_no {L : List Ru} {j : Nat} {p : Ru} (h : L[j]? = some p) (hp : mayU p = false) : mayL L = false := by
  have : L.all mayU = false := List.all_eq_false.2 ⟨p, List.mem_of_getElem? h, by rw [hp]; decide⟩
  rw [mayL, this, Bool.and_false]
theorem may_long {L : List Ru} (h : 32 < L.length) : mayL L = false := by
  rw [mayL, decide_eq_false (by omega)]; rfl
theorem may_all {L : List Ru} (h : L.length ≤ 32) (hp : ∀ i, i < L.length → ∀ q, L[i]? = some q → mayU q = true) : mayL L = true := by
  rw [mayL, decide_eq_true h, Bool.true_and, List.all_eq_true]
  intro q hq
  obtain ⟨i, hi⟩ := List.getElem?_of_mem hq
  exact hp i (List.getElem?_eq_some_iff.1 hi).1 q hi
end Go.Proofs.Ytmmhnpekbfmonaa
