/- Prefixes and what they have, as a list in order: the pure functions of the document's trie, and what follows. No program is named here. -/
import Derived.Test.YtcabeclbdjfoaaaMat2
namespace Go.Proofs.Ytcabeclbdjfoaaa

/-- A prefix (address, length) and what it has. -/
structure Pr where
  a : Int
  l : Int
  n : Int
deriving DecidableEq
def Pr.is (p : Pr) (a l : Int) : Bool := p.a == a && p.l == l
theorem Pr.is_iff {p : Pr} {a l : Int} : p.is a l = true ↔ p.a = a ∧ p.l = l := by simp [Pr.is]
/-- The place of a prefix. -/
def fAt (a l : Int) : List Pr → Option Nat
  | [] => none
  | p :: L => if p.is a l = true then some 0 else (fAt a l L).map (· + 1)
def insP (q : Pr) : List Pr → List Pr
  | [] => [q]
  | p :: L => if lessB q.a q.l p.a p.l = true then q :: p :: L else p :: insP q L
def putX (most : Int) (L : List Pr) (a l : Int) : Int := if mayB a l = false then 1 else if (fAt a l L).isSome = true then 0 else if most ≤ (L.length : Int) then 4 else 0
def putL (most : Int) (L : List Pr) (a l n : Int) : List Pr :=
  if mayB a l = false then L else match fAt a l L with
    | some i => L.set i ⟨a, l, n⟩
    | none => if most ≤ (L.length : Int) then L else insP ⟨a, l, n⟩ L
def takeX (L : List Pr) (a l : Int) : Int := if (fAt a l L).isSome = true then 0 else 5
def takeL (L : List Pr) (a l : Int) : List Pr := match fAt a l L with
  | some i => L.eraseIdx i
  | none => L
def getP (L : List Pr) (a l : Int) : Option Pr := L.find? fun p => p.is a l
def better (x : Int) (p : Pr) (b : Option Pr) : Bool := hasB p.a p.l x && (match b with | none => true | some q => decide (q.l < p.l))
def findP (x : Int) : List Pr → Option Pr → Option Pr
  | [], b => b
  | p :: L, b => findP x L (if better x p b = true then some p else b)
/-- In order; all may be. -/
def Srt (L : List Pr) : Prop := L.Pairwise fun p q => lessB p.a p.l q.a q.l = true
structure GoodP (L : List Pr) : Prop where
  s : Srt L
  m : ∀ p ∈ L, mayB p.a p.l = true
  u : ∀ p ∈ L, 0 ≤ p.a ∧ p.a < 4294967296
  n : ∀ p ∈ L, -9223372036854775808 ≤ p.n ∧ p.n ≤ 9223372036854775807
theorem goodP_nil : GoodP [] := ⟨List.Pairwise.nil, by simp, by simp, by simp⟩

theorem lessB_iff {a l b m : Int} : lessB a l b m = true ↔ a < b ∨ a = b ∧ l < m := by simp [lessB]
theorem lessB_trans {a l b m c k : Int} (h1 : lessB a l b m = true) (h2 : lessB b m c k = true) : lessB a l c k = true := by
  rw [lessB_iff] at *; omega
theorem lessB_irrefl (a l : Int) : lessB a l a l = false := by
  cases h : lessB a l a l
  · rfl
  · rw [lessB_iff] at h; omega
theorem lessB_tri {a l b m : Int} (h1 : lessB a l b m = false) (h2 : ¬ (a = b ∧ l = m)) : lessB b m a l = true := by
  rw [lessB_iff]
  have : ¬ (a < b ∨ a = b ∧ l < m) := fun h => by rw [lessB_iff.2 h] at h1; cases h1
  omega
theorem lessB_ne {a l b m : Int} (h : lessB a l b m = true) : ¬ (a = b ∧ l = m) := by rw [lessB_iff] at h; omega

theorem fAt_none {a l : Int} : ∀ {L : List Pr}, fAt a l L = none ↔ ∀ p ∈ L, ¬ (p.a = a ∧ p.l = l)
  | [] => by simp [fAt]
  | p :: L => by
    rw [fAt]
    split
    · rename_i h; rw [Pr.is_iff] at h; simp [h]
    · rename_i h; rw [Pr.is_iff] at h
      rw [Option.map_eq_none_iff, fAt_none, List.forall_mem_cons]
      exact ⟨fun k => ⟨h, k⟩, fun k => k.2⟩
theorem fAt_some {a l : Int} : ∀ {L : List Pr} {i : Nat}, fAt a l L = some i → ∃ p, L[i]? = some p ∧ p.a = a ∧ p.l = l ∧ i < L.length
  | [], i, h => by simp [fAt] at h
  | p :: L, i, h => by
    rw [fAt] at h
    split at h
    · rename_i hp; rw [Pr.is_iff] at hp; simp at h; subst h; exact ⟨p, rfl, hp.1, hp.2, by simp⟩
    · obtain ⟨j, hj, rfl⟩ := Option.map_eq_some_iff.1 h
      obtain ⟨q, h1, h2, h3, h4⟩ := fAt_some hj
      exact ⟨q, by simpa using h1, h2, h3, by simpa using h4⟩
theorem getP_fAt (a l : Int) : ∀ (L : List Pr), getP L a l = (fAt a l L).bind fun i => L[i]?
  | [] => rfl
  | p :: L => by
    unfold getP
    rw [List.find?_cons, fAt]
    cases h : p.is a l
    · have ih := getP_fAt a l L
      unfold getP at ih
      simp only [Bool.false_eq_true, if_false]
      rw [ih]
      cases fAt a l L <;> simp
    · simp
theorem getP_some {L : List Pr} {a l : Int} {p : Pr} (h : getP L a l = some p) : p ∈ L ∧ p.a = a ∧ p.l = l := by
  unfold getP at h
  have h1 := List.find?_some h
  rw [Pr.is_iff] at h1
  exact ⟨List.mem_of_find?_eq_some h, h1⟩
theorem getP_none {L : List Pr} {a l : Int} : getP L a l = none ↔ ∀ p ∈ L, ¬ (p.a = a ∧ p.l = l) := by
  unfold getP
  rw [List.find?_eq_none]
  constructor
  · intro h p hp hk; exact h p hp (Pr.is_iff.2 hk)
  · intro h p hp hk; exact h p hp (Pr.is_iff.1 hk)
/-- In a list in order a prefix stands at most once. -/
theorem srt_uniq : ∀ {L : List Pr}, Srt L → ∀ p ∈ L, ∀ q ∈ L, p.a = q.a → p.l = q.l → p = q
  | [], _, p, hp, _, _, _, _ => by cases hp
  | x :: L, hs, p, hp, q, hq, h1, h2 => by
    rw [Srt, List.pairwise_cons] at hs
    rw [List.mem_cons] at hp hq
    rcases hp with rfl | hp <;> rcases hq with rfl | hq
    · rfl
    · exact absurd ⟨h1, h2⟩ (lessB_ne (hs.1 q hq))
    · exact absurd ⟨h1.symm, h2.symm⟩ (lessB_ne (hs.1 p hp))
    · exact srt_uniq hs.2 p hp q hq h1 h2
theorem getP_mem {L : List Pr} (hs : Srt L) {p : Pr} (hp : p ∈ L) : getP L p.a p.l = some p := by
  cases h : getP L p.a p.l with
  | none => exact absurd ⟨rfl, rfl⟩ (getP_none.1 h p hp)
  | some q =>
    obtain ⟨h1, h2, h3⟩ := getP_some h
    rw [srt_uniq hs q h1 p hp h2 h3]
/-- Two lists in order that have the same are the same. -/
theorem srt_ext : ∀ {L M : List Pr}, Srt L → Srt M → (∀ p, p ∈ L ↔ p ∈ M) → L = M
  | [], [], _, _, _ => rfl
  | [], q :: M, _, _, h => by have := (h q).2 (by simp); cases this
  | p :: L, [], _, _, h => by have := (h p).1 (by simp); cases this
  | p :: L, q :: M, hl, hm, h => by
    have hl' := hl
    have hm' := hm
    rw [Srt, List.pairwise_cons] at hl' hm'
    have hpq : p = q := by
      have h1 := (h p).1 (by simp)
      have h2 := (h q).2 (by simp)
      rw [List.mem_cons] at h1 h2
      rcases h1 with h1 | h1
      · exact h1
      · rcases h2 with h2 | h2
        · exact h2.symm
        · have a1 := hm'.1 p h1
          have a2 := hl'.1 q h2
          have := lessB_trans a1 a2
          rw [lessB_irrefl] at this; cases this
    subst hpq
    congr 1
    refine srt_ext hl'.2 hm'.2 fun x => ?_
    constructor
    · intro hx
      have := (h x).1 (by simp [hx])
      rw [List.mem_cons] at this
      rcases this with rfl | this
      · have := hl'.1 x hx; rw [lessB_irrefl] at this; cases this
      · exact this
    · intro hx
      have := (h x).2 (by simp [hx])
      rw [List.mem_cons] at this
      rcases this with rfl | this
      · have := hm'.1 x hx; rw [lessB_irrefl] at this; cases this
      · exact this

theorem mem_insP {q : Pr} : ∀ {L : List Pr} {x : Pr}, x ∈ insP q L ↔ x = q ∨ x ∈ L
  | [], x => by simp [insP]
  | p :: L, x => by
    rw [insP]
    split
    · simp
    · rw [List.mem_cons, mem_insP, List.mem_cons]
      constructor
      · rintro (h | h | h) <;> simp [h]
      · rintro (h | h | h) <;> simp [h]
theorem insP_len (q : Pr) : ∀ (L : List Pr), (insP q L).length = L.length + 1
  | [] => rfl
  | p :: L => by rw [insP]; split <;> simp [insP_len q L]
theorem srt_insP {q : Pr} : ∀ {L : List Pr}, Srt L → (∀ p ∈ L, ¬ (p.a = q.a ∧ p.l = q.l)) → Srt (insP q L)
  | [], _, _ => by simp [Srt, insP]
  | p :: L, hs, hn => by
    have hs' := hs
    rw [Srt, List.pairwise_cons] at hs'
    rw [insP]
    split
    · rename_i h
      rw [Srt, List.pairwise_cons]
      refine ⟨fun x hx => ?_, hs⟩
      rw [List.mem_cons] at hx
      rcases hx with rfl | hx
      · exact h
      · exact lessB_trans h (hs'.1 x hx)
    · rename_i h
      rw [Srt, List.pairwise_cons]
      refine ⟨fun x hx => ?_, srt_insP hs'.2 fun y hy => hn y (by simp [hy])⟩
      rw [mem_insP] at hx
      rcases hx with rfl | hx
      · exact lessB_tri (by simpa using h) fun hk => hn p (by simp) ⟨hk.1.symm, hk.2.symm⟩
      · exact hs'.1 x hx
theorem srt_set {L : List Pr} {i : Nat} {p q : Pr} (hs : Srt L) (hp : L[i]? = some p) (h1 : q.a = p.a) (h2 : q.l = p.l) : Srt (L.set i q) := by
  have hi := (List.getElem?_eq_some_iff.1 hp).1
  have hpe : L[i] = p := (List.getElem?_eq_some_iff.1 hp).2
  unfold Srt at *
  rw [List.pairwise_iff_getElem] at *
  intro j k hj hk hjk
  rw [List.length_set] at hj hk
  have := hs j k hj hk hjk
  rw [List.getElem_set, List.getElem_set]
  by_cases e1 : i = j
  · subst e1
    rw [if_pos rfl, if_neg (by omega), h1, h2, ← hpe]; exact this
  · rw [if_neg e1]
    by_cases e2 : i = k
    · subst e2
      rw [if_pos rfl, h1, h2, ← hpe]; exact this
    · rw [if_neg e2]; exact this
theorem srt_erase {L : List Pr} {i : Nat} (hs : Srt L) : Srt (L.eraseIdx i) := List.Pairwise.sublist (List.eraseIdx_sublist L i) hs
theorem mem_set_cases {L : List Pr} {i : Nat} {q x : Pr} (h : x ∈ L.set i q) : x = q ∨ x ∈ L := by
  rcases List.mem_or_eq_of_mem_set h with h | h
  · exact .inr h
  · exact .inl h
theorem good_put {most : Int} {L : List Pr} (h : GoodP L) {a l n : Int} (a0 : 0 ≤ a) (a1 : a < 4294967296) (n0 : -9223372036854775808 ≤ n) (n1 : n ≤ 9223372036854775807) : GoodP (putL most L a l n) := by
  unfold putL
  split
  · exact h
  rename_i hm
  have hm : mayB a l = true := by simpa using hm
  split
  · rename_i i hi
    obtain ⟨p, hp, e1, e2, -⟩ := fAt_some hi
    refine ⟨srt_set h.s hp e1.symm e2.symm, fun x hx => ?_, fun x hx => ?_, fun x hx => ?_⟩ <;> rcases mem_set_cases hx with rfl | hx
    · exact hm
    · exact h.m x hx
    · exact ⟨a0, a1⟩
    · exact h.u x hx
    · exact ⟨n0, n1⟩
    · exact h.n x hx
  · rename_i hi
    split
    · exact h
    · refine ⟨srt_insP h.s (fAt_none.1 hi), fun x hx => ?_, fun x hx => ?_, fun x hx => ?_⟩ <;> rcases mem_insP.1 hx with rfl | hx
      · exact hm
      · exact h.m x hx
      · exact ⟨a0, a1⟩
      · exact h.u x hx
      · exact ⟨n0, n1⟩
      · exact h.n x hx
theorem good_take {L : List Pr} (h : GoodP L) (a l : Int) : GoodP (takeL L a l) := by
  unfold takeL
  split
  · rename_i i _
    have hs := (List.eraseIdx_sublist L i).subset
    exact ⟨srt_erase h.s, fun x hx => h.m x (hs hx), fun x hx => h.u x (hs hx), fun x hx => h.n x (hs hx)⟩
  · exact h
theorem put_len (most : Int) (L : List Pr) (a l n : Int) : (putL most L a l n).length ≤ L.length + 1 := by
  unfold putL
  split
  · omega
  split
  · simp
  split
  · omega
  · rw [insP_len]; omega
/-- Who stands there behind a Put that is not refused. -/
theorem mem_put {most : Int} {L : List Pr} (hs : Srt L) {a l n : Int} (hx : putX most L a l = 0) {p : Pr} : p ∈ putL most L a l n ↔ p = ⟨a, l, n⟩ ∨ p ∈ L ∧ ¬ (p.a = a ∧ p.l = l) := by
  unfold putX at hx
  unfold putL
  split at hx
  · cases hx
  rename_i hm
  rw [if_neg hm]
  split
  · rename_i i hi
    obtain ⟨q, hq, e1, e2, hil⟩ := fAt_some hi
    constructor
    · intro h
      obtain ⟨j, hj⟩ := List.getElem?_of_mem h
      by_cases hij : i = j
      · subst hij
        rw [List.getElem?_set_self hil] at hj
        simp at hj
        exact .inl hj.symm
      · rw [List.getElem?_set_ne hij] at hj
        refine .inr ⟨List.mem_of_getElem? hj, fun hk => hij ?_⟩
        have hjl := (List.getElem?_eq_some_iff.1 hj).1
        have hqe : L[i] = q := (List.getElem?_eq_some_iff.1 hq).2
        have hpe : L[j] = p := (List.getElem?_eq_some_iff.1 hj).2
        unfold Srt at hs
        rw [List.pairwise_iff_getElem] at hs
        rcases Nat.lt_trichotomy i j with hlt | rfl | hlt
        · have := hs i j hil hjl hlt
          rw [hqe, hpe] at this
          exact absurd ⟨e1.trans hk.1.symm, e2.trans hk.2.symm⟩ (lessB_ne this)
        · rfl
        · have := hs j i hjl hil hlt
          rw [hqe, hpe] at this
          exact absurd ⟨hk.1.trans e1.symm, hk.2.trans e2.symm⟩ (lessB_ne this)
    · rintro (rfl | ⟨h, hk⟩)
      · exact List.mem_of_getElem? (List.getElem?_set_self hil)
      · obtain ⟨j, hj⟩ := List.getElem?_of_mem h
        have hij : i ≠ j := by
          rintro rfl
          rw [hq] at hj; simp at hj; subst hj
          exact hk ⟨e1, e2⟩
        exact List.mem_of_getElem? (i := j) (by rw [List.getElem?_set_ne hij]; exact hj)
  · rename_i hi
    rw [hi] at hx
    simp only [Option.isSome_none, Bool.false_eq_true, if_false] at hx
    split at hx
    · cases hx
    · rename_i hf
      rw [if_neg hf, mem_insP]
      constructor
      · rintro (h | h)
        · exact .inl h
        · exact .inr ⟨h, fAt_none.1 hi p h⟩
      · rintro (h | h)
        · exact .inl h
        · exact .inr h.1
theorem put_same {most : Int} {L : List Pr} {a l : Int} (n : Int) (hx : putX most L a l ≠ 0) : putL most L a l n = L := by
  unfold putX at hx
  unfold putL
  split
  · rfl
  · rename_i hm
    rw [if_neg hm] at hx
    split
    · rename_i i hi
      rw [hi] at hx; simp at hx
    · rename_i hi
      rw [hi] at hx
      simp only [Option.isSome_none, Bool.false_eq_true, if_false] at hx
      split
      · rfl
      · rename_i hf; rw [if_neg hf] at hx; exact absurd rfl hx
theorem mem_take {L : List Pr} (hs : Srt L) {a l : Int} {p : Pr} : p ∈ takeL L a l ↔ p ∈ L ∧ ¬ (p.a = a ∧ p.l = l) := by
  unfold takeL
  split
  · rename_i i hi
    obtain ⟨q, hq, e1, e2, hil⟩ := fAt_some hi
    have hqe : L[i] = q := (List.getElem?_eq_some_iff.1 hq).2
    rw [List.mem_eraseIdx_iff_getElem?]
    constructor
    · rintro ⟨j, hj, hjp⟩
      refine ⟨List.mem_of_getElem? hjp, fun hk => hj ?_⟩
      have hjl := (List.getElem?_eq_some_iff.1 hjp).1
      have hpe : L[j] = p := (List.getElem?_eq_some_iff.1 hjp).2
      unfold Srt at hs
      rw [List.pairwise_iff_getElem] at hs
      rcases Nat.lt_trichotomy i j with hlt | h | hlt
      · have := hs i j hil hjl hlt
        rw [hqe, hpe] at this
        exact absurd ⟨e1.trans hk.1.symm, e2.trans hk.2.symm⟩ (lessB_ne this)
      · exact h.symm
      · have := hs j i hjl hil hlt
        rw [hqe, hpe] at this
        exact absurd ⟨hk.1.trans e1.symm, hk.2.trans e2.symm⟩ (lessB_ne this)
    · rintro ⟨h, hk⟩
      obtain ⟨j, hj⟩ := List.getElem?_of_mem h
      refine ⟨j, ?_, hj⟩
      rintro rfl
      rw [hq] at hj; simp at hj; subst hj
      exact hk ⟨e1, e2⟩
  · rename_i hi
    constructor
    · intro h; exact ⟨h, fAt_none.1 hi p h⟩
    · exact fun h => h.1
/-- What Get tells behind a Put and a Take. -/
theorem get_of_mem {L M : List Pr} (hs : Srt M) {a l : Int} (h : ∀ p, p.a = a → p.l = l → (p ∈ M ↔ p ∈ L)) : getP M a l = getP L a l := by
  cases hg : getP L a l with
  | none =>
    rw [getP_none] at hg ⊢
    intro p hp hk
    exact hg p ((h p hk.1 hk.2).1 hp) hk
  | some p =>
    obtain ⟨h1, h2, h3⟩ := getP_some hg
    have := getP_mem hs ((h p h2 h3).2 h1)
    rw [h2, h3] at this
    exact this
theorem findP_spec (x : Int) : ∀ (L : List Pr) (b : Option Pr), (∀ q, b = some q → hasB q.a q.l x = true) →
    (∀ p, findP x L b = some p → (p ∈ L ∨ b = some p) ∧ hasB p.a p.l x = true ∧ (∀ q ∈ L, hasB q.a q.l x = true → q.l ≤ p.l) ∧ (∀ q, b = some q → q.l ≤ p.l)) ∧
    (findP x L b = none → b = none ∧ ∀ q ∈ L, hasB q.a q.l x = false)
  | [], b, hb => by
    refine ⟨fun p hp => ?_, fun h => ⟨h, by simp⟩⟩
    rw [findP] at hp
    exact ⟨.inr hp, hb p hp, by simp, fun q hq => by rw [hp] at hq; simp at hq; subst hq; omega⟩
  | r :: L, b, hb => by
    rw [findP]
    cases hbt : better x r b
    · simp only [Bool.false_eq_true, if_false]
      obtain ⟨h1, h2⟩ := findP_spec x L b hb
      refine ⟨fun p hp => ?_, fun h => ?_⟩
      · obtain ⟨a1, a2, a3, a4⟩ := h1 p hp
        refine ⟨?_, a2, fun q hq hh => ?_, a4⟩
        · rcases a1 with a1 | a1
          · exact .inl (by simp [a1])
          · exact .inr a1
        · rw [List.mem_cons] at hq
          rcases hq with rfl | hq
          · unfold better at hbt
            rw [hh] at hbt
            cases b with
            | none => simp at hbt
            | some q0 =>
              simp at hbt
              have := a4 q0 rfl
              omega
          · exact a3 q hq hh
      · obtain ⟨e, a2⟩ := h2 h
        refine ⟨e, fun q hq => ?_⟩
        rw [List.mem_cons] at hq
        rcases hq with rfl | hq
        · unfold better at hbt
          rw [e] at hbt
          simpa using hbt
        · exact a2 q hq
    · simp only [if_true]
      have hr : hasB r.a r.l x = true := by unfold better at hbt; rw [Bool.and_eq_true] at hbt; exact hbt.1
      obtain ⟨h1, h2⟩ := findP_spec x L (some r) (fun q hq => by simp at hq; subst hq; exact hr)
      refine ⟨fun p hp => ?_, fun h => ?_⟩
      · obtain ⟨a1, a2, a3, a4⟩ := h1 p hp
        refine ⟨.inl ?_, a2, fun q hq hh => ?_, fun q hq => ?_⟩
        · rcases a1 with a1 | a1
          · simp [a1]
          · simp at a1; simp [a1]
        · rw [List.mem_cons] at hq
          rcases hq with rfl | hq
          · exact a4 q rfl
          · exact a3 q hq hh
        · have := a4 r rfl
          subst hq
          unfold better at hbt
          simp at hbt
          omega
      · obtain ⟨e, -⟩ := h2 h; cases e
theorem find_some {x : Int} {L : List Pr} {p : Pr} (h : findP x L none = some p) : p ∈ L ∧ hasB p.a p.l x = true ∧ ∀ q ∈ L, hasB q.a q.l x = true → q.l ≤ p.l := by
  obtain ⟨h1, h2, h3, -⟩ := (findP_spec x L none (by simp)).1 p h
  refine ⟨?_, h2, h3⟩
  rcases h1 with h1 | h1
  · exact h1
  · cases h1
theorem find_none {x : Int} {L : List Pr} (h : findP x L none = none) : ∀ q ∈ L, hasB q.a q.l x = false := ((findP_spec x L none (by simp)).2 h).2
theorem hasB_root {x : Int} (h0 : 0 ≤ x) (h1 : x < 4294967296) : hasB 0 0 x = true := by
  unfold hasB mayB andM
  simp
  omega
/-- Prefixes of one length that have one address are one. -/
theorem has_uniq {a b l x : Int} (h1 : hasB a l x = true) (h2 : hasB b l x = true) : a = b := by
  unfold hasB at h1 h2
  simp only [Bool.and_eq_true, beq_iff_eq] at h1 h2
  rw [← h1.2, ← h2.2]
/-- What is found is told by what stands there alone. -/
theorem find_is {x : Int} {L : List Pr} (hs : Srt L) {p : Pr} (hp : p ∈ L) (hh : hasB p.a p.l x = true) (hm : ∀ q ∈ L, hasB q.a q.l x = true → q.l ≤ p.l) : findP x L none = some p := by
  cases h : findP x L none with
  | none => rw [find_none h p hp] at hh; cases hh
  | some q =>
    obtain ⟨h1, h2, h3⟩ := find_some h
    have e : q.l = p.l := by have := hm q h1 h2; have := h3 p hp hh; omega
    rw [e] at h2
    rw [srt_uniq hs q h1 p hp (has_uniq h2 hh) e]
end Go.Proofs.Ytcabeclbdjfoaaa
