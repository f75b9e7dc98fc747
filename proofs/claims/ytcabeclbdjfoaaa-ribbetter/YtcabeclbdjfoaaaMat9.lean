/- Routes, which of two comes ahead, and a table of them as a list in order: the pure functions of the document's rib, and what follows. No program is named here. -/
import Derived.Test.YtcabeclbdjfoaaaMat2
namespace Go.Proofs.Ytcabeclbdjfoaaa

/-- How many of the lowest k bits are 1. -/
def cnt : Nat → Nat → Nat
  | 0, _ => 0
  | k + 1, t => cnt k t + (t.testBit k).toNat
def dep (t : Nat) : Nat := cnt 16 t
/-- A prefix (address, length) and a domain. -/
structure Ky where
  a : Int
  l : Int
  d : Int
deriving DecidableEq
/-- A route: prefix, domain, distance, metric, next, tag. -/
structure Rt where
  a : Int
  l : Int
  d : Int
  s : Int
  m : Int
  n : Int
  t : Int
deriving DecidableEq
def Rt.k (x : Rt) : Ky := ⟨x.a, x.l, x.d⟩
def dpt (t : Int) : Nat := dep t.toNat
def Ky.lt (x y : Ky) : Prop := x.a < y.a ∨ x.a = y.a ∧ (x.l < y.l ∨ x.l = y.l ∧ x.d < y.d)
instance (x y : Ky) : Decidable (x.lt y) := by unfold Ky.lt; infer_instance
def Rt.lt (x y : Rt) : Prop := dpt x.t < dpt y.t ∨ dpt x.t = dpt y.t ∧ (x.s < y.s ∨ x.s = y.s ∧ (x.m < y.m ∨ x.m = y.m ∧ (x.d < y.d ∨ x.d = y.d ∧ (x.n < y.n ∨ x.n = y.n ∧ x.t < y.t))))
instance (x y : Rt) : Decidable (x.lt y) := by unfold Rt.lt; infer_instance
/-- P9.1. -/
def bet (x y : Rt) : Bool := decide (x.lt y)
def mayR (x : Rt) : Bool := mayB x.a x.l && decide (0 ≤ x.d ∧ x.d < 16 ∧ 0 ≤ x.s ∧ x.s ≤ 255 ∧ 0 ≤ x.m ∧ x.m ≤ 4294967295 ∧ 0 ≤ x.n ∧ x.n ≤ 32)
def Rt.of (x : Rt) (a l : Int) : Prop := x.a = a ∧ x.l = l
instance (x : Rt) (a l : Int) : Decidable (x.of a l) := by unfold Rt.of; infer_instance

theorem ky_ext {x y : Ky} (h1 : x.a = y.a) (h2 : x.l = y.l) (h3 : x.d = y.d) : x = y := by cases x; cases y; simp_all
theorem rt_ext {x y : Rt} (h0 : x.k = y.k) (h1 : x.s = y.s) (h2 : x.m = y.m) (h3 : x.n = y.n) (h4 : x.t = y.t) : x = y := by cases x; cases y; simp_all [Rt.k]
theorem Rt.k_iff {x : Rt} {a l d : Int} : x.k = ⟨a, l, d⟩ ↔ x.a = a ∧ x.l = l ∧ x.d = d := by simp [Rt.k]
theorem Ky.lt_trans {x y z : Ky} (h1 : x.lt y) (h2 : y.lt z) : x.lt z := by unfold Ky.lt at *; omega
theorem Ky.lt_irrefl (x : Ky) : ¬ x.lt x := by unfold Ky.lt; omega
theorem Ky.lt_tri {x y : Ky} (h1 : ¬ x.lt y) (h2 : x ≠ y) : y.lt x := by
  unfold Ky.lt at *
  have : ¬ (x.a = y.a ∧ x.l = y.l ∧ x.d = y.d) := fun h => h2 (ky_ext h.1 h.2.1 h.2.2)
  omega
theorem Ky.lt_ne {x y : Ky} (h : x.lt y) : x ≠ y := by rintro rfl; exact Ky.lt_irrefl x h
theorem bet_iff {x y : Rt} : bet x y = true ↔ x.lt y := by simp [bet]
theorem bet_false {x y : Rt} : bet x y = false ↔ ¬ x.lt y := by simp [bet]
theorem Rt.lt_trans {x y z : Rt} (h1 : x.lt y) (h2 : y.lt z) : x.lt z := by unfold Rt.lt at *; omega
theorem Rt.lt_irrefl (x : Rt) : ¬ x.lt x := by unfold Rt.lt; omega
theorem Rt.lt_asym {x y : Rt} (h : x.lt y) : ¬ y.lt x := fun k => Rt.lt_irrefl x (Rt.lt_trans h k)
/-- P9.4: of two routes to one prefix that are not the same just one comes ahead. -/
theorem Rt.lt_tri {x y : Rt} (ha : x.a = y.a) (hl : x.l = y.l) (h1 : ¬ x.lt y) (h2 : x ≠ y) : y.lt x := by
  have : ¬ (x.d = y.d ∧ x.s = y.s ∧ x.m = y.m ∧ x.n = y.n ∧ x.t = y.t) := fun h => h2 (rt_ext (ky_ext ha hl h.1) h.2.1 h.2.2.1 h.2.2.2.1 h.2.2.2.2)
  unfold Rt.lt at *
  omega
theorem Rt.lt_dep {x y : Rt} (h : dpt x.t < dpt y.t) : x.lt y := .inl h

/-! The table. -/
def rAt (k : Ky) : List Rt → Option Nat
  | [] => none
  | p :: L => if p.k = k then some 0 else (rAt k L).map (· + 1)
def insR (q : Rt) : List Rt → List Rt
  | [] => [q]
  | p :: L => if q.k.lt p.k then q :: p :: L else p :: insR q L
def putRX (most : Int) (L : List Rt) (x : Rt) : Int := if mayR x = false then 1 else if (rAt x.k L).isSome = true then 0 else if most ≤ (L.length : Int) then 4 else 0
def putR (most : Int) (L : List Rt) (x : Rt) : List Rt :=
  if mayR x = false then L else match rAt x.k L with
    | some i => L.set i x
    | none => if most ≤ (L.length : Int) then L else insR x L
def takeRX (L : List Rt) (k : Ky) : Int := if (rAt k L).isSome = true then 0 else 5
def takeR (L : List Rt) (k : Ky) : List Rt := match rAt k L with
  | some i => L.eraseIdx i
  | none => L
def bestS (a l : Int) (p : Rt) (b : Option Rt) : Option Rt :=
  if p.of a l then (match b with | none => some p | some q => if bet p q = true then some p else some q) else b
def bestR (a l : Int) : List Rt → Option Rt → Option Rt
  | [], b => b
  | p :: L, b => bestR a l L (bestS a l p b)
def longS (x : Int) (p : Rt) (b : Option Rt) : Option Rt :=
  if hasB p.a p.l x = true then (match b with | none => some p | some q => if q.l < p.l then some p else some q) else b
def longR (x : Int) : List Rt → Option Rt → Option Rt
  | [], b => b
  | p :: L, b => longR x L (longS x p b)
def findR (x : Int) (L : List Rt) : Option Rt := (longR x L none).bind fun p => bestR p.a p.l L none
def SrtR (L : List Rt) : Prop := L.Pairwise fun p q => p.k.lt q.k
structure GoodR (L : List Rt) : Prop where
  s : SrtR L
  m : ∀ p ∈ L, mayR p = true
  u : ∀ p ∈ L, 0 ≤ p.a ∧ p.a < 4294967296 ∧ 0 ≤ p.t ∧ p.t < 65536
theorem goodR_nil : GoodR [] := ⟨List.Pairwise.nil, by simp, by simp⟩

theorem rAt_none {k : Ky} : ∀ {L : List Rt}, rAt k L = none ↔ ∀ p ∈ L, p.k ≠ k
  | [] => by simp [rAt]
  | p :: L => by
    rw [rAt]
    split
    · rename_i h; simp [h]
    · rename_i h
      rw [Option.map_eq_none_iff, rAt_none, List.forall_mem_cons]
      exact ⟨fun k => ⟨h, k⟩, fun k => k.2⟩
theorem rAt_some {k : Ky} : ∀ {L : List Rt} {i : Nat}, rAt k L = some i → ∃ p, L[i]? = some p ∧ p.k = k ∧ i < L.length
  | [], i, h => by simp [rAt] at h
  | p :: L, i, h => by
    rw [rAt] at h
    split at h
    · rename_i hp; simp at h; subst h; exact ⟨p, rfl, hp, by simp⟩
    · obtain ⟨j, hj, rfl⟩ := Option.map_eq_some_iff.1 h
      obtain ⟨q, h1, h2, h4⟩ := rAt_some hj
      exact ⟨q, by simpa using h1, h2, by simpa using h4⟩
/-- In a list in order a key stands at most once. -/
theorem srtR_uniq : ∀ {L : List Rt}, SrtR L → ∀ p ∈ L, ∀ q ∈ L, p.k = q.k → p = q
  | [], _, p, hp, _, _, _ => by cases hp
  | x :: L, hs, p, hp, q, hq, h1 => by
    rw [SrtR, List.pairwise_cons] at hs
    rw [List.mem_cons] at hp hq
    rcases hp with rfl | hp <;> rcases hq with rfl | hq
    · rfl
    · exact absurd h1 (Ky.lt_ne (hs.1 q hq))
    · exact absurd h1.symm (Ky.lt_ne (hs.1 p hp))
    · exact srtR_uniq hs.2 p hp q hq h1
/-- Two lists in order that have the same are the same. -/
theorem srtR_ext : ∀ {L M : List Rt}, SrtR L → SrtR M → (∀ p, p ∈ L ↔ p ∈ M) → L = M
  | [], [], _, _, _ => rfl
  | [], q :: M, _, _, h => by have := (h q).2 (by simp); cases this
  | p :: L, [], _, _, h => by have := (h p).1 (by simp); cases this
  | p :: L, q :: M, hl, hm, h => by
    have hl' := hl
    have hm' := hm
    rw [SrtR, List.pairwise_cons] at hl' hm'
    have hpq : p = q := by
      have h1 := (h p).1 (by simp)
      have h2 := (h q).2 (by simp)
      rw [List.mem_cons] at h1 h2
      rcases h1 with h1 | h1
      · exact h1
      · rcases h2 with h2 | h2
        · exact h2.symm
        · exact absurd (Ky.lt_trans (hm'.1 p h1) (hl'.1 q h2)) (Ky.lt_irrefl _)
    subst hpq
    congr 1
    refine srtR_ext hl'.2 hm'.2 fun x => ?_
    constructor
    · intro hx
      have := (h x).1 (by simp [hx])
      rw [List.mem_cons] at this
      rcases this with rfl | this
      · exact absurd (hl'.1 x hx) (Ky.lt_irrefl _)
      · exact this
    · intro hx
      have := (h x).2 (by simp [hx])
      rw [List.mem_cons] at this
      rcases this with rfl | this
      · exact absurd (hm'.1 x hx) (Ky.lt_irrefl _)
      · exact this

theorem mem_insR {q : Rt} : ∀ {L : List Rt} {x : Rt}, x ∈ insR q L ↔ x = q ∨ x ∈ L
  | [], x => by simp [insR]
  | p :: L, x => by
    rw [insR]
    split
    · simp
    · rw [List.mem_cons, mem_insR, List.mem_cons]
      constructor
      · rintro (h | h | h) <;> simp [h]
      · rintro (h | h | h) <;> simp [h]
theorem insR_len (q : Rt) : ∀ (L : List Rt), (insR q L).length = L.length + 1
  | [] => rfl
  | p :: L => by rw [insR]; split <;> simp [insR_len q L]
theorem srt_insR {q : Rt} : ∀ {L : List Rt}, SrtR L → (∀ p ∈ L, p.k ≠ q.k) → SrtR (insR q L)
  | [], _, _ => by simp [SrtR, insR]
  | p :: L, hs, hn => by
    have hs' := hs
    rw [SrtR, List.pairwise_cons] at hs'
    rw [insR]
    split
    · rename_i h
      rw [SrtR, List.pairwise_cons]
      refine ⟨fun x hx => ?_, hs⟩
      rw [List.mem_cons] at hx
      rcases hx with rfl | hx
      · exact h
      · exact Ky.lt_trans h (hs'.1 x hx)
    · rename_i h
      rw [SrtR, List.pairwise_cons]
      refine ⟨fun x hx => ?_, srt_insR hs'.2 fun y hy => hn y (by simp [hy])⟩
      rw [mem_insR] at hx
      rcases hx with rfl | hx
      · exact Ky.lt_tri h fun hk => hn p (by simp) hk.symm
      · exact hs'.1 x hx
theorem srtR_set {L : List Rt} {i : Nat} {p q : Rt} (hs : SrtR L) (hp : L[i]? = some p) (h1 : q.k = p.k) : SrtR (L.set i q) := by
  have hi := (List.getElem?_eq_some_iff.1 hp).1
  have hpe : L[i] = p := (List.getElem?_eq_some_iff.1 hp).2
  unfold SrtR at *
  rw [List.pairwise_iff_getElem] at *
  intro j k hj hk hjk
  rw [List.length_set] at hj hk
  have := hs j k hj hk hjk
  rw [List.getElem_set, List.getElem_set]
  by_cases e1 : i = j
  · subst e1
    rw [if_pos rfl, if_neg (by omega), h1, ← hpe]; exact this
  · rw [if_neg e1]
    by_cases e2 : i = k
    · subst e2
      rw [if_pos rfl, h1, ← hpe]; exact this
    · rw [if_neg e2]; exact this
theorem srtR_erase {L : List Rt} {i : Nat} (hs : SrtR L) : SrtR (L.eraseIdx i) := List.Pairwise.sublist (List.eraseIdx_sublist L i) hs
theorem goodR_put {most : Int} {L : List Rt} (h : GoodR L) {x : Rt} (a0 : 0 ≤ x.a) (a1 : x.a < 4294967296) (t0 : 0 ≤ x.t) (t1 : x.t < 65536) : GoodR (putR most L x) := by
  unfold putR
  split
  · exact h
  rename_i hm
  have hm : mayR x = true := by simpa using hm
  split
  · rename_i i hi
    obtain ⟨p, hp, e1, -⟩ := rAt_some hi
    refine ⟨srtR_set h.s hp e1.symm, fun y hy => ?_, fun y hy => ?_⟩ <;> rcases List.mem_or_eq_of_mem_set hy with hy | rfl
    · exact h.m y hy
    · exact hm
    · exact h.u y hy
    · exact ⟨a0, a1, t0, t1⟩
  · rename_i hi
    split
    · exact h
    · refine ⟨srt_insR h.s (rAt_none.1 hi), fun y hy => ?_, fun y hy => ?_⟩ <;> rcases mem_insR.1 hy with rfl | hy
      · exact hm
      · exact h.m y hy
      · exact ⟨a0, a1, t0, t1⟩
      · exact h.u y hy
theorem goodR_take {L : List Rt} (h : GoodR L) (k : Ky) : GoodR (takeR L k) := by
  unfold takeR
  split
  · rename_i i _
    have hs := (List.eraseIdx_sublist L i).subset
    exact ⟨srtR_erase h.s, fun x hx => h.m x (hs hx), fun x hx => h.u x (hs hx)⟩
  · exact h
theorem putR_len (most : Int) (L : List Rt) (x : Rt) : (putR most L x).length ≤ L.length + 1 := by
  unfold putR
  split
  · omega
  split
  · simp
  split
  · omega
  · rw [insR_len]; omega
/-- A table never has more than it may have. -/
theorem putR_most {most : Int} {L : List Rt} (h : (L.length : Int) ≤ max most 0) (x : Rt) : ((putR most L x).length : Int) ≤ max most 0 := by
  unfold putR
  split
  · exact h
  split
  · simpa using h
  split
  · exact h
  · rw [insR_len]; omega
theorem takeR_len (L : List Rt) (k : Ky) : (takeR L k).length ≤ L.length := by
  unfold takeR
  split
  · exact (List.eraseIdx_sublist L _).length_le
  · omega
/-- Who stands there behind a Put that is not refused. -/
theorem mem_putR {most : Int} {L : List Rt} (hs : SrtR L) {x : Rt} (hx : putRX most L x = 0) {p : Rt} : p ∈ putR most L x ↔ p = x ∨ p ∈ L ∧ p.k ≠ x.k := by
  unfold putRX at hx
  unfold putR
  split at hx
  · cases hx
  rename_i hm
  rw [if_neg hm]
  split
  · rename_i i hi
    obtain ⟨q, hq, e1, hil⟩ := rAt_some hi
    have hqm := List.mem_of_getElem? hq
    constructor
    · intro h
      obtain ⟨j, hj⟩ := List.getElem?_of_mem h
      by_cases hij : i = j
      · subst hij
        rw [List.getElem?_set_self hil] at hj
        simp at hj
        exact .inl hj.symm
      · rw [List.getElem?_set_ne hij] at hj
        refine .inr ⟨List.mem_of_getElem? hj, fun hk => hij ?_⟩
        have hjl := (List.getElem?_eq_some_iff.1 hj).1
        have hqe : L[i] = q := (List.getElem?_eq_some_iff.1 hq).2
        have hpe : L[j] = p := (List.getElem?_eq_some_iff.1 hj).2
        unfold SrtR at hs
        rw [List.pairwise_iff_getElem] at hs
        rcases Nat.lt_trichotomy i j with hlt | rfl | hlt
        · have := hs i j hil hjl hlt
          rw [hqe, hpe] at this
          exact absurd (e1.trans hk.symm) (Ky.lt_ne this)
        · rfl
        · have := hs j i hjl hil hlt
          rw [hqe, hpe] at this
          exact absurd (hk.trans e1.symm) (Ky.lt_ne this)
    · rintro (rfl | ⟨h, hk⟩)
      · exact List.mem_of_getElem? (List.getElem?_set_self hil)
      · obtain ⟨j, hj⟩ := List.getElem?_of_mem h
        have hij : i ≠ j := by
          rintro rfl
          rw [hq] at hj; simp at hj; subst hj
          exact hk e1
        exact List.mem_of_getElem? (i := j) (by rw [List.getElem?_set_ne hij]; exact hj)
  · rename_i hi
    rw [hi] at hx
    simp only [Option.isSome_none, Bool.false_eq_true, if_false] at hx
    split at hx
    · cases hx
    · rename_i hf
      rw [if_neg hf, mem_insR]
      constructor
      · rintro (h | h)
        · exact .inl h
        · exact .inr ⟨h, rAt_none.1 hi p h⟩
      · rintro (h | h)
        · exact .inl h
        · exact .inr h.1
theorem putR_same {most : Int} {L : List Rt} {x : Rt} (hx : putRX most L x ≠ 0) : putR most L x = L := by
  unfold putRX at hx
  unfold putR
  split
  · rfl
  · rename_i hm
    rw [if_neg hm] at hx
    split
    · rename_i i hi
      rw [hi] at hx; simp at hx
    · rename_i hi
      rw [hi] at hx
      simp only [Option.isSome_none, Bool.false_eq_true, if_false] at hx
      split
      · rfl
      · rename_i hf; rw [if_neg hf] at hx; exact absurd rfl hx
theorem mem_takeR {L : List Rt} (hs : SrtR L) {k : Ky} {p : Rt} : p ∈ takeR L k ↔ p ∈ L ∧ p.k ≠ k := by
  unfold takeR
  split
  · rename_i i hi
    obtain ⟨q, hq, e1, hil⟩ := rAt_some hi
    have hqe : L[i] = q := (List.getElem?_eq_some_iff.1 hq).2
    rw [List.mem_eraseIdx_iff_getElem?]
    constructor
    · rintro ⟨j, hj, hjp⟩
      refine ⟨List.mem_of_getElem? hjp, fun hk => hj ?_⟩
      have hjl := (List.getElem?_eq_some_iff.1 hjp).1
      have hpe : L[j] = p := (List.getElem?_eq_some_iff.1 hjp).2
      unfold SrtR at hs
      rw [List.pairwise_iff_getElem] at hs
      rcases Nat.lt_trichotomy i j with hlt | h | hlt
      · have := hs i j hil hjl hlt
        rw [hqe, hpe] at this
        exact absurd (e1.trans hk.symm) (Ky.lt_ne this)
      · exact h.symm
      · have := hs j i hjl hil hlt
        rw [hqe, hpe] at this
        exact absurd (hk.trans e1.symm) (Ky.lt_ne this)
    · rintro ⟨h, hk⟩
      obtain ⟨j, hj⟩ := List.getElem?_of_mem h
      refine ⟨j, ?_, hj⟩
      rintro rfl
      rw [hq] at hj; simp at hj; subst hj
      exact hk e1
  · rename_i hi
    constructor
    · intro h; exact ⟨h, rAt_none.1 hi p h⟩
    · exact fun h => h.1

/-! Best and Find. -/
theorem bestR_spec (a l : Int) : ∀ (L : List Rt) (b : Option Rt), (∀ q, b = some q → q.of a l) →
    (∀ p, bestR a l L b = some p → (p ∈ L ∨ b = some p) ∧ p.of a l ∧ (∀ q ∈ L, q.of a l → ¬ q.lt p) ∧ (∀ q, b = some q → ¬ q.lt p)) ∧
    (bestR a l L b = none → b = none ∧ ∀ q ∈ L, ¬ q.of a l)
  | [], b, hb => by
    refine ⟨fun p hp => ?_, fun h => ⟨h, by simp⟩⟩
    rw [bestR] at hp
    exact ⟨.inr hp, hb p hp, by simp, fun q hq => by rw [hp] at hq; simp at hq; subst hq; exact Rt.lt_irrefl _⟩
  | r :: L, b, hb => by
    rw [bestR]
    by_cases hr : r.of a l
    · cases b with
      | none =>
        have e : bestS a l r none = some r := by simp [bestS, hr]
        rw [e]
        obtain ⟨h1, h2⟩ := bestR_spec a l L (some r) (fun q hq => by simp at hq; subst hq; exact hr)
        refine ⟨fun p hp => ?_, fun h => ?_⟩
        · obtain ⟨a1, a2, a3, a4⟩ := h1 p hp
          refine ⟨.inl ?_, a2, fun q hq hh => ?_, by simp⟩
          · rcases a1 with a1 | a1
            · simp [a1]
            · simp at a1; simp [a1]
          · rw [List.mem_cons] at hq
            rcases hq with rfl | hq
            · exact a4 q rfl
            · exact a3 q hq hh
        · cases (h2 h).1
      | some q0 =>
        by_cases hlt : r.lt q0
        · have e : bestS a l r (some q0) = some r := by simp [bestS, hr, bet, hlt]
          rw [e]
          obtain ⟨h1, h2⟩ := bestR_spec a l L (some r) (fun q hq => by simp at hq; subst hq; exact hr)
          refine ⟨fun p hp => ?_, fun h => ?_⟩
          · obtain ⟨a1, a2, a3, a4⟩ := h1 p hp
            refine ⟨.inl ?_, a2, fun q hq hh => ?_, fun q hq hk => ?_⟩
            · rcases a1 with a1 | a1
              · simp [a1]
              · simp at a1; simp [a1]
            · rw [List.mem_cons] at hq
              rcases hq with rfl | hq
              · exact a4 q rfl
              · exact a3 q hq hh
            · simp at hq; subst hq
              exact a4 r rfl (Rt.lt_trans hlt hk)
          · cases (h2 h).1
        · have e : bestS a l r (some q0) = some q0 := by simp [bestS, hr, bet, hlt]
          rw [e]
          have hq0 := hb q0 rfl
          obtain ⟨h1, h2⟩ := bestR_spec a l L (some q0) hb
          refine ⟨fun p hp => ?_, fun h => ?_⟩
          · obtain ⟨a1, a2, a3, a4⟩ := h1 p hp
            refine ⟨?_, a2, fun q hq hh => ?_, a4⟩
            · rcases a1 with a1 | a1
              · exact .inl (by simp [a1])
              · exact .inr a1
            · rw [List.mem_cons] at hq
              rcases hq with rfl | hq
              · by_cases hqq : q = q0
                · subst hqq; exact a4 q rfl
                · intro hk
                  exact a4 q0 rfl (Rt.lt_trans (Rt.lt_tri (hh.1.trans hq0.1.symm) (hh.2.trans hq0.2.symm) hlt hqq) hk)
              · exact a3 q hq hh
          · cases (h2 h).1
    · have e : bestS a l r b = b := by simp [bestS, hr]
      rw [e]
      obtain ⟨h1, h2⟩ := bestR_spec a l L b hb
      refine ⟨fun p hp => ?_, fun h => ?_⟩
      · obtain ⟨a1, a2, a3, a4⟩ := h1 p hp
        refine ⟨?_, a2, fun q hq hh => ?_, a4⟩
        · rcases a1 with a1 | a1
          · exact .inl (by simp [a1])
          · exact .inr a1
        · rw [List.mem_cons] at hq
          rcases hq with rfl | hq
          · exact absurd hh hr
          · exact a3 q hq hh
      · obtain ⟨e, a2⟩ := h2 h
        refine ⟨e, fun q hq => ?_⟩
        rw [List.mem_cons] at hq
        rcases hq with rfl | hq
        · exact hr
        · exact a2 q hq
theorem best_some {a l : Int} {L : List Rt} {p : Rt} (h : bestR a l L none = some p) : p ∈ L ∧ p.of a l ∧ ∀ q ∈ L, q.of a l → ¬ q.lt p := by
  obtain ⟨h1, h2, h3, -⟩ := (bestR_spec a l L none (by simp)).1 p h
  refine ⟨?_, h2, h3⟩
  rcases h1 with h1 | h1
  · exact h1
  · cases h1
theorem best_none {a l : Int} {L : List Rt} (h : bestR a l L none = none) : ∀ q ∈ L, ¬ q.of a l := ((bestR_spec a l L none (by simp)).2 h).2
/-- What is best is told by what stands there alone. -/
theorem best_is {a l : Int} {L : List Rt} {p : Rt} (hp : p ∈ L) (ho : p.of a l) (hm : ∀ q ∈ L, q.of a l → ¬ q.lt p) : bestR a l L none = some p := by
  cases h : bestR a l L none with
  | none => exact absurd ho (best_none h p hp)
  | some q =>
    obtain ⟨h1, h2, h3⟩ := best_some h
    by_cases e : q = p
    · rw [e]
    · exact absurd (Rt.lt_tri (h2.1.trans ho.1.symm) (h2.2.trans ho.2.symm) (hm q h1 h2) e) (h3 p hp ho)
theorem best_is_none {a l : Int} {L : List Rt} (h : ∀ q ∈ L, ¬ q.of a l) : bestR a l L none = none := by
  cases hb : bestR a l L none with
  | none => rfl
  | some q => exact absurd (best_some hb).2.1 (h q (best_some hb).1)
theorem best_ext {a l : Int} {L M : List Rt} (h : ∀ p, p.of a l → (p ∈ L ↔ p ∈ M)) : bestR a l L none = bestR a l M none := by
  cases hb : bestR a l M none with
  | none => exact best_is_none fun q hq ho => best_none hb q ((h q ho).1 hq) ho
  | some p =>
    obtain ⟨h1, h2, h3⟩ := best_some hb
    exact best_is ((h p h2).2 h1) h2 fun q hq ho => h3 q ((h q ho).1 hq) ho
theorem longR_spec (x : Int) : ∀ (L : List Rt) (b : Option Rt), (∀ q, b = some q → hasB q.a q.l x = true) →
    (∀ p, longR x L b = some p → (p ∈ L ∨ b = some p) ∧ hasB p.a p.l x = true ∧ (∀ q ∈ L, hasB q.a q.l x = true → q.l ≤ p.l) ∧ (∀ q, b = some q → q.l ≤ p.l)) ∧
    (longR x L b = none → b = none ∧ ∀ q ∈ L, hasB q.a q.l x = false)
  | [], b, hb => by
    refine ⟨fun p hp => ?_, fun h => ⟨h, by simp⟩⟩
    rw [longR] at hp
    exact ⟨.inr hp, hb p hp, by simp, fun q hq => by rw [hp] at hq; simp at hq; subst hq; omega⟩
  | r :: L, b, hb => by
    rw [longR]
    cases hr : hasB r.a r.l x
    · have e : longS x r b = b := by simp [longS, hr]
      rw [e]
      obtain ⟨h1, h2⟩ := longR_spec x L b hb
      refine ⟨fun p hp => ?_, fun h => ?_⟩
      · obtain ⟨a1, a2, a3, a4⟩ := h1 p hp
        refine ⟨?_, a2, fun q hq hh => ?_, a4⟩
        · rcases a1 with a1 | a1
          · exact .inl (by simp [a1])
          · exact .inr a1
        · rw [List.mem_cons] at hq
          rcases hq with rfl | hq
          · rw [hr] at hh; cases hh
          · exact a3 q hq hh
      · obtain ⟨e, a2⟩ := h2 h
        refine ⟨e, fun q hq => ?_⟩
        rw [List.mem_cons] at hq
        rcases hq with rfl | hq
        · exact hr
        · exact a2 q hq
    · obtain ⟨c, hc, hk, hcr, hcb, hcm⟩ : ∃ c, longS x r b = some c ∧ hasB c.a c.l x = true ∧ r.l ≤ c.l ∧ (∀ q, b = some q → q.l ≤ c.l) ∧ (c = r ∨ b = some c) := by
        cases b with
        | none => exact ⟨r, by simp [longS, hr], hr, by omega, by simp, .inl rfl⟩
        | some q0 =>
          by_cases hlt : q0.l < r.l
          · exact ⟨r, by simp [longS, hr, hlt], hr, by omega, fun q hq => by simp at hq; subst hq; omega, .inl rfl⟩
          · exact ⟨q0, by simp [longS, hr, hlt], hb q0 rfl, by omega, fun q hq => by simp at hq; subst hq; omega, .inr rfl⟩
      rw [hc]
      obtain ⟨h1, h2⟩ := longR_spec x L (some c) (fun q hq => by simp at hq; subst hq; exact hk)
      refine ⟨fun p hp => ?_, fun h => ?_⟩
      · obtain ⟨a1, a2, a3, a4⟩ := h1 p hp
        have a5 := a4 c rfl
        refine ⟨?_, a2, fun q hq hh => ?_, fun q hq => ?_⟩
        · rcases a1 with a1 | a1
          · exact .inl (by simp [a1])
          · simp at a1; subst a1
            rcases hcm with rfl | hcm
            · exact .inl (by simp)
            · exact .inr hcm
        · rw [List.mem_cons] at hq
          rcases hq with rfl | hq
          · omega
          · exact a3 q hq hh
        · have := hcb q hq; omega
      · cases (h2 h).1
theorem findR_some {x : Int} {L : List Rt} {p : Rt} (h : findR x L = some p) : p ∈ L ∧ hasB p.a p.l x = true ∧ (∀ q ∈ L, hasB q.a q.l x = true → q.l ≤ p.l) ∧ ∀ q ∈ L, q.of p.a p.l → ¬ q.lt p := by
  unfold findR at h
  obtain ⟨r, hr, hb⟩ := Option.bind_eq_some_iff.1 h
  obtain ⟨-, h2, h3, -⟩ := (longR_spec x L none (by simp)).1 r hr
  obtain ⟨g1, g2, g3⟩ := best_some hb
  rw [← g2.1, ← g2.2] at h2
  rw [← g2.2] at h3
  rw [← g2.1, ← g2.2] at g3
  exact ⟨g1, h2, h3, g3⟩
theorem findR_none {x : Int} {L : List Rt} (h : findR x L = none) : ∀ q ∈ L, hasB q.a q.l x = false := by
  unfold findR at h
  cases hl : longR x L none with
  | none => exact ((longR_spec x L none (by simp)).2 hl).2
  | some r =>
    rw [hl] at h
    simp at h
    obtain ⟨h1, -⟩ := (longR_spec x L none (by simp)).1 r hl
    rcases h1 with h1 | h1
    · exact absurd ⟨rfl, rfl⟩ (best_none h r h1)
    · cases h1
theorem findR_is_none {x : Int} {L : List Rt} (h : ∀ q ∈ L, hasB q.a q.l x = false) : findR x L = none := by
  cases hf : findR x L with
  | none => rfl
  | some p =>
    obtain ⟨h1, h2, -⟩ := findR_some hf
    rw [h p h1] at h2; cases h2
theorem hasR_uniq {a b l x : Int} (h1 : hasB a l x = true) (h2 : hasB b l x = true) : a = b := by
  unfold hasB at h1 h2
  simp only [Bool.and_eq_true, beq_iff_eq] at h1 h2
  rw [← h1.2, ← h2.2]
/-- What is found is told by what stands there alone. -/
theorem findR_is {x : Int} {L : List Rt} {p : Rt} (hp : p ∈ L) (hh : hasB p.a p.l x = true) (hm : ∀ q ∈ L, hasB q.a q.l x = true → q.l ≤ p.l) (hb : ∀ q ∈ L, q.of p.a p.l → ¬ q.lt p) : findR x L = some p := by
  cases h : findR x L with
  | none => rw [findR_none h p hp] at hh; cases hh
  | some q =>
    obtain ⟨h1, h2, h3, h4⟩ := findR_some h
    have e : q.l = p.l := by have := hm q h1 h2; have := h3 p hp hh; omega
    have e2 : q.a = p.a := by rw [e] at h2; exact hasR_uniq h2 hh
    by_cases e3 : q = p
    · rw [e3]
    · exact absurd (Rt.lt_tri e2 e (hb q h1 ⟨e2, e⟩) e3) (h4 p hp ⟨e2.symm, e.symm⟩)
/-- The longest prefix of another list of the same prefixes will do: what a program finds by a trie. -/
theorem findR_by {x a l : Int} {L : List Rt} (hh : hasB a l x = true) (hi : ∃ q ∈ L, q.of a l) (hm : ∀ q ∈ L, hasB q.a q.l x = true → q.l ≤ l) : findR x L = bestR a l L none := by
  cases h : bestR a l L none with
  | none => obtain ⟨q, hq, ho⟩ := hi; exact absurd ho (best_none h q hq)
  | some p =>
    obtain ⟨h1, h2, h3⟩ := best_some h
    refine findR_is h1 (by rw [h2.1, h2.2]; exact hh) (by rw [h2.2]; exact hm) (by rw [h2.1, h2.2]; exact h3)
theorem findR_ext {x : Int} {L M : List Rt} (h : ∀ p, p ∈ L ↔ p ∈ M) : findR x L = findR x M := by
  cases hf : findR x M with
  | none => exact findR_is_none fun q hq => findR_none hf q ((h q).1 hq)
  | some p =>
    obtain ⟨h1, h2, h3, h4⟩ := findR_some hf
    exact findR_is ((h p).2 h1) h2 (fun q hq => h3 q ((h q).1 hq)) fun q hq => h4 q ((h q).1 hq)

/-! Many Puts of keys of their own. -/
theorem putRX_new {most : Int} {L : List Rt} {x : Rt} (hm : mayR x = true) (hl : (L.length : Int) < most) : putRX most L x = 0 := by
  unfold putRX
  rw [if_neg (by simp [hm])]
  split
  · rfl
  · rw [if_neg (by omega)]
/-- Puts of routes whose keys are all different, where there is room: those that may be are there. -/
theorem puts_mem {most : Int} : ∀ (l : List Rt) (L : List Rt), SrtR L → (∀ x ∈ l, 0 ≤ x.a ∧ x.a < 4294967296 ∧ 0 ≤ x.t ∧ x.t < 65536) → GoodR L → l.Pairwise (fun x y => x.k ≠ y.k) → (∀ x ∈ l, ∀ p ∈ L, p.k ≠ x.k) → (L.length + l.length : Int) ≤ most →
    GoodR (l.foldl (putR most) L) ∧ (l.foldl (putR most) L).length ≤ L.length + l.length ∧ ∀ p, p ∈ l.foldl (putR most) L ↔ p ∈ L ∨ p ∈ l ∧ mayR p = true
  | [], L, _, _, hg, _, _, _ => by simp [hg]
  | x :: l, L, hs, hu, hg, hp, hn, hl => by
    rw [List.pairwise_cons] at hp
    obtain ⟨u1, u2, u3, u4⟩ := hu x (by simp)
    have hg2 := goodR_put (most := most) hg u1 u2 u3 u4
    simp only [List.length_cons] at hl
    have hlen := putR_len most L x
    cases hm : mayR x
    · have e : putR most L x = L := putR_same (by simp [putRX, hm])
      rw [List.foldl_cons, e]
      obtain ⟨h1, h2, h3⟩ := puts_mem (most := most) l L hs (fun y hy => hu y (by simp [hy])) hg hp.2 (fun y hy => hn y (by simp [hy])) (by omega)
      refine ⟨h1, by simp only [List.length_cons]; omega, fun p => ?_⟩
      rw [h3 p]
      constructor
      · rintro (h | ⟨h, k⟩)
        · exact .inl h
        · exact .inr ⟨by simp [h], k⟩
      · rintro (h | ⟨h, k⟩)
        · exact .inl h
        · rw [List.mem_cons] at h
          rcases h with rfl | h
          · rw [hm] at k; cases k
          · exact .inr ⟨h, k⟩
    · have hx0 := putRX_new (L := L) (most := most) hm (by omega)
      have hmem := fun p => mem_putR (p := p) hs hx0
      rw [List.foldl_cons]
      obtain ⟨h1, h2, h3⟩ := puts_mem (most := most) l (putR most L x) hg2.s (fun y hy => hu y (by simp [hy])) hg2 hp.2 (fun y hy p hpm => by
        rcases (hmem p).1 hpm with rfl | ⟨h, -⟩
        · exact hp.1 y hy
        · exact hn y (by simp [hy]) p h) (by omega)
      refine ⟨h1, by simp only [List.length_cons]; omega, fun p => ?_⟩
      rw [h3 p, hmem p]
      constructor
      · rintro ((h | ⟨h, -⟩) | ⟨h, k⟩)
        · subst h; exact .inr ⟨by simp, hm⟩
        · exact .inl h
        · exact .inr ⟨by simp [h], k⟩
      · rintro (h | ⟨h, k⟩)
        · exact .inl (.inr ⟨h, hn x (by simp) p h⟩)
        · rw [List.mem_cons] at h
          rcases h with h | h
          · exact .inl (.inl h)
          · exact .inr ⟨h, k⟩
/-- P9.4: the order of the Puts does not matter. -/
theorem puts_swap {most : Int} (l : List Rt) (hu : ∀ x ∈ l, 0 ≤ x.a ∧ x.a < 4294967296 ∧ 0 ≤ x.t ∧ x.t < 65536) (hp : l.Pairwise (fun x y => x.k ≠ y.k)) (hl : (l.length : Int) ≤ most) :
    l.foldl (putR most) [] = l.reverse.foldl (putR most) [] := by
  obtain ⟨h1, -, h3⟩ := puts_mem (most := most) l [] goodR_nil.s hu goodR_nil hp (by simp) (by simpa using hl)
  obtain ⟨g1, -, g3⟩ := puts_mem (most := most) l.reverse [] goodR_nil.s (fun x hx => hu x (by simpa using hx)) goodR_nil (by
    rw [List.pairwise_reverse]
    exact hp.imp fun h k => h k.symm) (by simp) (by simpa using hl)
  refine srtR_ext h1.s g1.s fun p => ?_
  rw [h3 p, g3 p]
  simp
end Go.Proofs.Ytcabeclbdjfoaaa
