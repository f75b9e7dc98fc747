/- Bands of a translation: when they may be, what a metric becomes by them. No program is named here. -/
import Derived.WalkKit
namespace Go.Proofs.Ytlpfbmeelacgaaa

/-- A band: up to which metric, which metric. -/
structure Ba where
  u : Int
  m : Int
deriving DecidableEq
def okB (b : Ba) : Bool := decide (0 ≤ b.u ∧ b.u ≤ 4294967295 ∧ 1 ≤ b.m ∧ b.m < 4294967295)
def lnkB : Option Ba → Ba → Bool
  | none, _ => true
  | some a, b => decide (a.u < b.u ∧ a.m ≤ b.m)
def chnB : Option Ba → List Ba → Bool
  | _, [] => true
  | p, b :: r => okB b && lnkB p b && chnB (some b) r
/-- May the translation be? -/
def bandsB (L : List Ba) : Bool := decide (L.length ≤ 32) && chnB none L
def pvB (L : List Ba) : Nat → Option Ba
  | 0 => none
  | j + 1 => L[j]?
theorem dropB_at {L : List Ba} {j : Nat} {b : Ba} (h : L[j]? = some b) : L.drop j = b :: L.drop (j + 1) := by
  obtain ⟨hj, rfl⟩ := List.getElem?_eq_some_iff.1 h
  exact List.drop_eq_getElem_cons hj
theorem chn_at {L : List Ba} {j : Nat} {b : Ba} (h : L[j]? = some b) : chnB (pvB L j) (L.drop j) = (okB b && lnkB (pvB L j) b && chnB (pvB L (j + 1)) (L.drop (j + 1))) := by
  rw [dropB_at h, chnB, pvB, h]
theorem chn_end {L : List Ba} {j : Nat} (h : j = L.length) : chnB (pvB L j) (L.drop j) = true := by
  subst h; rw [List.drop_length]; cases h : pvB L L.length <;> rfl
/-- The first band that is not below n. -/
def findB (n : Int) : List Ba → Option Int
  | [] => none
  | b :: r => if n ≤ b.u then some b.m else findB n r
theorem findB_at {L : List Ba} {j : Nat} {b : Ba} {n : Int} (h : L[j]? = some b) : findB n (L.drop j) = if n ≤ b.u then some b.m else findB n (L.drop (j + 1)) := by
  rw [dropB_at h, findB]
theorem findB_end {L : List Ba} {j : Nat} {n : Int} (h : j = L.length) : findB n (L.drop j) = none := by subst h; rw [List.drop_length]; rfl
def sdB (s : Int) : Option Int := if 1 ≤ s ∧ s < 4294967295 then some s else none
def toB (L : List Ba) (s n : Int) : Option Int := if n < 0 then none else (findB n L).or (sdB s)
def toV (L : List Ba) (s n : Int) : Int := (toB L s n).getD 0
def toK (L : List Ba) (s n : Int) : Bool := (toB L s n).isSome
theorem to_neg {L : List Ba} {s n : Int} (h : n < 0) : toV L s n = 0 ∧ toK L s n = false := by unfold toV toK toB; rw [if_pos h]; exact ⟨rfl, rfl⟩
theorem to_find {L : List Ba} {s n x : Int} (h : ¬ n < 0) (hf : findB n L = some x) : toV L s n = x ∧ toK L s n = true := by unfold toV toK toB; rw [if_neg h, hf]; exact ⟨rfl, rfl⟩
theorem to_seed {L : List Ba} {s n : Int} (h : ¬ n < 0) (hf : findB n L = none) (hs : 1 ≤ s ∧ s < 4294967295) : toV L s n = s ∧ toK L s n = true := by unfold toV toK toB sdB; rw [if_neg h, hf, if_pos hs]; exact ⟨rfl, rfl⟩
theorem to_none {L : List Ba} {s n : Int} (h : ¬ n < 0) (hf : findB n L = none) (hs : ¬ (1 ≤ s ∧ s < 4294967295)) : toV L s n = 0 ∧ toK L s n = false := by unfold toV toK toB sdB; rw [if_neg h, hf, if_neg hs]; exact ⟨rfl, rfl⟩
theorem to_bd {L : List Ba} {s n : Int} (hL : ∀ b ∈ L, -9223372036854775808 ≤ b.m ∧ b.m ≤ 9223372036854775807) : -9223372036854775808 ≤ toV L s n ∧ toV L s n ≤ 9223372036854775807 := by
  unfold toV toB
  split
  · exact ⟨by decide, by decide⟩
  · have hf : ∀ x, findB n L = some x → -9223372036854775808 ≤ x ∧ x ≤ 9223372036854775807 := by
      intro x
      induction L with
      | nil => intro h; cases h
      | cons b r ih =>
        intro h
        rw [findB] at h
        split at h
        · simp only [Option.some.injEq] at h
          subst h
          exact hL b (List.mem_cons_self ..)
        · exact ih (fun c hc => hL c (List.mem_cons_of_mem _ hc)) h
    cases h : findB n L with
    | some x => exact hf x h
    | none =>
      unfold sdB
      split
      · rename_i h; simp; omega
      · simp
/-- What comes out of a chain. -/
theorem chn_out {n y : Int} : ∀ {L : List Ba} {p : Option Ba}, chnB p L = true → findB n L = some y → (∀ a, p = some a → a.m ≤ y) ∧ 1 ≤ y ∧ y < 4294967295
  | [], _, _, h => by cases h
  | b :: r, p, hc, h => by
    rw [chnB, Bool.and_eq_true, Bool.and_eq_true] at hc
    obtain ⟨⟨h1, h2⟩, h3⟩ := hc
    unfold okB at h1
    rw [decide_eq_true_eq] at h1
    have h4 : ∀ a, p = some a → a.m ≤ b.m := by
      rintro a rfl
      unfold lnkB at h2
      rw [decide_eq_true_eq] at h2
      exact h2.2
    rw [findB] at h
    split at h
    · simp only [Option.some.injEq] at h
      subst h
      exact ⟨h4, h1.2.2.1, h1.2.2.2⟩
    · obtain ⟨g1, g2, g3⟩ := chn_out h3 h
      exact ⟨fun a ha => Int.le_trans (h4 a ha) (g1 b rfl), g2, g3⟩
/-- A lesser metric becomes no greater one. -/
theorem chn_keep {a b y : Int} (hab : a ≤ b) : ∀ {L : List Ba} {p : Option Ba}, chnB p L = true → findB b L = some y → ∃ x, findB a L = some x ∧ x ≤ y
  | [], _, _, h => by cases h
  | c :: r, p, hc, h => by
    rw [chnB, Bool.and_eq_true] at hc
    have h3 := hc.2
    rw [findB] at h ⊢
    split at h
    · rw [if_pos (by omega)]
      exact ⟨_, rfl, by simp only [Option.some.injEq] at h; omega⟩
    · split
      · exact ⟨_, rfl, (chn_out h3 h).1 c rfl⟩
      · exact chn_keep hab h3 h
theorem bands_chn {L : List Ba} (h : bandsB L = true) : chnB none L = true ∧ L.length ≤ 32 := by
  unfold bandsB at h
  rw [Bool.and_eq_true, decide_eq_true_eq] at h
  exact ⟨h.2, h.1⟩
theorem sd_zero : sdB 0 = none := by decide
theorem to_zero {L : List Ba} {n : Int} (h : ¬ n < 0) : toB L 0 n = findB n L := by unfold toB; rw [if_neg h, sd_zero, Option.or_none]
theorem keep_to {L : List Ba} {a b : Int} (hm : bandsB L = true) (ha : ¬ a < 0) (hab : a ≤ b) (hk : toK L 0 b = true) : toK L 0 a = true ∧ toV L 0 a ≤ toV L 0 b ∧ 1 ≤ toV L 0 a ∧ toV L 0 b < 4294967295 := by
  unfold toK at *
  unfold toV
  have hb : ¬ b < 0 := by omega
  rw [to_zero hb] at hk
  rw [to_zero ha, to_zero hb]
  obtain ⟨y, hy⟩ := Option.isSome_iff_exists.1 hk
  obtain ⟨x, hx, hxy⟩ := chn_keep hab (bands_chn hm).1 hy
  have h1 := chn_out (bands_chn hm).1 hx
  have h2 := chn_out (bands_chn hm).1 hy
  rw [hx, hy]
  exact ⟨rfl, hxy, h1.2.1, h2.2.2⟩
/-- The bounds rise. -/
theorem chn_rise : ∀ {L : List Ba} {p : Option Ba}, chnB p L = true → (∀ (i : Nat) (b : Ba), L[i]? = some b → okB b = true ∧ ∀ a, p = some a → a.u < b.u) ∧ ∀ (i j : Nat) (a b : Ba), i < j → L[i]? = some a → L[j]? = some b → a.u < b.u
  | [], _, _ => ⟨fun i b h => by simp at h, fun i j a b _ h => by simp at h⟩
  | c :: r, p, hc => by
    rw [chnB, Bool.and_eq_true, Bool.and_eq_true] at hc
    obtain ⟨⟨h1, h2⟩, h3⟩ := hc
    obtain ⟨g1, g2⟩ := chn_rise h3
    have h4 : ∀ a, p = some a → a.u < c.u := by
      rintro a rfl
      unfold lnkB at h2
      rw [decide_eq_true_eq] at h2
      exact h2.1
    refine ⟨fun i b h => ?_, fun i j a b hij ha hb => ?_⟩
    · cases i with
      | zero => simp at h; subst h; exact ⟨h1, h4⟩
      | succ i =>
        simp at h
        have := g1 i b h
        exact ⟨this.1, fun a ha => by have h5 := h4 a ha; have h6 := this.2 c rfl; omega⟩
    · cases j with
      | zero => omega
      | succ j =>
        simp at hb
        cases i with
        | zero => simp at ha; subst ha; exact (g1 j b hb).2 c rfl
        | succ i => simp at ha; exact g2 i j a b (by omega) ha hb
theorem findB_first {n : Int} : ∀ {L : List Ba} {k : Nat} {b : Ba}, L[k]? = some b → n ≤ b.u → (∀ i a, i < k → L[i]? = some a → a.u < n) → findB n L = some b.m
  | [], k, b, h, _, _ => by simp at h
  | c :: r, 0, b, h, hn, _ => by simp at h; subst h; rw [findB, if_pos hn]
  | c :: r, k + 1, b, h, hn, hall => by
    have h1 : c.u < n := hall 0 c (Nat.succ_pos _) rfl
    rw [findB, if_neg (by omega)]
    exact findB_first (by simpa using h) hn fun i a hi ha => hall (i + 1) a (by omega) (by simpa using ha)
theorem findB_never {n : Int} : ∀ {L : List Ba}, (∀ (i : Nat) (a : Ba), L[i]? = some a → a.u < n) → findB n L = none
  | [], _ => rfl
  | c :: r, hall => by
    have h1 : c.u < n := hall 0 c rfl
    rw [findB, if_neg (by omega)]
    exact findB_never fun i a ha => hall (i + 1) a (by simpa using ha)
/-- A metric that a band tells exactly; the next greater one. -/
theorem first_to {L : List Ba} {k : Nat} {b : Ba} (hm : bandsB L = true) (hk : L[k]? = some b) : okB b = true ∧ toV L 0 b.u = b.m ∧ toK L 0 b.u = true ∧ (k + 1 = L.length → toK L 0 (b.u + 1) = false) ∧ ∀ c, L[k + 1]? = some c → toV L 0 (b.u + 1) = c.m ∧ toK L 0 (b.u + 1) = true := by
  obtain ⟨g1, g2⟩ := chn_rise (bands_chn hm).1
  have hb := (g1 k b hk).1
  have hb' := hb
  unfold okB at hb'
  rw [decide_eq_true_eq] at hb'
  refine ⟨hb, ?_⟩
  have f1 : findB b.u L = some b.m := findB_first hk (Int.le_refl _) fun i a hi ha => g2 i k a b hi ha hk
  have t1 := to_find (s := 0) (show ¬ b.u < 0 by omega) f1
  refine ⟨t1.1, t1.2, fun hl => ?_, fun c hc => ?_⟩
  · have f2 : findB (b.u + 1) L = none := findB_never fun i a ha => by
      have hi := (List.getElem?_eq_some_iff.1 ha).1
      by_cases e : i = k
      · subst e; rw [hk] at ha; simp only [Option.some.injEq] at ha; subst ha; omega
      · have := g2 i k a b (by omega) ha hk; omega
    exact (to_none (show ¬ b.u + 1 < 0 by omega) f2 (by omega)).2
  · have hbc := g2 k (k + 1) b c (by omega) hk hc
    have f2 : findB (b.u + 1) L = some c.m := findB_first hc (by omega) fun i a hi ha => by
      by_cases e : i = k
      · subst e; rw [hk] at ha; simp only [Option.some.injEq] at ha; subst ha; omega
      · have := g2 i k a b (by omega) ha hk; omega
    exact to_find (show ¬ b.u + 1 < 0 by omega) f2
/-- What a seed has to do with it. -/
theorem seed_to {L : List Ba} {one two n : Int} (h : ¬ n < 0) : (toK L 0 n = true → toK L one n = true ∧ toK L two n = true ∧ toV L one n = toV L two n) ∧ (toK L 0 n = false → toK L one n = decide (1 ≤ one ∧ one < 4294967295) ∧ (toK L one n = true → toV L one n = one)) := by
  have h0 := to_zero (L := L) h
  unfold toK
  rw [h0]
  cases hf : findB n L with
  | some x =>
    have a := to_find (s := one) h hf
    have b := to_find (s := two) h hf
    unfold toK at a b
    exact ⟨fun _ => ⟨a.2, b.2, a.1.trans b.1.symm⟩, fun h => by cases h⟩
  | none =>
    refine ⟨(fun h => by cases h), fun _ => ?_⟩
    by_cases hs : 1 ≤ one ∧ one < 4294967295
    · have a := to_seed h hf hs
      unfold toK at a
      exact ⟨by rw [a.2, decide_eq_true hs], fun _ => a.1⟩
    · have a := to_none h hf hs
      unfold toK at a
      exact ⟨by rw [a.2, decide_eq_false hs], fun h => by rw [a.2] at h; cases h⟩
theorem bands_long {L : List Ba} (h : 32 < L.length) : bandsB L = false := by unfold bandsB; rw [decide_eq_false (by omega), Bool.false_and]
theorem bands_short {L : List Ba} (h : ¬ 32 < L.length) : bandsB L = chnB none L := by unfold bandsB; rw [decide_eq_true (by omega), Bool.true_and]
end Go.Proofs.Ytlpfbmeelacgaaa
