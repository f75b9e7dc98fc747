/- A journal: a list of facts, some of which are kept; the last number of a kind and a key; the facts in order; their bytes. No program is named here. -/
import Derived.WalkKit
namespace Go.Proofs.Ytofmgkpghkeegaa

/-- A fact: its kind, its key, its number. -/
structure Fc where
  k : Int
  y : Int
  n : Int
deriving DecidableEq
def Fc.lt (x z : Fc) : Prop := x.k < z.k ∨ x.k = z.k ∧ x.y < z.y
instance (x z : Fc) : Decidable (x.lt z) := by unfold Fc.lt; infer_instance
theorem fc_ext {x z : Fc} (h1 : x.k = z.k) (h2 : x.y = z.y) (h3 : x.n = z.n) : x = z := by cases x; cases z; simp_all
theorem Fc.lt_trans {x z u : Fc} (h1 : x.lt z) (h2 : z.lt u) : x.lt u := by unfold Fc.lt at *; omega
theorem Fc.lt_irrefl (x : Fc) : ¬ x.lt x := by unfold Fc.lt; omega
theorem Fc.lt_asym {x z : Fc} (h : x.lt z) : ¬ z.lt x := fun k => Fc.lt_irrefl x (Fc.lt_trans h k)
theorem Fc.lt_ne {x z : Fc} (h : x.lt z) : x ≠ z := by rintro rfl; exact Fc.lt_irrefl x h
/-- The last number of a kind and a key. -/
def lastF (k y : Int) : List Fc → Option Int
  | [] => none
  | x :: r => (lastF k y r).or (if x.k = k ∧ x.y = y then some x.n else none)
theorem lastF_append (k y : Int) : ∀ (A B : List Fc), lastF k y (A ++ B) = (lastF k y B).or (lastF k y A)
  | [], B => by simp [lastF]
  | x :: A, B => by rw [List.cons_append, lastF, lastF_append k y A B, lastF, Option.or_assoc]
theorem lastF_snoc (k y : Int) (A : List Fc) (f : Fc) : lastF k y (A ++ [f]) = if f.k = k ∧ f.y = y then some f.n else lastF k y A := by
  rw [lastF_append]
  simp only [lastF, Option.none_or]
  split <;> simp
theorem lastF_mem {k y n : Int} : ∀ {A : List Fc}, lastF k y A = some n → (⟨k, y, n⟩ : Fc) ∈ A
  | [], h => by simp [lastF] at h
  | x :: A, h => by
    rw [lastF] at h
    cases hA : lastF k y A with
    | some u =>
      rw [hA] at h
      simp at h
      subst h
      exact List.mem_cons_of_mem _ (lastF_mem hA)
    | none =>
      rw [hA] at h
      simp only [Option.none_or] at h
      split at h
      · rename_i hc
        simp only [Option.some.injEq] at h
        exact List.mem_cons.2 (.inl (fc_ext hc.1.symm hc.2.symm h.symm))
      · cases h
theorem lastF_some {k y : Int} : ∀ {A : List Fc} {f : Fc}, f ∈ A → f.k = k → f.y = y → ∃ n, lastF k y A = some n
  | [], f, h, _, _ => by cases h
  | x :: A, f, h, h1, h2 => by
    rw [lastF]
    cases hA : lastF k y A with
    | some u => exact ⟨u, by simp⟩
    | none =>
      rw [List.mem_cons] at h
      rcases h with rfl | h
      · exact ⟨f.n, by simp [h1, h2]⟩
      · obtain ⟨n, hn⟩ := lastF_some h h1 h2
        rw [hA] at hn; cases hn
def numF (k y : Int) (L : List Fc) : Int := (lastF k y L).getD 0
def isF (k y : Int) (L : List Fc) : Bool := (lastF k y L).isSome
theorem lastF_iff {k y n : Int} {L : List Fc} : lastF k y L = some n ↔ isF k y L = true ∧ numF k y L = n := by
  unfold isF numF
  cases lastF k y L <;> simp
/-- A fact is put in its place. -/
def insF (f : Fc) : List Fc → List Fc
  | [] => [f]
  | o :: r => if o.lt f then o :: insF f r else if o = f then o :: r else f :: o :: r
def SrtF (L : List Fc) : Prop := L.Pairwise Fc.lt
theorem mem_insF {f p : Fc} : ∀ {L : List Fc}, p ∈ insF f L ↔ p = f ∨ p ∈ L
  | [] => by simp [insF]
  | o :: r => by
    rw [insF]
    split
    · rw [List.mem_cons, mem_insF, List.mem_cons]
      constructor
      · rintro (h | h | h)
        · exact .inr (.inl h)
        · exact .inl h
        · exact .inr (.inr h)
      · rintro (h | h | h)
        · exact .inr (.inl h)
        · exact .inl h
        · exact .inr (.inr h)
    · split
      · rename_i h1
        subst h1
        simp
      · simp
theorem srtF_ins {f : Fc} : ∀ {L : List Fc}, SrtF L → (∀ p ∈ L, p.k = f.k → p.y = f.y → p = f) → SrtF (insF f L)
  | [], _, _ => by simp [insF, SrtF]
  | o :: r, hs, hn => by
    have hs' := hs
    rw [SrtF, List.pairwise_cons] at hs
    rw [insF]
    split
    · rename_i h1
      rw [SrtF, List.pairwise_cons]
      refine ⟨fun p hp => ?_, srtF_ins hs.2 fun p hp => hn p (List.mem_cons_of_mem _ hp)⟩
      rcases mem_insF.1 hp with rfl | hp
      · exact h1
      · exact hs.1 p hp
    · split
      · exact hs'
      · rename_i h1 h2
        have h3 : f.lt o := by
          unfold Fc.lt at *
          have : ¬ (o.k = f.k ∧ o.y = f.y) := fun h => h2 (hn o (List.mem_cons_self ..) h.1 h.2)
          omega
        rw [SrtF, List.pairwise_cons]
        refine ⟨fun p hp => ?_, hs'⟩
        rw [List.mem_cons] at hp
        rcases hp with rfl | hp
        · exact h3
        · exact Fc.lt_trans h3 (hs.1 p hp)
theorem insF_le (f : Fc) : ∀ (L : List Fc), (insF f L).length ≤ L.length + 1
  | [] => by simp [insF]
  | o :: r => by
    have := insF_le f r
    rw [insF]
    split
    · simp; omega
    · split <;> simp
/-- How many come ahead of it. -/
def atF (f : Fc) (L : List Fc) : Nat := (L.takeWhile fun o => decide (o.lt f)).length
theorem atF_le (f : Fc) (L : List Fc) : atF f L ≤ L.length := (List.takeWhile_sublist _).length_le
theorem atF_lt {f : Fc} : ∀ {L : List Fc} {j : Nat} {o : Fc}, L[j]? = some o → (∀ i q, i < j → L[i]? = some q → q.lt f) → (o.lt f → j < atF f L) ∧ (¬ o.lt f → atF f L = j)
  | [], j, o, h, _ => by simp at h
  | x :: L, 0, o, h, _ => by
    simp at h
    subst h
    unfold atF
    rw [List.takeWhile_cons]
    by_cases hx : x.lt f <;> simp [hx]
  | x :: L, j + 1, o, h, hall => by
    have hx : x.lt f := hall 0 x (Nat.succ_pos _) rfl
    have ih := atF_lt (f := f) (L := L) (j := j) (o := o) (by simpa using h) fun i q hi hq => hall (i + 1) q (by omega) (by simpa using hq)
    unfold atF at *
    rw [List.takeWhile_cons, if_pos (by simpa using hx)]
    simp only [List.length_cons]
    exact ⟨fun h1 => by have := ih.1 h1; omega, fun h1 => by have := ih.2 h1; omega⟩
theorem atF_all {f : Fc} : ∀ {L : List Fc}, (∀ (i : Nat) (q : Fc), L[i]? = some q → q.lt f) → atF f L = L.length
  | [], _ => rfl
  | x :: L, h => by
    have ih := atF_all (f := f) (L := L) fun i q hq => h (i + 1) q (by simpa using hq)
    have hx : x.lt f := h 0 x rfl
    unfold atF at *
    rw [List.takeWhile_cons, if_pos (by simpa using hx)]
    simp only [List.length_cons, ih]
theorem insF_at (f : Fc) : ∀ (L : List Fc), insF f L = if L[atF f L]? = some f then L else L.take (atF f L) ++ [f] ++ L.drop (atF f L)
  | [] => by simp [insF, atF]
  | o :: r => by
    have ih := insF_at f r
    unfold atF at *
    rw [insF, List.takeWhile_cons]
    by_cases h1 : o.lt f
    · simp only [h1, decide_true, if_true, List.length_cons, List.getElem?_cons_succ, List.take_succ_cons, List.drop_succ_cons]
      rw [ih]
      split <;> simp
    · simp only [h1, decide_false, Bool.false_eq_true, if_false, List.length_nil, List.getElem?_cons_zero, List.take_zero, List.drop_zero, List.nil_append, Option.some.injEq]
      split <;> simp
/-- The facts of the first ones, in order, each with its last number. -/
def fcts (L M : List Fc) : List Fc := M.foldl (fun out f => insF ⟨f.k, f.y, numF f.k f.y L⟩ out) []
def factsJ (L : List Fc) : List Fc := fcts L L
theorem fcts_snoc (L M : List Fc) (f : Fc) : fcts L (M ++ [f]) = insF ⟨f.k, f.y, numF f.k f.y L⟩ (fcts L M) := by unfold fcts; rw [List.foldl_append]; rfl
theorem fcts_next {L : List Fc} {j : Nat} {f : Fc} (h : L[j]? = some f) : fcts L (L.take (j + 1)) = insF ⟨f.k, f.y, numF f.k f.y L⟩ (fcts L (L.take j)) := by
  rw [List.take_add_one, h]; exact fcts_snoc L _ f
theorem fcts_all (L : List Fc) : fcts L (L.take L.length) = factsJ L := by rw [List.take_length]; rfl
theorem foldF_good (L : List Fc) : ∀ (M out : List Fc), SrtF out → (∀ p ∈ out, p.n = numF p.k p.y L) →
    SrtF (M.foldl (fun out f => insF ⟨f.k, f.y, numF f.k f.y L⟩ out) out) ∧ (∀ p, p ∈ M.foldl (fun out f => insF ⟨f.k, f.y, numF f.k f.y L⟩ out) out ↔ p ∈ out ∨ p.n = numF p.k p.y L ∧ ∃ f ∈ M, f.k = p.k ∧ f.y = p.y) ∧ (M.foldl (fun out f => insF ⟨f.k, f.y, numF f.k f.y L⟩ out) out).length ≤ out.length + M.length
  | [], out, hs, _ => ⟨hs, by simp, by simp⟩
  | f :: M, out, hs, hn => by
    have h1 : SrtF (insF ⟨f.k, f.y, numF f.k f.y L⟩ out) := srtF_ins hs fun p hp e1 e2 => fc_ext e1 e2 (by rw [hn p hp, e1, e2])
    have h2 : ∀ p ∈ insF ⟨f.k, f.y, numF f.k f.y L⟩ out, p.n = numF p.k p.y L := fun p hp => by
      rcases mem_insF.1 hp with rfl | hp
      · rfl
      · exact hn p hp
    obtain ⟨g1, g2, g3⟩ := foldF_good L M _ h1 h2
    refine ⟨g1, fun p => ?_, ?_⟩
    · rw [List.foldl_cons, g2, mem_insF]
      constructor
      · rintro ((rfl | h) | ⟨h, f', hf, e⟩)
        · exact .inr ⟨rfl, f, List.mem_cons_self .., rfl, rfl⟩
        · exact .inl h
        · exact .inr ⟨h, f', List.mem_cons_of_mem _ hf, e⟩
      · rintro (h | ⟨h, f', hf, e1, e2⟩)
        · exact .inl (.inr h)
        · rw [List.mem_cons] at hf
          rcases hf with rfl | hf
          · exact .inl (.inl (fc_ext e1.symm e2.symm (by rw [h, e1, e2])))
          · exact .inr ⟨h, f', hf, e1, e2⟩
    · rw [List.foldl_cons]
      have := insF_le ⟨f.k, f.y, numF f.k f.y L⟩ out
      simp only [List.length_cons]
      omega
theorem factsJ_srt (L : List Fc) : SrtF (factsJ L) := (foldF_good L L [] List.Pairwise.nil (by simp)).1
theorem factsJ_len (L : List Fc) : (factsJ L).length ≤ L.length := by have := (foldF_good L L [] List.Pairwise.nil (by simp)).2.2; simpa [factsJ, fcts] using this
theorem fcts_len (L M : List Fc) : (fcts L M).length ≤ M.length := by have := (foldF_good L M [] List.Pairwise.nil (by simp)).2.2; simpa [fcts] using this
theorem fcts_mem {L M : List Fc} {p : Fc} : p ∈ fcts L M ↔ p.n = numF p.k p.y L ∧ ∃ f ∈ M, f.k = p.k ∧ f.y = p.y := by
  have := (foldF_good L M [] List.Pairwise.nil (by simp)).2.1 p
  simpa [fcts] using this
theorem factsJ_mem {L : List Fc} {p : Fc} : p ∈ factsJ L ↔ lastF p.k p.y L = some p.n := by
  unfold factsJ
  rw [fcts_mem]
  constructor
  · rintro ⟨h1, f, hf, e1, e2⟩
    obtain ⟨n, hn⟩ := lastF_some hf e1 e2
    rw [hn, h1]
    unfold numF
    rw [hn]
    rfl
  · intro h
    refine ⟨by unfold numF; rw [h]; rfl, _, lastF_mem h, rfl, rfl⟩
theorem srtF_ext {L M : List Fc} (h1 : SrtF L) (h2 : SrtF M) (h : ∀ x, x ∈ L ↔ x ∈ M) : L = M := by
  have n1 : L.Nodup := h1.imp fun {a b} h => Fc.lt_ne h
  have n2 : M.Nodup := h2.imp fun {a b} h => Fc.lt_ne h
  exact List.Perm.eq_of_pairwise (le := fun a b => decide (a.lt b) = true) (fun a b _ _ h1 h2 => by simp only [decide_eq_true_eq] at h1 h2; exact absurd h2 (Fc.lt_asym h1)) (h1.imp fun {a b} h => by simpa using h) (h2.imp fun {a b} h => by simpa using h) ((List.perm_ext_iff_of_nodup n1 n2).2 h)
theorem srtF_key {L : List Fc} (h : SrtF L) {p q : Fc} (hp : p ∈ L) (hq : q ∈ L) (e1 : p.k = q.k) (e2 : p.y = q.y) : p = q := by
  induction L with
  | nil => cases hp
  | cons x L ih =>
    rw [SrtF, List.pairwise_cons] at h
    rw [List.mem_cons] at hp hq
    rcases hp with rfl | hp <;> rcases hq with rfl | hq
    · rfl
    · have := h.1 q hq; unfold Fc.lt at this; omega
    · have := h.1 p hp; unfold Fc.lt at this; omega
    · exact ih h.2 hp hq
theorem last_facts (k y : Int) (L : List Fc) : lastF k y (factsJ L) = lastF k y L := by
  cases h : lastF k y L with
  | some n =>
    have hm : (⟨k, y, n⟩ : Fc) ∈ factsJ L := factsJ_mem.2 h
    obtain ⟨u, hu⟩ := lastF_some hm rfl rfl
    have := srtF_key (factsJ_srt L) hm (lastF_mem hu) rfl rfl
    rw [hu]
    simpa using (congrArg Fc.n this).symm
  | none =>
    cases h2 : lastF k y (factsJ L) with
    | none => rfl
    | some u =>
      have := factsJ_mem.1 (lastF_mem h2)
      simp only at this
      rw [h] at this; cases this
theorem facts_twice (L : List Fc) : factsJ (factsJ L) = factsJ L := srtF_ext (factsJ_srt _) (factsJ_srt _) fun p => by rw [factsJ_mem, factsJ_mem, last_facts]
/-- What may be put. -/
def MayF (f : Fc) : Prop := 0 ≤ f.k ∧ f.k ≤ 255
def putX (room : Int) (L : List Fc) (f : Fc) : Int := if f.k < 0 ∨ 255 < f.k then 1 else if room ≤ (L.length : Int) then 4 else 0
def putJ (room : Int) (L : List Fc) (f : Fc) : List Fc := if putX room L f = 0 then L ++ [f] else L
/-- How many of those that are not kept stay. -/
def crN (keep : Int) (d : Nat) : Nat := (if 0 < keep then keep % (12 * (d : Int) + 1) else 0).toNat / 12
theorem crN_le (keep : Int) (d : Nat) : crN keep d ≤ d := by
  unfold crN
  split
  · have h1 := Int.emod_lt_of_pos keep (show 0 < 12 * (d : Int) + 1 by omega)
    have h2 := Int.emod_nonneg keep (show 12 * (d : Int) + 1 ≠ 0 by omega)
    omega
  · simp
theorem crN_zero (keep : Int) : crN keep 0 = 0 := Nat.le_zero.1 (crN_le keep 0)
def crJ (L : List Fc) (K : Nat) (keep : Int) : List Fc := L.take (K + crN keep (L.length - K))
theorem crJ_len {L : List Fc} {K : Nat} (h : K ≤ L.length) (keep : Int) : (crJ L K keep).length = K + crN keep (L.length - K) := by
  have := crN_le keep (L.length - K)
  unfold crJ
  rw [List.length_take]
  omega
theorem crJ_all {L : List Fc} (keep : Int) : crJ L L.length keep = L := by unfold crJ; rw [Nat.sub_self, crN_zero, Nat.add_zero, List.take_length]
/-- A fact's bytes. -/
def b4 (n : Int) : List Int := [n / 16777216, n / 65536 % 256, n / 256 % 256, n % 256]
def byF (f : Fc) : List Int := [f.k, 0, 0, 0] ++ b4 f.y ++ b4 f.n
def bytesJ (L : List Fc) : List Int := L.flatMap byF
theorem bytesJ_next {L : List Fc} {j : Nat} {f : Fc} (h : L[j]? = some f) : bytesJ (L.take (j + 1)) = bytesJ (L.take j) ++ [f.k, 0, 0, 0] ++ b4 f.y ++ b4 f.n := by
  rw [List.take_add_one, h]; simp [bytesJ, byF]
theorem bytesJ_len (L : List Fc) : (bytesJ L).length = 12 * L.length := by
  unfold bytesJ
  induction L with
  | nil => rfl
  | cons f L ih => rw [List.flatMap_cons, List.length_append, ih]; simp [byF, b4]; omega
theorem putX_arg {room : Int} {L : List Fc} {f : Fc} (h : f.k < 0 ∨ 255 < f.k) : putX room L f = 1 := by unfold putX; rw [if_pos h]
theorem putX_full {room : Int} {L : List Fc} {f : Fc} (h : MayF f) (hr : room ≤ (L.length : Int)) : putX room L f = 4 := by unfold MayF at h; unfold putX; rw [if_neg (by omega), if_pos hr]
theorem putX_ok {room : Int} {L : List Fc} {f : Fc} (h : MayF f) (hr : ¬ room ≤ (L.length : Int)) : putX room L f = 0 := by unfold MayF at h; unfold putX; rw [if_neg (by omega), if_neg hr]
theorem putJ_no {room : Int} {L : List Fc} {f : Fc} (h : putX room L f ≠ 0) : putJ room L f = L := by unfold putJ; rw [if_neg h]
theorem putJ_ok {room : Int} {L : List Fc} {f : Fc} (h : putX room L f = 0) : putJ room L f = L ++ [f] := by unfold putJ; rw [if_pos h]
theorem putJ_le (room : Int) (L : List Fc) (f : Fc) : (putJ room L f).length ≤ L.length + 1 := by unfold putJ; split <;> simp
theorem le_putJ (room : Int) (L : List Fc) (f : Fc) : L.length ≤ (putJ room L f).length := by unfold putJ; split <;> simp
theorem may_of {room : Int} {L : List Fc} {f : Fc} (h : putX room L f = 0) : MayF f := by
  unfold putX at h
  unfold MayF
  split at h
  · cases h
  · omega
theorem mayPut {room : Int} {L : List Fc} {f : Fc} (h : ∀ p ∈ L, MayF p) : ∀ p ∈ putJ room L f, MayF p := by
  by_cases hx : putX room L f = 0
  · rw [putJ_ok hx]
    intro p hp
    rw [List.mem_append, List.mem_singleton] at hp
    rcases hp with hp | rfl
    · exact h p hp
    · exact may_of hx
  · rw [putJ_no hx]; exact h
theorem factsJ_sub {L : List Fc} {P : Fc → Prop} (h : ∀ p ∈ L, P p) : ∀ p ∈ factsJ L, P p := fun p hp => h p (lastF_mem (factsJ_mem.1 hp))
end Go.Proofs.Ytofmgkpghkeegaa
