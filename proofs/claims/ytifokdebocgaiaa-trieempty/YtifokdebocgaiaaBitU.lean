/- A tree of bits and the document's list: Put, Take, Get and Find. No program is named here. -/
import Derived.Test.YtifokdebocgaiaaBitT
namespace Go.Proofs.Ytifokdebocgaiaa

theorem adr_mult : ∀ (p : List Bool) (i : Nat), i + p.length ≤ 32 → adr p i % 2 ^ (32 - i - p.length) = 0
  | [], i, _ => by simp [adr]
  | b :: p, i, h => by
    simp only [List.length_cons] at h ⊢
    have ih := adr_mult p (i + 1) (by omega)
    rw [show 32 - (i + 1) - p.length = 32 - i - (p.length + 1) by omega] at ih
    have hd : 2 ^ (32 - i - (p.length + 1)) ∣ 2 ^ (31 - i) := Nat.pow_dvd_pow 2 (by omega)
    rw [adr]
    have h2 : 2 ^ (32 - i - (p.length + 1)) ∣ adr p (i + 1) := Nat.dvd_of_mod_eq_zero ih
    refine Nat.mod_eq_zero_of_dvd (Nat.dvd_add ?_ h2)
    split
    · exact hd
    · exact Nat.dvd_zero _
theorem adr_may {p : List Bool} (h : p.length ≤ 32) : mayB (adr p 0 : Nat) (p.length : Nat) = true := by
  unfold mayB andM
  rw [decide_eq_true_eq]
  have hm := adr_mult p 0 (by omega)
  refine ⟨by omega, by omega, ?_⟩
  rw [Nat.sub_zero] at hm
  simp only [Int.toNat_natCast]
  rw [← Int.natCast_emod, hm]
  simp
theorem adr_u {p : List Bool} (h : p.length ≤ 32) : (0 : Int) ≤ (adr p 0 : Nat) ∧ ((adr p 0 : Nat) : Int) < 4294967296 := by
  have := adr_lt p 0 (by omega)
  rw [show 2 ^ (32 - 0) = 4294967296 from by decide] at this
  omega
theorem list_good {t : Tr} (h : t.short) (hn : ∀ p n, t.get p = some n → -9223372036854775808 ≤ n ∧ n ≤ 9223372036854775807) : GoodP t.list := by
  refine ⟨list_srt h, ?_, ?_, ?_⟩
  all_goals
    rintro ⟨a, l, n⟩ hp
    obtain ⟨p, hl, rfl, rfl, hg⟩ := (mem_list h).1 hp
  · exact adr_may hl
  · exact adr_u hl
  · exact hn p n hg
/-- Which way a prefix that has an address goes. -/
theorem has_way {p : List Bool} (h : p.length ≤ 32) {x : Int} (h0 : 0 ≤ x) (h1 : x < 4294967296) : hasB (adr p 0 : Nat) (p.length : Nat) x = true ↔ p = wayX x p.length := by
  unfold hasB
  rw [adr_may h]
  simp only [Bool.true_and, beq_iff_eq, Int.toNat_natCast]
  rw [← way_adr h0 h1 p.length h]
  constructor
  · intro e
    exact adr_inj h (by omega) (by rw [way_len])
  · intro e
    rw [← e]
theorem way_of {p : List Bool} (h : p.length ≤ 32) : wayX (adr p 0 : Nat) p.length = p := by
  have hu := adr_u h
  have hm := adr_may h
  have := way_may hu.1 hu.2 hm
  rw [Int.toNat_natCast] at this
  exact adr_inj (by rw [way_len]; exact h) (by omega) (by rw [way_len])
theorem key_way {p : List Bool} (hp : p.length ≤ 32) {a l : Int} (h0 : 0 ≤ a) (h1 : a < 4294967296) (hm : mayB a l = true) : (((adr p 0 : Nat) : Int) = a ∧ ((p.length : Nat) : Int) = l) ↔ p = wayX a l.toNat := by
  have hl : 0 ≤ l ∧ l ≤ 32 := by unfold mayB at hm; rw [decide_eq_true_eq] at hm; exact ⟨hm.1, hm.2.1⟩
  constructor
  · rintro ⟨rfl, rfl⟩
    rw [Int.toNat_natCast, way_of hp]
  · rintro rfl
    exact ⟨way_may h0 h1 hm, by rw [way_len]; omega⟩
/-- The list behind a Put. -/
theorem list_put {t t' : Tr} (h : t.short) (h' : t'.short) {most a l n : Int} (h0 : 0 ≤ a) (h1 : a < 4294967296) (hm : mayB a l = true) (hg : ∀ r, t'.get r = if r = wayX a l.toNat then some n else t.get r) (hx : putX most t.list a l = 0) (hs : Srt (putL most t.list a l n)) : t'.list = putL most t.list a l n := by
  have hl : 0 ≤ l ∧ l ≤ 32 := by unfold mayB at hm; rw [decide_eq_true_eq] at hm; exact ⟨hm.1, hm.2.1⟩
  refine srt_ext (list_srt h') hs ?_
  rintro ⟨pa, pl, pn⟩
  rw [mem_put (list_srt h) hx, mem_list h', mem_list h]
  constructor
  · rintro ⟨p, hp, rfl, rfl, he⟩
    rw [hg] at he
    split at he
    · rename_i hw
      simp only [Option.some.injEq] at he
      subst he
      have hk := (key_way hp h0 h1 hm).2 hw
      exact .inl (by rw [hk.1, hk.2])
    · rename_i hw
      exact .inr ⟨⟨p, hp, rfl, rfl, he⟩, fun hk => hw ((key_way hp h0 h1 hm).1 hk)⟩
  · rintro (e | ⟨⟨p, hp, rfl, rfl, he⟩, hk⟩)
    · simp only [Pr.mk.injEq] at e
      obtain ⟨rfl, rfl, rfl⟩ := e
      refine ⟨wayX pa pl.toNat, by rw [way_len]; omega, (way_may h0 h1 hm).symm, by rw [way_len]; omega, ?_⟩
      rw [hg, if_pos rfl]
    · refine ⟨p, hp, rfl, rfl, ?_⟩
      rw [hg, if_neg fun hw => hk ((key_way hp h0 h1 hm).2 hw)]
      exact he
/-- The list behind a Take. -/
theorem list_take {t t' : Tr} (h : t.short) (h' : t'.short) {a l : Int} (h0 : 0 ≤ a) (h1 : a < 4294967296) (hm : mayB a l = true) (hg : ∀ r, t'.get r = if r = wayX a l.toNat then none else t.get r) (hs : Srt (takeL t.list a l)) : t'.list = takeL t.list a l := by
  refine srt_ext (list_srt h') hs ?_
  rintro ⟨pa, pl, pn⟩
  rw [mem_take (list_srt h), mem_list h', mem_list h]
  constructor
  · rintro ⟨p, hp, rfl, rfl, he⟩
    rw [hg] at he
    split at he
    · cases he
    · rename_i hw
      exact ⟨⟨p, hp, rfl, rfl, he⟩, fun hk => hw ((key_way hp h0 h1 hm).1 hk)⟩
  · rintro ⟨⟨p, hp, rfl, rfl, he⟩, hk⟩
    refine ⟨p, hp, rfl, rfl, ?_⟩
    rw [hg, if_neg fun hw => hk ((key_way hp h0 h1 hm).2 hw)]
    exact he
/-- What a prefix has, by its way; one that may not be has nothing. -/
theorem get_way {t : Tr} (h : t.short) {a l : Int} (h0 : 0 ≤ a) (h1 : a < 4294967296) (hm : mayB a l = true) : getP t.list a l = (t.get (wayX a l.toNat)).map fun n => ⟨a, l, n⟩ := by
  cases hg : t.get (wayX a l.toNat) with
  | none =>
    rw [Option.map_none, getP_none]
    rintro ⟨pa, pl, pn⟩ hp ⟨rfl, rfl⟩
    rw [mem_list_way h h0 h1 hm, hg] at hp
    cases hp
  | some n =>
    rw [Option.map_some]
    exact getP_mem (list_srt h) (p := ⟨a, l, n⟩) ((mem_list_way h h0 h1 hm).2 hg)
theorem get_not {t : Tr} (h : t.short) {a l : Int} (hm : mayB a l = false) : getP t.list a l = none := by
  rw [getP_none]
  rintro ⟨pa, pl, pn⟩ hp ⟨rfl, rfl⟩
  obtain ⟨p, hl, rfl, rfl, -⟩ := (mem_list h).1 hp
  rw [adr_may hl] at hm
  cases hm
/-- The last that has something along some bits. -/
def Tr.long : Tr → List Bool → Nat → Option (Nat × Int) → Option (Nat × Int)
  | .nil, _, _, b => b
  | .node v _ _, [], d, b => (v.map fun n => (d, n)).or b
  | .node v z o, c :: p, d, b => if c = true then o.long p (d + 1) ((v.map fun n => (d, n)).or b) else z.long p (d + 1) ((v.map fun n => (d, n)).or b)
theorem long_spec : ∀ (t : Tr) (p : List Bool) (d : Nat) (b : Option (Nat × Int)),
    (∃ e n, e ≤ p.length ∧ t.long p d b = some (d + e, n) ∧ t.get (p.take e) = some n ∧ ∀ e', e < e' → e' ≤ p.length → t.get (p.take e') = none) ∨ (t.long p d b = b ∧ ∀ e, e ≤ p.length → t.get (p.take e) = none)
  | .nil, p, d, b => .inr ⟨rfl, fun e _ => rfl⟩
  | .node v z o, [], d, b => by
    cases v with
    | none => exact .inr ⟨rfl, fun e he => by simp [Tr.get]⟩
    | some n => exact .inl ⟨0, n, Nat.le_refl _, rfl, rfl, fun e' h1 h2 => by simp at h2; omega⟩
  | .node v z o, c :: p, d, b => by
    have key : ∀ (s : Tr), (∀ q, (Tr.node v z o).get (c :: q) = s.get q) → (Tr.node v z o).long (c :: p) d b = s.long p (d + 1) ((v.map fun n => (d, n)).or b) →
        ((∃ e n, e ≤ p.length ∧ s.long p (d + 1) ((v.map fun n => (d, n)).or b) = some (d + 1 + e, n) ∧ s.get (p.take e) = some n ∧ ∀ e', e < e' → e' ≤ p.length → s.get (p.take e') = none) ∨ (s.long p (d + 1) ((v.map fun n => (d, n)).or b) = (v.map fun n => (d, n)).or b ∧ ∀ e, e ≤ p.length → s.get (p.take e) = none)) →
        (∃ e n, e ≤ (c :: p).length ∧ (Tr.node v z o).long (c :: p) d b = some (d + e, n) ∧ (Tr.node v z o).get ((c :: p).take e) = some n ∧ ∀ e', e < e' → e' ≤ (c :: p).length → (Tr.node v z o).get ((c :: p).take e') = none) ∨ ((Tr.node v z o).long (c :: p) d b = b ∧ ∀ e, e ≤ (c :: p).length → (Tr.node v z o).get ((c :: p).take e) = none) := by
      intro s hget hlong hs
      have up : ∀ e', (Tr.node v z o).get ((c :: p).take (e' + 1)) = s.get (p.take e') := fun e' => by rw [List.take_succ_cons, hget]
      rcases hs with ⟨e, n, h1, h2, h3, h4⟩ | ⟨h1, h2⟩
      · refine .inl ⟨e + 1, n, by simpa using h1, by rw [hlong, h2]; congr 2; omega, by rw [up]; exact h3, fun e' he hl => ?_⟩
        obtain ⟨e'', rfl⟩ : ∃ k, e' = k + 1 := ⟨e' - 1, by omega⟩
        rw [up]
        exact h4 e'' (by omega) (by simpa using hl)
      · cases v with
        | none =>
          refine .inr ⟨by rw [hlong, h1]; rfl, fun e he => ?_⟩
          cases e with
          | zero => rfl
          | succ e => rw [up]; exact h2 e (by simpa using he)
        | some n =>
          refine .inl ⟨0, n, Nat.zero_le _, by rw [hlong, h1]; rfl, rfl, fun e' he hl => ?_⟩
          obtain ⟨e'', rfl⟩ : ∃ k, e' = k + 1 := ⟨e' - 1, by omega⟩
          rw [up]
          exact h2 e'' (by simpa using hl)
    cases c
    · exact key z (fun q => rfl) rfl (long_spec z p (d + 1) _)
    · exact key o (fun q => rfl) rfl (long_spec o p (d + 1) _)
theorem way_take (x : Int) : ∀ (l e : Nat), e ≤ l → (wayX x l).take e = wayX x e
  | 0, e, h => by obtain rfl : e = 0 := by omega
                  rfl
  | l + 1, e, h => by
    by_cases he : e = l + 1
    · subst he
      rw [List.take_of_length_le (by rw [way_len]; exact Nat.le_refl _)]
    · rw [wayX, List.take_append_of_le_length (by rw [way_len]; omega)]
      exact way_take x l e (by omega)
/-- Find, by the tree. -/
theorem find_way {t : Tr} (h : t.short) {x : Int} (h0 : 0 ≤ x) (h1 : x < 4294967296) : findP x t.list none = (t.long (wayX x 32) 0 none).map fun r => ⟨andM x r.1, (r.1 : Nat), r.2⟩ := by
  have hmem : ∀ a l n, (⟨a, l, n⟩ : Pr) ∈ t.list → hasB a l x = true → ∃ e : Nat, e ≤ 32 ∧ l = (e : Int) ∧ a = andM x e ∧ t.get (wayX x e) = some n := by
    intro a l n hp hh
    obtain ⟨p, hl, rfl, rfl, hg⟩ := (mem_list h).1 hp
    have hw := (has_way hl h0 h1).1 hh
    exact ⟨p.length, hl, rfl, by rw [← way_adr h0 h1 _ hl, ← hw], by rw [← hw]; exact hg⟩
  rcases long_spec t (wayX x 32) 0 none with ⟨e, n, h2, h3, h4, h5⟩ | ⟨h2, h3⟩
  · rw [way_len] at h2
    rw [h3, Nat.zero_add, Option.map_some]
    rw [way_take x 32 e h2] at h4
    have hin : (⟨andM x e, (e : Nat), n⟩ : Pr) ∈ t.list := (mem_list h).2 ⟨wayX x e, by rw [way_len]; exact h2, (way_adr h0 h1 e h2).symm, by rw [way_len], h4⟩
    have hhas : hasB (andM x e) ((e : Nat) : Int) x = true := by
      have hw := (has_way (p := wayX x e) (by rw [way_len]; exact h2) h0 h1).2 (by rw [way_len])
      rw [way_len, way_adr h0 h1 e h2] at hw
      exact hw
    refine find_is (list_srt h) hin hhas ?_
    rintro ⟨a, l, m⟩ hq hh
    obtain ⟨e', he', rfl, -, hg⟩ := hmem a l m hq hh
    simp only
    by_cases hlt : e < e'
    · have := h5 e' hlt (by rw [way_len]; exact he')
      rw [way_take x 32 e' he', hg] at this
      cases this
    · omega
  · rw [h2, Option.map_none]
    cases hf : findP x t.list none with
    | none => rfl
    | some q =>
      exfalso
      obtain ⟨k1, k2, -⟩ := find_some hf
      obtain ⟨a, l, m⟩ := q
      obtain ⟨e', he', -, -, hg⟩ := hmem a l m k1 k2
      have := h3 e' (by rw [way_len]; exact he')
      rw [way_take x 32 e' he', hg] at this
      cases this
/-- Setting what a way has. -/
def Tr.set : Tr → List Bool → Option Int → Tr
  | .nil, [], x => .node x .nil .nil
  | .nil, b :: p, x => if b = true then .node none .nil (Tr.set .nil p x) else .node none (Tr.set .nil p x) .nil
  | .node _ z o, [], x => .node x z o
  | .node v z o, b :: p, x => if b = true then .node v z (o.set p x) else .node v (z.set p x) o
theorem get_set : ∀ (t : Tr) (p : List Bool) (x : Option Int) (r : List Bool), (t.set p x).get r = if r = p then x else t.get r
  | .nil, [], x, r => by cases r <;> simp [Tr.set, Tr.get]
  | .nil, b :: p, x, r => by
    cases r with
    | nil => cases b <;> simp [Tr.set, Tr.get]
    | cons c r =>
      have ih := get_set .nil p x r
      cases b <;> cases c <;> simp [Tr.set, Tr.get, ih]
  | .node v z o, [], x, r => by cases r <;> simp [Tr.set, Tr.get]
  | .node v z o, b :: p, x, r => by
    cases r with
    | nil => cases b <;> simp [Tr.set, Tr.get]
    | cons c r =>
      have ih1 := get_set z p x r
      have ih2 := get_set o p x r
      cases b <;> cases c <;> simp [Tr.set, Tr.get, ih1, ih2]
end Go.Proofs.Ytifokdebocgaiaa
