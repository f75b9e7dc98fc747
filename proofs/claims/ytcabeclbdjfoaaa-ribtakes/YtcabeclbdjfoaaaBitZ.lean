/- Prefixes as ways down a tree of bits: the pure tree, what it has, its list in order, the longest one along an address. No program is named here. -/
import Derived.Test.YtcabeclbdjfoaaaMat8
namespace Go.Proofs.Ytcabeclbdjfoaaa

/-- The number that some bits are, from place i of 32 on. -/
def adr : List Bool → Nat → Nat
  | [], _ => 0
  | b :: p, i => (if b = true then 2 ^ (31 - i) else 0) + adr p (i + 1)
theorem adr_lt : ∀ (p : List Bool) (i : Nat), i + p.length ≤ 32 → adr p i < 2 ^ (32 - i)
  | [], i, _ => by simp [adr, Nat.two_pow_pos]
  | b :: p, i, h => by
    simp only [List.length_cons] at h
    have ih := adr_lt p (i + 1) (by omega)
    have e : 2 ^ (32 - i) = 2 ^ (31 - i) + 2 ^ (31 - i) := by rw [show 32 - i = (31 - i) + 1 by omega, Nat.pow_succ]; omega
    rw [show 32 - (i + 1) = 31 - i by omega] at ih
    rw [adr, e]
    split <;> omega
theorem adr_snoc (b : Bool) : ∀ (p : List Bool) (i : Nat), adr (p ++ [b]) i = adr p i + (if b = true then 2 ^ (31 - (i + p.length)) else 0)
  | [], i => by simp [adr]
  | c :: p, i => by
    rw [List.cons_append, adr, adr_snoc b p (i + 1), adr, List.length_cons, show i + 1 + p.length = i + (p.length + 1) by omega]
    omega
/-- The first of two ways. -/
def lexB : List Bool → List Bool → Prop
  | [], [] => False
  | [], _ :: _ => True
  | _ :: _, [] => False
  | b :: p, c :: q => (b = false ∧ c = true) ∨ (b = c ∧ lexB p q)
theorem lex_adr : ∀ (p q : List Bool) (i : Nat), i + p.length ≤ 32 → i + q.length ≤ 32 → lexB p q → adr p i < adr q i ∨ adr p i = adr q i ∧ p.length < q.length
  | [], [], _, _, _, h => h.elim
  | [], c :: q, i, _, _, _ => by
    rw [adr]
    by_cases h : adr (c :: q) i = 0
    · exact .inr ⟨h.symm, by simp⟩
    · exact .inl (by omega)
  | _ :: _, [], _, _, _, h => h.elim
  | b :: p, c :: q, i, hp, hq, h => by
    simp only [List.length_cons] at hp hq
    rcases h with ⟨rfl, rfl⟩ | ⟨rfl, h⟩
    · have h1 := adr_lt p (i + 1) (by omega)
      rw [show 32 - (i + 1) = 31 - i by omega] at h1
      left
      rw [adr, adr]
      simp only [Bool.false_eq_true, if_false, if_true]
      omega
    · have ih := lex_adr p q (i + 1) (by omega) (by omega) h
      rw [adr, adr, List.length_cons, List.length_cons]
      omega
/-- A bit of an address, and its first l bits. -/
def bitX (x : Int) (i : Nat) : Bool := x.toNat / 2 ^ (31 - i) % 2 == 1
def wayX (x : Int) : Nat → List Bool
  | 0 => []
  | l + 1 => wayX x l ++ [bitX x l]
theorem way_len (x : Int) : ∀ l, (wayX x l).length = l
  | 0 => rfl
  | l + 1 => by rw [wayX, List.length_append, way_len x l]; rfl
theorem way_adr {x : Int} (h0 : 0 ≤ x) (h1 : x < 4294967296) : ∀ l, l ≤ 32 → ((adr (wayX x l) 0 : Nat) : Int) = andM x l
  | 0, _ => by
    unfold andM
    show (0 : Int) = _
    rw [show ((2 ^ (32 - 0) : Nat) : Int) = 4294967296 from by decide]
    omega
  | l + 1, h => by
    have ih := way_adr h0 h1 l (by omega)
    rw [wayX, adr_snoc, way_len, Nat.zero_add]
    obtain ⟨n, rfl⟩ : ∃ n : Nat, x = (n : Int) := ⟨x.toNat, by omega⟩
    have e : 2 ^ (32 - l) = 2 ^ (31 - l) * 2 := by rw [show 32 - l = (31 - l) + 1 by omega, Nat.pow_succ]
    have e2 : 32 - (l + 1) = 31 - l := by omega
    unfold andM at ih ⊢
    rw [e2]
    rw [e] at ih
    have hm : n % (2 ^ (31 - l) * 2) = n % 2 ^ (31 - l) + 2 ^ (31 - l) * (n / 2 ^ (31 - l) % 2) := Nat.mod_mul
    have hle : n % (2 ^ (31 - l) * 2) ≤ n := Nat.mod_le _ _
    have hle2 : n % 2 ^ (31 - l) ≤ n := Nat.mod_le _ _
    have hcast : ((n : Int) - (n : Int) % ((2 ^ (31 - l) * 2 : Nat) : Int)) = ((n - n % (2 ^ (31 - l) * 2) : Nat) : Int) := by
      rw [← Int.natCast_emod]; omega
    have hcast2 : ((n : Int) - (n : Int) % ((2 ^ (31 - l) : Nat) : Int)) = ((n - n % 2 ^ (31 - l) : Nat) : Int) := by
      rw [← Int.natCast_emod]; omega
    rw [hcast] at ih
    rw [hcast2]
    have ih' : adr (wayX (n : Int) l) 0 = n - n % (2 ^ (31 - l) * 2) := by omega
    rw [ih']
    unfold bitX
    have ht : (n : Int).toNat = n := by simp
    rw [ht]
    generalize 2 ^ (31 - l) = m at hm hle hle2 ⊢
    rcases Nat.mod_two_eq_zero_or_one (n / m) with hb | hb
    · rw [hb] at hm ⊢
      simp only [Nat.mul_zero, Nat.add_zero] at hm
      simp [hm]
    · rw [hb] at hm ⊢
      simp only [Nat.mul_one] at hm
      simp only [beq_self_eq_true, if_true]
      omega
theorem way_may {a : Int} {l : Int} (h0 : 0 ≤ a) (h1 : a < 4294967296) (h : mayB a l = true) : ((adr (wayX a l.toNat) 0 : Nat) : Int) = a := by
  unfold mayB at h
  rw [decide_eq_true_eq] at h
  rw [way_adr h0 h1 l.toNat (by omega)]
  exact h.2.2
/-- A tree of bits: what a place has, the ways on by 0 and by 1. -/
inductive Tr where
  | nil : Tr
  | node : Option Int → Tr → Tr → Tr
def Tr.get : Tr → List Bool → Option Int
  | .nil, _ => none
  | .node v _ _, [] => v
  | .node _ z o, b :: p => if b = true then o.get p else z.get p
/-- All that a tree has, in order. -/
def hereP (v : Option Int) (p : List Bool) : List (List Bool × Int) := match v with
  | some n => [(p, n)]
  | none => []
def Tr.ways : Tr → List Bool → List (List Bool × Int)
  | .nil, _ => []
  | .node v z o, p => hereP v p ++ (z.ways (p ++ [false]) ++ o.ways (p ++ [true]))
theorem mem_ways : ∀ (t : Tr) (p : List Bool) (q : List Bool) (n : Int), (q, n) ∈ t.ways p ↔ ∃ r, q = p ++ r ∧ t.get r = some n
  | .nil, p, q, n => by simp [Tr.ways, Tr.get]
  | .node v z o, p, q, n => by
    rw [Tr.ways, List.mem_append, List.mem_append, mem_ways z, mem_ways o]
    constructor
    · rintro (h | ⟨r, rfl, h⟩ | ⟨r, rfl, h⟩)
      · cases v with
        | none => simp [hereP] at h
        | some m => simp [hereP] at h; obtain ⟨rfl, rfl⟩ := h; exact ⟨[], by simp, rfl⟩
      · exact ⟨false :: r, by simp, by simpa [Tr.get] using h⟩
      · exact ⟨true :: r, by simp, by simpa [Tr.get] using h⟩
    · rintro ⟨r, rfl, h⟩
      cases r with
      | nil => left; simp only [Tr.get] at h; rw [h]; simp [hereP]
      | cons b r =>
        right
        cases b
        · exact .inl ⟨r, by simp, by simpa [Tr.get] using h⟩
        · exact .inr ⟨r, by simp, by simpa [Tr.get] using h⟩
theorem lex_append (p : List Bool) {q r : List Bool} (h : lexB q r) : lexB (p ++ q) (p ++ r) := by
  induction p with
  | nil => exact h
  | cons b p ih => exact .inr ⟨rfl, ih⟩
theorem ways_lex : ∀ (t : Tr) (p : List Bool), (t.ways p).Pairwise fun x y => lexB x.1 y.1
  | .nil, p => by simp [Tr.ways]
  | .node v z o, p => by
    rw [Tr.ways, List.pairwise_append, List.pairwise_append]
    refine ⟨by cases v <;> simp [hereP], ⟨ways_lex z _, ways_lex o _, ?_⟩, ?_⟩
    · rintro ⟨q, n⟩ hq ⟨r, m⟩ hr
      obtain ⟨q', rfl, -⟩ := (mem_ways z _ _ _).1 hq
      obtain ⟨r', rfl, -⟩ := (mem_ways o _ _ _).1 hr
      simp only [List.append_assoc]
      exact lex_append p (.inl ⟨rfl, rfl⟩)
    · rintro ⟨q, n⟩ hq ⟨r, m⟩ hr
      have hq' : q = p := by cases v <;> simp [hereP] at hq; exact hq.1
      subst hq'
      rw [List.mem_append] at hr
      rcases hr with hr | hr
      · obtain ⟨r', rfl, -⟩ := (mem_ways z _ _ _).1 hr
        have := lex_append q (q := []) (r := [false] ++ r') trivial
        simpa using this
      · obtain ⟨r', rfl, -⟩ := (mem_ways o _ _ _).1 hr
        have := lex_append q (q := []) (r := [true] ++ r') trivial
        simpa using this
/-- A way's prefix, with what it has. -/
def prOf (x : List Bool × Int) : Pr := ⟨(adr x.1 0 : Nat), (x.1.length : Nat), x.2⟩
def Tr.list (t : Tr) : List Pr := (t.ways []).map prOf
/-- No way is longer than 32 bits. -/
def Tr.short (t : Tr) : Prop := ∀ p n, t.get p = some n → p.length ≤ 32
theorem list_srt {t : Tr} (h : t.short) : Srt t.list := by
  unfold Srt Tr.list
  rw [List.pairwise_map]
  refine List.Pairwise.imp_of_mem ?_ (ways_lex t [])
  rintro ⟨p, n⟩ ⟨q, m⟩ hp hq hl
  obtain ⟨r, er, h1⟩ := (mem_ways t [] _ _).1 hp
  obtain ⟨s, es, h2⟩ := (mem_ways t [] _ _).1 hq
  rw [List.nil_append] at er es
  have e1 := h r n h1
  have e2 := h s m h2
  rw [← er] at e1
  rw [← es] at e2
  have := lex_adr p q 0 (by omega) (by omega) hl
  rw [lessB_iff]
  simp only [prOf]
  omega
theorem adr_inj {p q : List Bool} (hp : p.length ≤ 32) (h1 : adr p 0 = adr q 0) (h2 : p.length = q.length) : p = q := by
  have tri : ∀ (p q : List Bool), p.length = q.length → p = q ∨ lexB p q ∨ lexB q p := by
    intro p
    induction p with
    | nil => intro q h; cases q with
      | nil => exact .inl rfl
      | cons c q => simp at h
    | cons b p ih => intro q h; cases q with
      | nil => simp at h
      | cons c q =>
        rcases ih q (by simpa using h) with rfl | h' | h'
        · cases b <;> cases c
          · exact .inl rfl
          · exact .inr (.inl (.inl ⟨rfl, rfl⟩))
          · exact .inr (.inr (.inl ⟨rfl, rfl⟩))
          · exact .inl rfl
        · cases b <;> cases c
          · exact .inr (.inl (.inr ⟨rfl, h'⟩))
          · exact .inr (.inl (.inl ⟨rfl, rfl⟩))
          · exact .inr (.inr (.inl ⟨rfl, rfl⟩))
          · exact .inr (.inl (.inr ⟨rfl, h'⟩))
        · cases b <;> cases c
          · exact .inr (.inr (.inr ⟨rfl, h'⟩))
          · exact .inr (.inl (.inl ⟨rfl, rfl⟩))
          · exact .inr (.inr (.inl ⟨rfl, rfl⟩))
          · exact .inr (.inr (.inr ⟨rfl, h'⟩))
  rcases tri p q h2 with h | h | h
  · exact h
  · have := lex_adr p q 0 (by omega) (by omega) h; omega
  · have := lex_adr q p 0 (by omega) (by omega) h; omega
theorem mem_list {t : Tr} (h : t.short) {a l n : Int} : (⟨a, l, n⟩ : Pr) ∈ t.list ↔ ∃ p : List Bool, p.length ≤ 32 ∧ a = (adr p 0 : Nat) ∧ l = (p.length : Nat) ∧ t.get p = some n := by
  unfold Tr.list
  rw [List.mem_map]
  constructor
  · rintro ⟨⟨q, m⟩, hm, he⟩
    obtain ⟨r, er, h1⟩ := (mem_ways t [] _ _).1 hm
    rw [List.nil_append] at er
    subst er
    simp only [prOf, Pr.mk.injEq] at he
    obtain ⟨rfl, rfl, rfl⟩ := he
    exact ⟨q, h q _ h1, rfl, rfl, h1⟩
  · rintro ⟨p, -, rfl, rfl, hg⟩
    exact ⟨(p, n), (mem_ways t [] _ _).2 ⟨p, by simp, hg⟩, rfl⟩
/-- The way of a prefix that may be. -/
theorem mem_list_way {t : Tr} (h : t.short) {a l n : Int} (h0 : 0 ≤ a) (h1 : a < 4294967296) (hm : mayB a l = true) : (⟨a, l, n⟩ : Pr) ∈ t.list ↔ t.get (wayX a l.toNat) = some n := by
  have hl : 0 ≤ l ∧ l ≤ 32 := by unfold mayB at hm; rw [decide_eq_true_eq] at hm; exact ⟨hm.1, hm.2.1⟩
  have hw := way_may h0 h1 hm
  rw [mem_list h]
  constructor
  · rintro ⟨p, hp, ha, hl', hg⟩
    have : wayX a l.toNat = p := adr_inj (by rw [way_len]; omega) (by omega) (by rw [way_len]; omega)
    rw [this]; exact hg
  · intro hg
    exact ⟨wayX a l.toNat, by rw [way_len]; omega, hw.symm, by rw [way_len]; omega, hg⟩
theorem andM_small (x : Int) (n : Nat) : ∃ k : Int, andM x n = k * ((2 ^ (32 - n) : Nat) : Int) := ⟨x / ((2 ^ (32 - n) : Nat) : Int), by
  unfold andM
  have h := Int.emod_add_mul_ediv x ((2 ^ (32 - n) : Nat) : Int)
  rw [Int.mul_comm] at h
  omega⟩
end Go.Proofs.Ytcabeclbdjfoaaa
/- A tree of bits and the document's list: Put, Take, Get and Find. No program is named here. -/
namespace Go.Proofs.Ytcabeclbdjfoaaa

theorem adr_mult : ∀ (p : List Bool) (i : Nat), i + p.length ≤ 32 → adr p i % 2 ^ (32 - i - p.length) = 0
  | [], i, _ => by simp [adr]
  | b :: p, i, h => by
    simp only [List.length_cons] at h ⊢
    have ih := adr_mult p (i + 1) (by omega)
    rw [show 32 - (i + 1) - p.length = 32 - i - (p.length + 1) by omega] at ih
    have hd : 2 ^ (32 - i - (p.length + 1)) ∣ 2 ^ (31 - i) := Nat.pow_dvd_pow 2 (by omega)
    rw [adr]
    have h2 : 2 ^ (32 - i - (p.length + 1)) ∣ adr p (i + 1) := Nat.dvd_of_mod_eq_zero ih
    refine Nat.mod_eq_zero_of_dvd (Nat.dvd_add ?_ h2)
    split
    · exact hd
    · exact Nat.dvd_zero _
theorem adr_may {p : List Bool} (h : p.length ≤ 32) : mayB (adr p 0 : Nat) (p.length : Nat) = true := by
  unfold mayB andM
  rw [decide_eq_true_eq]
  have hm := adr_mult p 0 (by omega)
  refine ⟨by omega, by omega, ?_⟩
  rw [Nat.sub_zero] at hm
  simp only [Int.toNat_natCast]
  rw [← Int.natCast_emod, hm]
  simp
theorem adr_u {p : List Bool} (h : p.length ≤ 32) : (0 : Int) ≤ (adr p 0 : Nat) ∧ ((adr p 0 : Nat) : Int) < 4294967296 := by
  have := adr_lt p 0 (by omega)
  rw [show 2 ^ (32 - 0) = 4294967296 from by decide] at this
  omega
theorem list_good {t : Tr} (h : t.short) (hn : ∀ p n, t.get p = some n → -9223372036854775808 ≤ n ∧ n ≤ 9223372036854775807) : GoodP t.list := by
  refine ⟨list_srt h, ?_, ?_, ?_⟩
  all_goals
    rintro ⟨a, l, n⟩ hp
    obtain ⟨p, hl, rfl, rfl, hg⟩ := (mem_list h).1 hp
  · exact adr_may hl
  · exact adr_u hl
  · exact hn p n hg
/-- Which way a prefix that has an address goes. -/
theorem has_way {p : List Bool} (h : p.length ≤ 32) {x : Int} (h0 : 0 ≤ x) (h1 : x < 4294967296) : hasB (adr p 0 : Nat) (p.length : Nat) x = true ↔ p = wayX x p.length := by
  unfold hasB
  rw [adr_may h]
  simp only [Bool.true_and, beq_iff_eq, Int.toNat_natCast]
  rw [← way_adr h0 h1 p.length h]
  constructor
  · intro e
    exact adr_inj h (by omega) (by rw [way_len])
  · intro e
    rw [← e]
theorem way_of {p : List Bool} (h : p.length ≤ 32) : wayX (adr p 0 : Nat) p.length = p := by
  have hu := adr_u h
  have hm := adr_may h
  have := way_may hu.1 hu.2 hm
  rw [Int.toNat_natCast] at this
  exact adr_inj (by rw [way_len]; exact h) (by omega) (by rw [way_len])
theorem key_way {p : List Bool} (hp : p.length ≤ 32) {a l : Int} (h0 : 0 ≤ a) (h1 : a < 4294967296) (hm : mayB a l = true) : (((adr p 0 : Nat) : Int) = a ∧ ((p.length : Nat) : Int) = l) ↔ p = wayX a l.toNat := by
  have hl : 0 ≤ l ∧ l ≤ 32 := by unfold mayB at hm; rw [decide_eq_true_eq] at hm; exact ⟨hm.1, hm.2.1⟩
  constructor
  · rintro ⟨rfl, rfl⟩
    rw [Int.toNat_natCast, way_of hp]
  · rintro rfl
    exact ⟨way_may h0 h1 hm, by rw [way_len]; omega⟩
/-- The list behind a Put. -/
theorem list_put {t t' : Tr} (h : t.short) (h' : t'.short) {most a l n : Int} (h0 : 0 ≤ a) (h1 : a < 4294967296) (hm : mayB a l = true) (hg : ∀ r, t'.get r = if r = wayX a l.toNat then some n else t.get r) (hx : putX most t.list a l = 0) (hs : Srt (putL most t.list a l n)) : t'.list = putL most t.list a l n := by
  have hl : 0 ≤ l ∧ l ≤ 32 := by unfold mayB at hm; rw [decide_eq_true_eq] at hm; exact ⟨hm.1, hm.2.1⟩
  refine srt_ext (list_srt h') hs ?_
  rintro ⟨pa, pl, pn⟩
  rw [mem_put (list_srt h) hx, mem_list h', mem_list h]
  constructor
  · rintro ⟨p, hp, rfl, rfl, he⟩
    rw [hg] at he
    split at he
    · rename_i hw
      simp only [Option.some.injEq] at he
      subst he
      have hk := (key_way hp h0 h1 hm).2 hw
      exact .inl (by rw [hk.1, hk.2])
    · rename_i hw
      exact .inr ⟨⟨p, hp, rfl, rfl, he⟩, fun hk => hw ((key_way hp h0 h1 hm).1 hk)⟩
  · rintro (e | ⟨⟨p, hp, rfl, rfl, he⟩, hk⟩)
    · simp only [Pr.mk.injEq] at e
      obtain ⟨rfl, rfl, rfl⟩ := e
      refine ⟨wayX pa pl.toNat, by rw [way_len]; omega, (way_may h0 h1 hm).symm, by rw [way_len]; omega, ?_⟩
      rw [hg, if_pos rfl]
    · refine ⟨p, hp, rfl, rfl, ?_⟩
      rw [hg, if_neg fun hw => hk ((key_way hp h0 h1 hm).2 hw)]
      exact he
/-- The list behind a Take. -/
theorem list_take {t t' : Tr} (h : t.short) (h' : t'.short) {a l : Int} (h0 : 0 ≤ a) (h1 : a < 4294967296) (hm : mayB a l = true) (hg : ∀ r, t'.get r = if r = wayX a l.toNat then none else t.get r) (hs : Srt (takeL t.list a l)) : t'.list = takeL t.list a l := by
  refine srt_ext (list_srt h') hs ?_
  rintro ⟨pa, pl, pn⟩
  rw [mem_take (list_srt h), mem_list h', mem_list h]
  constructor
  · rintro ⟨p, hp, rfl, rfl, he⟩
    rw [hg] at he
    split at he
    · cases he
    · rename_i hw
      exact ⟨⟨p, hp, rfl, rfl, he⟩, fun hk => hw ((key_way hp h0 h1 hm).1 hk)⟩
  · rintro ⟨⟨p, hp, rfl, rfl, he⟩, hk⟩
    refine ⟨p, hp, rfl, rfl, ?_⟩
    rw [hg, if_neg fun hw => hk ((key_way hp h0 h1 hm).2 hw)]
    exact he
/-- What a prefix has, by its way; one that may not be has nothing. -/
theorem get_way {t : Tr} (h : t.short) {a l : Int} (h0 : 0 ≤ a) (h1 : a < 4294967296) (hm : mayB a l = true) : getP t.list a l = (t.get (wayX a l.toNat)).map fun n => ⟨a, l, n⟩ := by
  cases hg : t.get (wayX a l.toNat) with
  | none =>
    rw [Option.map_none, getP_none]
    rintro ⟨pa, pl, pn⟩ hp ⟨rfl, rfl⟩
    rw [mem_list_way h h0 h1 hm, hg] at hp
    cases hp
  | some n =>
    rw [Option.map_some]
    exact getP_mem (list_srt h) (p := ⟨a, l, n⟩) ((mem_list_way h h0 h1 hm).2 hg)
theorem get_not {t : Tr} (h : t.short) {a l : Int} (hm : mayB a l = false) : getP t.list a l = none := by
  rw [getP_none]
  rintro ⟨pa, pl, pn⟩ hp ⟨rfl, rfl⟩
  obtain ⟨p, hl, rfl, rfl, -⟩ := (mem_list h).1 hp
  rw [adr_may hl] at hm
  cases hm
/-- The last that has something along some bits. -/
def Tr.long : Tr → List Bool → Nat → Option (Nat × Int) → Option (Nat × Int)
  | .nil, _, _, b => b
  | .node v _ _, [], d, b => (v.map fun n => (d, n)).or b
  | .node v z o, c :: p, d, b => if c = true then o.long p (d + 1) ((v.map fun n => (d, n)).or b) else z.long p (d + 1) ((v.map fun n => (d, n)).or b)
theorem long_spec : ∀ (t : Tr) (p : List Bool) (d : Nat) (b : Option (Nat × Int)),
    (∃ e n, e ≤ p.length ∧ t.long p d b = some (d + e, n) ∧ t.get (p.take e) = some n ∧ ∀ e', e < e' → e' ≤ p.length → t.get (p.take e') = none) ∨ (t.long p d b = b ∧ ∀ e, e ≤ p.length → t.get (p.take e) = none)
  | .nil, p, d, b => .inr ⟨rfl, fun e _ => rfl⟩
  | .node v z o, [], d, b => by
    cases v with
    | none => exact .inr ⟨rfl, fun e he => by simp [Tr.get]⟩
    | some n => exact .inl ⟨0, n, Nat.le_refl _, rfl, rfl, fun e' h1 h2 => by simp at h2; omega⟩
  | .node v z o, c :: p, d, b => by
    have key : ∀ (s : Tr), (∀ q, (Tr.node v z o).get (c :: q) = s.get q) → (Tr.node v z o).long (c :: p) d b = s.long p (d + 1) ((v.map fun n => (d, n)).or b) →
        ((∃ e n, e ≤ p.length ∧ s.long p (d + 1) ((v.map fun n => (d, n)).or b) = some (d + 1 + e, n) ∧ s.get (p.take e) = some n ∧ ∀ e', e < e' → e' ≤ p.length → s.get (p.take e') = none) ∨ (s.long p (d + 1) ((v.map fun n => (d, n)).or b) = (v.map fun n => (d, n)).or b ∧ ∀ e, e ≤ p.length → s.get (p.take e) = none)) →
        (∃ e n, e ≤ (c :: p).length ∧ (Tr.node v z o).long (c :: p) d b = some (d + e, n) ∧ (Tr.node v z o).get ((c :: p).take e) = some n ∧ ∀ e', e < e' → e' ≤ (c :: p).length → (Tr.node v z o).get ((c :: p).take e') = none) ∨ ((Tr.node v z o).long (c :: p) d b = b ∧ ∀ e, e ≤ (c :: p).length → (Tr.node v z o).get ((c :: p).take e) = none) := by
      intro s hget hlong hs
      have up : ∀ e', (Tr.node v z o).get ((c :: p).take (e' + 1)) = s.get (p.take e') := fun e' => by rw [List.take_succ_cons, hget]
      rcases hs with ⟨e, n, h1, h2, h3, h4⟩ | ⟨h1, h2⟩
      · refine .inl ⟨e + 1, n, by simpa using h1, by rw [hlong, h2]; congr 2; omega, by rw [up]; exact h3, fun e' he hl => ?_⟩
        obtain ⟨e'', rfl⟩ : ∃ k, e' = k + 1 := ⟨e' - 1, by omega⟩
        rw [up]
        exact h4 e'' (by omega) (by simpa using hl)
      · cases v with
        | none =>
          refine .inr ⟨by rw [hlong, h1]; rfl, fun e he => ?_⟩
          cases e with
          | zero => rfl
          | succ e => rw [up]; exact h2 e (by simpa using he)
        | some n =>
          refine .inl ⟨0, n, Nat.zero_le _, by rw [hlong, h1]; rfl, rfl, fun e' he hl => ?_⟩
          obtain ⟨e'', rfl⟩ : ∃ k, e' = k + 1 := ⟨e' - 1, by omega⟩
          rw [up]
          exact h2 e'' (by simpa using hl)
    cases c
    · exact key z (fun q => rfl) rfl (long_spec z p (d + 1) _)
    · exact key o (fun q => rfl) rfl (long_spec o p (d + 1) _)
theorem way_take (x : Int) : ∀ (l e : Nat), e ≤ l → (wayX x l).take e = wayX x e
  | 0, e, h => by obtain rfl : e = 0 := by omega
                  rfl
  | l + 1, e, h => by
    by_cases he : e = l + 1
    · subst he
      rw [List.take_of_length_le (by rw [way_len]; exact Nat.le_refl _)]
    · rw [wayX, List.take_append_of_le_length (by rw [way_len]; omega)]
      exact way_take x l e (by omega)
/-- Find, by the tree. -/
theorem find_way {t : Tr} (h : t.short) {x : Int} (h0 : 0 ≤ x) (h1 : x < 4294967296) : findP x t.list none = (t.long (wayX x 32) 0 none).map fun r => ⟨andM x r.1, (r.1 : Nat), r.2⟩ := by
  have hmem : ∀ a l n, (⟨a, l, n⟩ : Pr) ∈ t.list → hasB a l x = true → ∃ e : Nat, e ≤ 32 ∧ l = (e : Int) ∧ a = andM x e ∧ t.get (wayX x e) = some n := by
    intro a l n hp hh
    obtain ⟨p, hl, rfl, rfl, hg⟩ := (mem_list h).1 hp
    have hw := (has_way hl h0 h1).1 hh
    exact ⟨p.length, hl, rfl, by rw [← way_adr h0 h1 _ hl, ← hw], by rw [← hw]; exact hg⟩
  rcases long_spec t (wayX x 32) 0 none with ⟨e, n, h2, h3, h4, h5⟩ | ⟨h2, h3⟩
  · rw [way_len] at h2
    rw [h3, Nat.zero_add, Option.map_some]
    rw [way_take x 32 e h2] at h4
    have hin : (⟨andM x e, (e : Nat), n⟩ : Pr) ∈ t.list := (mem_list h).2 ⟨wayX x e, by rw [way_len]; exact h2, (way_adr h0 h1 e h2).symm, by rw [way_len], h4⟩
    have hhas : hasB (andM x e) ((e : Nat) : Int) x = true := by
      have hw := (has_way (p := wayX x e) (by rw [way_len]; exact h2) h0 h1).2 (by rw [way_len])
      rw [way_len, way_adr h0 h1 e h2] at hw
      exact hw
    refine find_is (list_srt h) hin hhas ?_
    rintro ⟨a, l, m⟩ hq hh
    obtain ⟨e', he', rfl, -, hg⟩ := hmem a l m hq hh
    simp only
    by_cases hlt : e < e'
    · have := h5 e' hlt (by rw [way_len]; exact he')
      rw [way_take x 32 e' he', hg] at this
      cases this
    · omega
  · rw [h2, Option.map_none]
    cases hf : findP x t.list none with
    | none => rfl
    | some q =>
      exfalso
      obtain ⟨k1, k2, -⟩ := find_some hf
      obtain ⟨a, l, m⟩ := q
      obtain ⟨e', he', -, -, hg⟩ := hmem a l m k1 k2
      have := h3 e' (by rw [way_len]; exact he')
      rw [way_take x 32 e' he', hg] at this
      cases this
/-- Setting what a way has. -/
def Tr.set : Tr → List Bool → Option Int → Tr
  | .nil, [], x => .node x .nil .nil
  | .nil, b :: p, x => if b = true then .node none .nil (Tr.set .nil p x) else .node none (Tr.set .nil p x) .nil
  | .node _ z o, [], x => .node x z o
  | .node v z o, b :: p, x => if b = true then .node v z (o.set p x) else .node v (z.set p x) o
theorem get_set : ∀ (t : Tr) (p : List Bool) (x : Option Int) (r : List Bool), (t.set p x).get r = if r = p then x else t.get r
  | .nil, [], x, r => by cases r <;> simp [Tr.set, Tr.get]
  | .nil, b :: p, x, r => by
    cases r with
    | nil => cases b <;> simp [Tr.set, Tr.get]
    | cons c r =>
      have ih := get_set .nil p x r
      cases b <;> cases c <;> simp [Tr.set, Tr.get, ih]
  | .node v z o, [], x, r => by cases r <;> simp [Tr.set, Tr.get]
  | .node v z o, b :: p, x, r => by
    cases r with
    | nil => cases b <;> simp [Tr.set, Tr.get]
    | cons c r =>
      have ih1 := get_set z p x r
      have ih2 := get_set o p x r
      cases b <;> cases c <;> simp [Tr.set, Tr.get, ih1, ih2]
end Go.Proofs.Ytcabeclbdjfoaaa
