/- Prefixes as ways down a tree of bits: the pure tree, what it has, its list in order, the longest one along an address. No program is named here. -/
import Derived.Test.YtifokdebocgaiaaMat8
namespace Go.Proofs.Ytifokdebocgaiaa

/-- The number that some bits are, from place i of 32 on. -/
def adr : List Bool → Nat → Nat
  | [], _ => 0
  | b :: p, i => (if b = true then 2 ^ (31 - i) else 0) + adr p (i + 1)
theorem adr_lt : ∀ (p : List Bool) (i : Nat), i + p.length ≤ 32 → adr p i < 2 ^ (32 - i)
  | [], i, _ => by simp [adr, Nat.two_pow_pos]
  | b :: p, i, h => by
    simp only [List.length_cons] at h
    have ih := adr_lt p (i + 1) (by omega)
    have e : 2 ^ (32 - i) = 2 ^ (31 - i) + 2 ^ (31 - i) := by rw [show 32 - i = (31 - i) + 1 by omega, Nat.pow_succ]; omega
    rw [show 32 - (i + 1) = 31 - i by omega] at ih
    rw [adr, e]
    split <;> omega
theorem adr_snoc (b : Bool) : ∀ (p : List Bool) (i : Nat), adr (p ++ [b]) i = adr p i + (if b = true then 2 ^ (31 - (i + p.length)) else 0)
  | [], i => by simp [adr]
  | c :: p, i => by
    rw [List.cons_append, adr, adr_snoc b p (i + 1), adr, List.length_cons, show i + 1 + p.length = i + (p.length + 1) by omega]
    omega
/-- The first of two ways. -/
def lexB : List Bool → List Bool → Prop
  | [], [] => False
  | [], _ :: _ => True
  | _ :: _, [] => False
  | b :: p, c :: q => (b = false ∧ c = true) ∨ (b = c ∧ lexB p q)
theorem lex_adr : ∀ (p q : List Bool) (i : Nat), i + p.length ≤ 32 → i + q.length ≤ 32 → lexB p q → adr p i < adr q i ∨ adr p i = adr q i ∧ p.length < q.length
  | [], [], _, _, _, h => h.elim
  | [], c :: q, i, _, _, _ => by
    rw [adr]
    by_cases h : adr (c :: q) i = 0
    · exact .inr ⟨h.symm, by simp⟩
    · exact .inl (by omega)
  | _ :: _, [], _, _, _, h => h.elim
  | b :: p, c :: q, i, hp, hq, h => by
    simp only [List.length_cons] at hp hq
    rcases h with ⟨rfl, rfl⟩ | ⟨rfl, h⟩
    · have h1 := adr_lt p (i + 1) (by omega)
      rw [show 32 - (i + 1) = 31 - i by omega] at h1
      left
      rw [adr, adr]
      simp only [Bool.false_eq_true, if_false, if_true]
      omega
    · have ih := lex_adr p q (i + 1) (by omega) (by omega) h
      rw [adr, adr, List.length_cons, List.length_cons]
      omega
/-- A bit of an address, and its first l bits. -/
def bitX (x : Int) (i : Nat) : Bool := x.toNat / 2 ^ (31 - i) % 2 == 1
def wayX (x : Int) : Nat → List Bool
  | 0 => []
  | l + 1 => wayX x l ++ [bitX x l]
theorem way_len (x : Int) : ∀ l, (wayX x l).length = l
  | 0 => rfl
  | l + 1 => by rw [wayX, List.length_append, way_len x l]; rfl
theorem way_adr {x : Int} (h0 : 0 ≤ x) (h1 : x < 4294967296) : ∀ l, l ≤ 32 → ((adr (wayX x l) 0 : Nat) : Int) = andM x l
  | 0, _ => by
    unfold andM
    show (0 : Int) = _
    rw [show ((2 ^ (32 - 0) : Nat) : Int) = 4294967296 from by decide]
    omega
  | l + 1, h => by
    have ih := way_adr h0 h1 l (by omega)
    rw [wayX, adr_snoc, way_len, Nat.zero_add]
    obtain ⟨n, rfl⟩ : ∃ n : Nat, x = (n : Int) := ⟨x.toNat, by omega⟩
    have e : 2 ^ (32 - l) = 2 ^ (31 - l) * 2 := by rw [show 32 - l = (31 - l) + 1 by omega, Nat.pow_succ]
    have e2 : 32 - (l + 1) = 31 - l := by omega
    unfold andM at ih ⊢
    rw [e2]
    rw [e] at ih
    have hm : n % (2 ^ (31 - l) * 2) = n % 2 ^ (31 - l) + 2 ^ (31 - l) * (n / 2 ^ (31 - l) % 2) := Nat.mod_mul
    have hle : n % (2 ^ (31 - l) * 2) ≤ n := Nat.mod_le _ _
    have hle2 : n % 2 ^ (31 - l) ≤ n := Nat.mod_le _ _
    have hcast : ((n : Int) - (n : Int) % ((2 ^ (31 - l) * 2 : Nat) : Int)) = ((n - n % (2 ^ (31 - l) * 2) : Nat) : Int) := by
      rw [← Int.natCast_emod]; omega
    have hcast2 : ((n : Int) - (n : Int) % ((2 ^ (31 - l) : Nat) : Int)) = ((n - n % 2 ^ (31 - l) : Nat) : Int) := by
      rw [← Int.natCast_emod]; omega
    rw [hcast] at ih
    rw [hcast2]
    have ih' : adr (wayX (n : Int) l) 0 = n - n % (2 ^ (31 - l) * 2) := by omega
    rw [ih']
    unfold bitX
    have ht : (n : Int).toNat = n := by simp
    rw [ht]
    generalize 2 ^ (31 - l) = m at hm hle hle2 ⊢
    rcases Nat.mod_two_eq_zero_or_one (n / m) with hb | hb
    · rw [hb] at hm ⊢
      simp only [Nat.mul_zero, Nat.add_zero] at hm
      simp [hm]
    · rw [hb] at hm ⊢
      simp only [Nat.mul_one] at hm
      simp only [beq_self_eq_true, if_true]
      omega
theorem way_may {a : Int} {l : Int} (h0 : 0 ≤ a) (h1 : a < 4294967296) (h : mayB a l = true) : ((adr (wayX a l.toNat) 0 : Nat) : Int) = a := by
  unfold mayB at h
  rw [decide_eq_true_eq] at h
  rw [way_adr h0 h1 l.toNat (by omega)]
  exact h.2.2
/-- A tree of bits: what a place has, the ways on by 0 and by 1. -/
inductive Tr where
  | nil : Tr
  | node : Option Int → Tr → Tr → Tr
def Tr.get : Tr → List Bool → Option Int
  | .nil, _ => none
  | .node v _ _, [] => v
  | .node _ z o, b :: p => if b = true then o.get p else z.get p
/-- All that a tree has, in order. -/
def hereP (v : Option Int) (p : List Bool) : List (List Bool × Int) := match v with
  | some n => [(p, n)]
  | none => []
def Tr.ways : Tr → List Bool → List (List Bool × Int)
  | .nil, _ => []
  | .node v z o, p => hereP v p ++ (z.ways (p ++ [false]) ++ o.ways (p ++ [true]))
theorem mem_ways : ∀ (t : Tr) (p : List Bool) (q : List Bool) (n : Int), (q, n) ∈ t.ways p ↔ ∃ r, q = p ++ r ∧ t.get r = some n
  | .nil, p, q, n => by simp [Tr.ways, Tr.get]
  | .node v z o, p, q, n => by
    rw [Tr.ways, List.mem_append, List.mem_append, mem_ways z, mem_ways o]
    constructor
    · rintro (h | ⟨r, rfl, h⟩ | ⟨r, rfl, h⟩)
      · cases v with
        | none => simp [hereP] at h
        | some m => simp [hereP] at h; obtain ⟨rfl, rfl⟩ := h; exact ⟨[], by simp, rfl⟩
      · exact ⟨false :: r, by simp, by simpa [Tr.get] using h⟩
      · exact ⟨true :: r, by simp, by simpa [Tr.get] using h⟩
    · rintro ⟨r, rfl, h⟩
      cases r with
      | nil => left; simp only [Tr.get] at h; rw [h]; simp [hereP]
      | cons b r =>
        right
        cases b
        · exact .inl ⟨r, by simp, by simpa [Tr.get] using h⟩
        · exact .inr ⟨r, by simp, by simpa [Tr.get] using h⟩
theorem lex_append (p : List Bool) {q r : List Bool} (h : lexB q r) : lexB (p ++ q) (p ++ r) := by
  induction p with
  | nil => exact h
  | cons b p ih => exact .inr ⟨rfl, ih⟩
theorem ways_lex : ∀ (t : Tr) (p : List Bool), (t.ways p).Pairwise fun x y => lexB x.1 y.1
  | .nil, p => by simp [Tr.ways]
  | .node v z o, p => by
    rw [Tr.ways, List.pairwise_append, List.pairwise_append]
    refine ⟨by cases v <;> simp [hereP], ⟨ways_lex z _, ways_lex o _, ?_⟩, ?_⟩
    · rintro ⟨q, n⟩ hq ⟨r, m⟩ hr
      obtain ⟨q', rfl, -⟩ := (mem_ways z _ _ _).1 hq
      obtain ⟨r', rfl, -⟩ := (mem_ways o _ _ _).1 hr
      simp only [List.append_assoc]
      exact lex_append p (.inl ⟨rfl, rfl⟩)
    · rintro ⟨q, n⟩ hq ⟨r, m⟩ hr
      have hq' : q = p := by cases v <;> simp [hereP] at hq; exact hq.1
      subst hq'
      rw [List.mem_append] at hr
      rcases hr with hr | hr
      · obtain ⟨r', rfl, -⟩ := (mem_ways z _ _ _).1 hr
        have := lex_append q (q := []) (r := [false] ++ r') trivial
        simpa using this
      · obtain ⟨r', rfl, -⟩ := (mem_ways o _ _ _).1 hr
        have := lex_append q (q := []) (r := [true] ++ r') trivial
        simpa using this
/-- A way's prefix, with what it has. -/
def prOf (x : List Bool × Int) : Pr := ⟨(adr x.1 0 : Nat), (x.1.length : Nat), x.2⟩
def Tr.list (t : Tr) : List Pr := (t.ways []).map prOf
/-- No way is longer than 32 bits. -/
def Tr.short (t : Tr) : Prop := ∀ p n, t.get p = some n → p.length ≤ 32
theorem list_srt {t : Tr} (h : t.short) : Srt t.list := by
  unfold Srt Tr.list
  rw [List.pairwise_map]
  refine List.Pairwise.imp_of_mem ?_ (ways_lex t [])
  rintro ⟨p, n⟩ ⟨q, m⟩ hp hq hl
  obtain ⟨r, er, h1⟩ := (mem_ways t [] _ _).1 hp
  obtain ⟨s, es, h2⟩ := (mem_ways t [] _ _).1 hq
  rw [List.nil_append] at er es
  have e1 := h r n h1
  have e2 := h s m h2
  rw [← er] at e1
  rw [← es] at e2
  have := lex_adr p q 0 (by omega) (by omega) hl
  rw [lessB_iff]
  simp only [prOf]
  omega
theorem adr_inj {p q : List Bool} (hp : p.length ≤ 32) (h1 : adr p 0 = adr q 0) (h2 : p.length = q.length) : p = q := by
  have tri : ∀ (p q : List Bool), p.length = q.length → p = q ∨ lexB p q ∨ lexB q p := by
    intro p
    induction p with
    | nil => intro q h; cases q with
      | nil => exact .inl rfl
      | cons c q => simp at h
    | cons b p ih => intro q h; cases q with
      | nil => simp at h
      | cons c q =>
        rcases ih q (by simpa using h) with rfl | h' | h'
        · cases b <;> cases c
          · exact .inl rfl
          · exact .inr (.inl (.inl ⟨rfl, rfl⟩))
          · exact .inr (.inr (.inl ⟨rfl, rfl⟩))
          · exact .inl rfl
        · cases b <;> cases c
          · exact .inr (.inl (.inr ⟨rfl, h'⟩))
          · exact .inr (.inl (.inl ⟨rfl, rfl⟩))
          · exact .inr (.inr (.inl ⟨rfl, rfl⟩))
          · exact .inr (.inl (.inr ⟨rfl, h'⟩))
        · cases b <;> cases c
          · exact .inr (.inr (.inr ⟨rfl, h'⟩))
          · exact .inr (.inl (.inl ⟨rfl, rfl⟩))
          · exact .inr (.inr (.inl ⟨rfl, rfl⟩))
          · exact .inr (.inr (.inr ⟨rfl, h'⟩))
  rcases tri p q h2 with h | h | h
  · exact h
  · have := lex_adr p q 0 (by omega) (by omega) h; omega
  · have := lex_adr q p 0 (by omega) (by omega) h; omega
theorem mem_list {t : Tr} (h : t.short) {a l n : Int} : (⟨a, l, n⟩ : Pr) ∈ t.list ↔ ∃ p : List Bool, p.length ≤ 32 ∧ a = (adr p 0 : Nat) ∧ l = (p.length : Nat) ∧ t.get p = some n := by
  unfold Tr.list
  rw [List.mem_map]
  constructor
  · rintro ⟨⟨q, m⟩, hm, he⟩
    obtain ⟨r, er, h1⟩ := (mem_ways t [] _ _).1 hm
    rw [List.nil_append] at er
    subst er
    simp only [prOf, Pr.mk.injEq] at he
    obtain ⟨rfl, rfl, rfl⟩ := he
    exact ⟨q, h q _ h1, rfl, rfl, h1⟩
  · rintro ⟨p, -, rfl, rfl, hg⟩
    exact ⟨(p, n), (mem_ways t [] _ _).2 ⟨p, by simp, hg⟩, rfl⟩
/-- The way of a prefix that may be. -/
theorem mem_list_way {t : Tr} (h : t.short) {a l n : Int} (h0 : 0 ≤ a) (h1 : a < 4294967296) (hm : mayB a l = true) : (⟨a, l, n⟩ : Pr) ∈ t.list ↔ t.get (wayX a l.toNat) = some n := by
  have hl : 0 ≤ l ∧ l ≤ 32 := by unfold mayB at hm; rw [decide_eq_true_eq] at hm; exact ⟨hm.1, hm.2.1⟩
  have hw := way_may h0 h1 hm
  rw [mem_list h]
  constructor
  · rintro ⟨p, hp, ha, hl', hg⟩
    have : wayX a l.toNat = p := adr_inj (by rw [way_len]; omega) (by omega) (by rw [way_len]; omega)
    rw [this]; exact hg
  · intro hg
    exact ⟨wayX a l.toNat, by rw [way_len]; omega, hw.symm, by rw [way_len]; omega, hg⟩
theorem andM_small (x : Int) (n : Nat) : ∃ k : Int, andM x n = k * ((2 ^ (32 - n) : Nat) : Int) := ⟨x / ((2 ^ (32 - n) : Nat) : Int), by
  unfold andM
  have h := Int.emod_add_mul_ediv x ((2 ^ (32 - n) : Nat) : Int)
  rw [Int.mul_comm] at h
  omega⟩
end Go.Proofs.Ytifokdebocgaiaa
