/- Tags: what filter's text does not say of them. No program is named here. -/
import Derived.Test.YtmmhnpekbfmonaaFilT
namespace Go.Proofs.Ytmmhnpekbfmonaa

/-- How many of the lowest k bits are 1. -/
def cnt : Nat → Nat → Nat
  | 0, _ => 0
  | k + 1, t => cnt k t + (t.testBit k).toNat
def dep (t : Nat) : Nat := cnt 16 t
/-- The places of the lowest k bits that are 1, rising. -/
def allK : Nat → Nat → List Int
  | 0, _ => []
  | k + 1, t => if t.testBit k then allK k t ++ [(k : Int)] else allK k t
def wit (a b : Nat) : Bool := (a &&& (65535 - b)) == 0
def addT (t : Nat) (d : Int) : Nat := if domB d then if t.testBit d.toNat then 0 else t ||| 2 ^ d.toNat else 0
def addE (t : Nat) (d : Int) : Nat := if domB d then if t.testBit d.toNat then 6 else 0 else 1
def ofS (l : List Int) : Nat × Nat := l.foldl (fun s d => if s.2 = 0 then (addT s.1 d, addE s.1 d) else s) (0, 0)

theorem or_sum {t n : Nat} (ht : t < 65536) (hn : n < 16) (h : t.testBit n = false) : t + 2 ^ n = t ||| 2 ^ n := by
  have e : t &&& 2 ^ n = 0 := by rw [and_pow, h]; simp
  have hp := pow_bd hn
  have h2 := BitVec.add_eq_or_of_and_eq_zero (BitVec.ofNat 17 t) (BitVec.ofNat 17 (2 ^ n)) (by
    apply BitVec.eq_of_toNat_eq
    rw [BitVec.toNat_and, BitVec.toNat_ofNat, BitVec.toNat_ofNat, Nat.mod_eq_of_lt (by omega), Nat.mod_eq_of_lt (by omega), e]
    rfl)
  have h3 := congrArg BitVec.toNat h2
  rw [BitVec.toNat_add, BitVec.toNat_or, BitVec.toNat_ofNat, BitVec.toNat_ofNat, Nat.mod_eq_of_lt (a := t) (by omega), Nat.mod_eq_of_lt (a := 2 ^ n) (by omega), Nat.mod_eq_of_lt (by omega)] at h3
  exact h3
theorem or_lt {a b : Nat} (ha : a < 65536) (hb : b < 65536) : a ||| b < 65536 := Nat.or_lt_two_pow (n := 16) ha hb
theorem cnt_le (k t : Nat) : cnt k t ≤ k := by
  induction k with
  | zero => simp [cnt]
  | succ k ih => have := Bool.toNat_le (t.testBit k); simp only [cnt]; omega
theorem dep_le (t : Nat) : dep t ≤ 16 := cnt_le 16 t
theorem cnt_low (k t : Nat) : cnt (k + 1) t = t % 2 + cnt k (t / 2) := by
  induction k with
  | zero =>
    simp only [cnt, Nat.testBit_zero]
    rcases Nat.mod_two_eq_zero_or_one t with h | h <;> simp [h]
  | succ k ih =>
    have e : cnt (k + 1 + 1) t = cnt (k + 1) t + (t.testBit (k + 1)).toNat := rfl
    have e2 : cnt (k + 1) (t / 2) = cnt k (t / 2) + ((t / 2).testBit k).toNat := rfl
    rw [e, e2, ih, Nat.testBit_succ]
    omega
theorem dep_low {t : Nat} (h : t < 65536) : dep t = t % 2 + dep (t / 2) := by
  have e := cnt_low 16 t
  have e2 : cnt (16 + 1) t = dep t + (t.testBit 16).toNat := rfl
  rw [high h (Nat.le_refl _)] at e2
  have e3 : cnt (16 + 1) t = dep t := by simpa using e2
  rw [← e3, e]
  rfl
theorem dep_zero : dep 0 = 0 := by decide
theorem cnt_or (k a b : Nat) : cnt k (a ||| b) + cnt k (a &&& b) = cnt k a + cnt k b := by
  induction k with
  | zero => rfl
  | succ k ih =>
    simp only [cnt, Nat.testBit_or, Nat.testBit_and]
    cases a.testBit k <;> cases b.testBit k <;> simp <;> omega
theorem cnt_mono (k : Nat) {a b : Nat} (h : ∀ i, a.testBit i = true → b.testBit i = true) : cnt k a ≤ cnt k b := by
  induction k with
  | zero => exact Nat.le_refl _
  | succ k ih =>
    have := h k
    simp only [cnt]
    cases ha : a.testBit k <;> cases hb : b.testBit k <;> simp_all <;> omega
theorem cnt_pow (n : Nat) : ∀ k, cnt k (2 ^ n) = if n < k then 1 else 0
  | 0 => rfl
  | k + 1 => by
    simp only [cnt, Nat.testBit_two_pow, cnt_pow n k]
    by_cases h : n < k
    · have : n ≠ k := by omega
      have h2 : n < k + 1 := by omega
      simp [h, this, h2]
    · by_cases h2 : n = k
      · subst h2; simp
      · have h3 : ¬ n < k + 1 := by omega
        simp [h, h2, h3]
theorem dep_add {t n : Nat} (h : t.testBit n = false) (hn : n < 16) : dep (t ||| 2 ^ n) = dep t + 1 := by
  have e := cnt_or 16 t (2 ^ n)
  have e2 : t &&& 2 ^ n = 0 := by rw [and_pow, h]; simp
  rw [e2, cnt_pow n 16, if_pos hn, show cnt 16 0 = 0 from by decide] at e
  exact e

theorem not_bit {b : Nat} (hb : b < 65536) (i : Nat) : (65535 - b).testBit i = (decide (i < 16) && !b.testBit i) := by
  have h := Nat.testBit_two_pow_sub_succ (n := 16) hb i
  rw [← h]
  congr 1
  simp
theorem wit_iff {a b : Nat} (ha : a < 65536) (hb : b < 65536) : wit a b = true ↔ ∀ i, a.testBit i = true → b.testBit i = true := by
  unfold wit
  rw [beq_iff_eq]
  constructor
  · intro h i hi
    have e : (a &&& (65535 - b)).testBit i = false := by rw [h]; simp
    rw [Nat.testBit_and, hi, not_bit hb] at e
    by_cases h16 : i < 16
    · simpa [h16] using e
    · rw [high ha (by omega)] at hi; cases hi
  · intro h
    apply Nat.eq_of_testBit_eq
    intro i
    rw [Nat.testBit_and, not_bit hb]
    have := h i
    cases ha : a.testBit i <;> cases hb : b.testBit i <;> simp_all
theorem wit_16 {a b : Nat} (ha : a < 65536) (hb : b < 65536) : wit a b = true ↔ ∀ i, i < 16 → a.testBit i = true → b.testBit i = true := by
  rw [wit_iff ha hb]
  constructor
  · intro h i _ hi; exact h i hi
  · intro h i hi
    by_cases h16 : i < 16
    · exact h i h16 hi
    · rw [high ha (by omega)] at hi; cases hi
theorem wit_dep {a b : Nat} (ha : a < 65536) (hb : b < 65536) (h : wit a b = true) : dep a ≤ dep b := cnt_mono 16 ((wit_iff ha hb).1 h)
theorem wit_trans {a b c : Nat} (ha : a < 65536) (hb : b < 65536) (hc : c < 65536) (h : wit a b = true) (k : wit b c = true) : wit a c = true :=
  (wit_iff ha hc).2 fun i hi => (wit_iff hb hc).1 k i ((wit_iff ha hb).1 h i hi)
theorem wit_anti {a b : Nat} (ha : a < 65536) (hb : b < 65536) (h : wit a b = true) (k : wit b a = true) : a = b := by
  apply Nat.eq_of_testBit_eq
  intro i
  have h1 := (wit_iff ha hb).1 h i
  have h2 := (wit_iff hb ha).1 k i
  cases e : a.testBit i <;> cases f : b.testBit i <;> simp_all
theorem wit_or {a b : Nat} (ha : a < 65536) (hb : b < 65536) : wit a (a ||| b) = true := (wit_iff ha (or_lt ha hb)).2 fun i hi => by simp [hi]
theorem wit_and {a b : Nat} (ha : a < 65536) : wit (a &&& b) a = true := (wit_iff (and_lt ha) ha).2 fun i hi => by
  rw [Nat.testBit_and] at hi
  cases e : a.testBit i <;> simp_all
theorem wit_zero {a : Nat} (ha : a < 65536) : wit 0 a = true := (wit_iff (by omega) ha).2 fun i hi => by simp at hi

theorem allK_succ (k t : Nat) : allK (k + 1) t = if t.testBit k then allK k t ++ [(k : Int)] else allK k t := rfl
theorem allK_len (k t : Nat) : (allK k t).length = cnt k t := by
  induction k with
  | zero => rfl
  | succ k ih =>
    simp only [allK, cnt]
    cases t.testBit k <;> simp [ih]

theorem ofS_nil : ofS [] = (0, 0) := rfl
theorem ofS_snoc (l : List Int) (d : Int) : ofS (l ++ [d]) = if (ofS l).2 = 0 then (addT (ofS l).1 d, addE (ofS l).1 d) else ofS l := by
  unfold ofS
  rw [List.foldl_append]
  rfl
theorem ofS_stick (l m : List Int) (h : (ofS l).2 ≠ 0) : ofS (l ++ m) = ofS l := by
  unfold ofS at *
  rw [List.foldl_append]
  generalize l.foldl _ (0, 0) = s at h
  induction m with
  | nil => rfl
  | cons d m ih => simp only [List.foldl_cons, if_neg h]; exact ih
theorem take_snoc {l : List Int} {k : Nat} (h : k < l.length) : l.take (k + 1) = l.take k ++ [l[k]?.getD 0] := by
  rw [List.take_add_one]
  simp [h]
theorem ofS_take {l : List Int} {k : Nat} (h : k < l.length) (h0 : (ofS (l.take k)).2 = 0) : ofS (l.take (k + 1)) = (addT (ofS (l.take k)).1 (l[k]?.getD 0), addE (ofS (l.take k)).1 (l[k]?.getD 0)) := by
  rw [take_snoc h, ofS_snoc, if_pos h0]
theorem ofS_err {l : List Int} {k : Nat} (h : (ofS (l.take k)).2 ≠ 0) : ofS l = ofS (l.take k) := by
  have := ofS_stick (l.take k) (l.drop k) h
  rwa [List.take_append_drop] at this

theorem addT_lt {t : Nat} (h : t < 65536) (d : Int) : addT t d < 65536 := by
  unfold addT
  split
  · rename_i hd
    split
    · omega
    · have h2 := domB_iff.1 hd
      have := pow_bd (n := d.toNat) (by omega)
      exact or_lt h (by omega)
  · omega
theorem addE_zero {t : Nat} {d : Int} : addE t d = 0 ↔ domB d = true ∧ t.testBit d.toNat = false := by
  unfold addE
  cases domB d <;> cases t.testBit d.toNat <;> simp
theorem addE_ok {t : Nat} {d : Int} (h : domB d = true) (k : t.testBit d.toNat = false) : addE t d = 0 ∧ addT t d = t ||| 2 ^ d.toNat := by
  unfold addE addT
  rw [if_pos h, if_pos h, if_neg (by simp [k]), if_neg (by simp [k])]
  exact ⟨rfl, rfl⟩
theorem addT_err {t : Nat} {d : Int} (h : addE t d ≠ 0) : addT t d = 0 := by
  unfold addE at h
  unfold addT
  cases h1 : domB d <;> cases h2 : t.testBit d.toNat <;> simp_all

/-- What Of is: a tag just where all are domains, none twice; its bits are these. -/
structure Made (l : List Int) : Prop where
  ok : (ofS l).2 = 0 ↔ (∀ d ∈ l, domB d = true) ∧ l.Nodup
  lt : (ofS l).1 < 65536
  none : (ofS l).2 ≠ 0 → (ofS l).1 = 0
  bits : (ofS l).2 = 0 → ∀ i : Nat, (ofS l).1.testBit i = decide ((i : Int) ∈ l)
  deep : (ofS l).2 = 0 → dep (ofS l).1 = l.length

theorem made_nil : Made [] where
  ok := by simp [ofS_nil]
  lt := by simp [ofS_nil]
  none := by simp [ofS_nil]
  bits := by simp [ofS_nil]
  deep := by intro _; rw [ofS_nil]; exact dep_zero

theorem made_snoc {l : List Int} (h : Made l) (d : Int) : Made (l ++ [d]) := by
  by_cases h0 : (ofS l).2 = 0
  · have e : ofS (l ++ [d]) = (addT (ofS l).1 d, addE (ofS l).1 d) := by rw [ofS_snoc, if_pos h0]
    have hb := h.bits h0
    have hok := h.ok.1 h0
    have key : addE (ofS l).1 d = 0 ↔ domB d = true ∧ d ∉ l := by
      rw [addE_zero]
      constructor
      · rintro ⟨h1, h2⟩
        have hd := domB_iff.1 h1
        rw [hb] at h2
        have : ((d.toNat : Nat) : Int) = d := by omega
        rw [this] at h2
        exact ⟨h1, by simpa using h2⟩
      · rintro ⟨h1, h2⟩
        have hd := domB_iff.1 h1
        have : ((d.toNat : Nat) : Int) = d := by omega
        exact ⟨h1, by rw [hb, this]; simpa using h2⟩
    constructor
    · rw [e]
      show addE _ _ = 0 ↔ _
      rw [key]
      constructor
      · rintro ⟨h1, h2⟩
        refine ⟨fun x hx => ?_, ?_⟩
        · rcases List.mem_append.1 hx with hx | hx
          · exact hok.1 x hx
          · simp at hx; subst hx; exact h1
        · rw [List.nodup_append]
          exact ⟨hok.2, by simp, fun a ha b hb' => by simp at hb'; subst hb'; intro e2; subst e2; exact h2 ha⟩
      · rintro ⟨h1, h2⟩
        rw [List.nodup_append] at h2
        exact ⟨h1 d (by simp), fun hm => h2.2.2 d hm d (by simp) rfl⟩
    · rw [e]; exact addT_lt h.lt d
    · rw [e]; exact addT_err
    · rw [e]
      intro he i
      have hk := addE_zero.1 he
      have hd := domB_iff.1 hk.1
      show (addT _ _).testBit i = _
      rw [(addE_ok hk.1 hk.2).2, Nat.testBit_or, hb, Nat.testBit_two_pow]
      rw [Bool.eq_iff_iff]
      simp
      constructor
      · rintro (h1 | h1)
        · exact .inl h1
        · right; omega
      · rintro (h1 | h1)
        · exact .inl h1
        · right; omega
    · rw [e]
      intro he
      have hk := addE_zero.1 he
      have hd := domB_iff.1 hk.1
      show dep (addT _ _) = _
      rw [(addE_ok hk.1 hk.2).2, dep_add hk.2 (by omega), h.deep h0]
      simp
  · have e : ofS (l ++ [d]) = ofS l := by rw [ofS_snoc, if_neg h0]
    have hno : ¬ ((∀ x ∈ l ++ [d], domB x = true) ∧ (l ++ [d]).Nodup) := by
      rintro ⟨h1, h2⟩
      rw [List.nodup_append] at h2
      exact h0 (h.ok.2 ⟨fun x hx => h1 x (by simp [hx]), h2.1⟩)
    constructor
    · rw [e]; exact ⟨fun h1 => absurd h1 h0, fun h1 => absurd h1 hno⟩
    · rw [e]; exact h.lt
    · rw [e]; exact h.none
    · rw [e]; exact fun h1 => absurd h1 h0
    · rw [e]; exact fun h1 => absurd h1 h0

theorem made_take (l : List Int) : ∀ k, k ≤ l.length → Made (l.take k)
  | 0, _ => by simpa using made_nil
  | k + 1, h => by rw [take_snoc (by omega)]; exact made_snoc (made_take l k (by omega)) _
theorem made (l : List Int) : Made l := by
  have := made_take l l.length (Nat.le_refl _)
  rwa [List.take_length] at this

theorem ofS_rev_ok (l : List Int) : (ofS l.reverse).2 = 0 ↔ (ofS l).2 = 0 := by
  rw [(made l).ok, (made l.reverse).ok]
  have e : l.reverse.Nodup ↔ l.Nodup := by
    unfold List.Nodup
    rw [List.pairwise_reverse]
    simp only [ne_comm]
  rw [e]
  simp
theorem ofS_rev {l : List Int} (h : (ofS l).2 = 0) : (ofS l.reverse).1 = (ofS l).1 := by
  apply Nat.eq_of_testBit_eq
  intro i
  rw [(made l).bits h, (made l.reverse).bits ((ofS_rev_ok l).2 h)]
  simp

theorem ofS_all {t : Nat} (k : Nat) (hk : k ≤ 16) : ofS (allK k t) = (t % 2 ^ k, 0) := by
  induction k with
  | zero => simp [allK, ofS_nil, Nat.mod_one]
  | succ k ih =>
    have ih := ih (by omega)
    cases hb : t.testBit k
    · have e : allK (k + 1) t = allK k t := by rw [allK_succ, hb]; rfl
      rw [e, ih]
      congr 1
      apply Nat.eq_of_testBit_eq
      intro i
      rw [Nat.testBit_mod_two_pow, Nat.testBit_mod_two_pow]
      by_cases h1 : i = k
      · subst h1; simp [hb]
      · have : (i < k) = (i < k + 1) := by rw [eq_iff_iff]; omega
        simp [this]
    · have e : allK (k + 1) t = allK k t ++ [(k : Int)] := by rw [allK_succ, hb]; rfl
      have hd : domB (k : Int) = true := domB_true (by omega) (by omega)
      have hn : (t % 2 ^ k).testBit (k : Int).toNat = false := by rw [Nat.testBit_mod_two_pow]; simp
      rw [e, ofS_snoc, ih]
      simp only [if_true]
      rw [(addE_ok hd hn).1, (addE_ok hd hn).2]
      congr 1
      apply Nat.eq_of_testBit_eq
      intro i
      rw [Nat.testBit_or, Nat.testBit_mod_two_pow, Nat.testBit_mod_two_pow, Nat.testBit_two_pow]
      by_cases h1 : i = k
      · subst h1; simp [hb]
      · have h2 : (i < k) = (i < k + 1) := by rw [eq_iff_iff]; omega
        have h3 : ¬ k = i := by omega
        simp [h2, h3]
theorem ofS_back {t : Nat} (ht : t < 65536) : ofS (allK 16 t) = (t, 0) := by
  rw [ofS_all 16 (Nat.le_refl _), Nat.mod_eq_of_lt (by simpa using ht)]

/-- One with a domain more. -/
theorem grow_has {t n : Nat} : (t ||| 2 ^ n).testBit n = true := by simp
theorem grow_other {t n : Nat} (d : Int) (h : (d == (n : Int)) = false) : hasT (t ||| 2 ^ n) d = hasT t d := by
  unfold hasT
  cases hd : domB d
  · rfl
  · have h1 := domB_iff.1 hd
    have h2 : d ≠ (n : Int) := by simpa using h
    have h3 : ¬ n = d.toNat := by omega
    simp [h3]
theorem grow_not {t n : Nat} (ht : t < 65536) (hn : n < 16) (h : t.testBit n = false) : wit (t ||| 2 ^ n) t = false := by
  have hp := pow_bd hn
  have := wit_iff (a := t ||| 2 ^ n) (b := t) (or_lt ht (by omega)) ht
  cases e : wit (t ||| 2 ^ n) t
  · rfl
  · have h2 := this.1 e n (by simp)
    rw [h] at h2
    cases h2
end Go.Proofs.Ytmmhnpekbfmonaa
