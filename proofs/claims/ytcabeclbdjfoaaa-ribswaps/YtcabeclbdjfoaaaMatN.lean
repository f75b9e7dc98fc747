/- What the laws RibGone and RibFull want of the list: pure. No program is named here. -/
import Derived.Test.YtcabeclbdjfoaaaRibQ
namespace Go.Proofs.Ytcabeclbdjfoaaa

/-- RibGone: two routes of two domains to one prefix; the better one is taken, then the other one, then none. -/
theorem gone {a b : Rt} (ha0 : 0 ≤ a.a) (ha1 : a.a < 4294967296) (ta0 : 0 ≤ a.t) (ta1 : a.t < 65536) (tb0 : 0 ≤ b.t) (tb1 : b.t < 65536) (e1 : b.a = a.a) (e2 : b.l = a.l) (hd : a.d ≠ b.d) (h1 : mayR a = true) (h2 : mayR b = true) :
    ∃ x y, (x = a ∧ y = b ∨ x = b ∧ y = a) ∧ bestR a.a a.l (putR 5 (putR 5 [] a) b) none = some x ∧ takeRX (putR 5 (putR 5 [] a) b) x.k = 0 ∧ takeR (putR 5 (putR 5 [] a) b) x.k = [y] ∧ bestR a.a a.l [y] none = some y ∧ takeRX [y] y.k = 0 ∧ takeR [y] y.k = [] ∧ bet y x = false := by
  have p1 : putR 5 [] a = [a] := by simp [putR, h1, rAt, insR]
  rw [p1]
  have hk : a.k ≠ b.k := fun h => hd (congrArg Ky.d h)
  have g1 : GoodR [a] := p1 ▸ goodR_put (most := 5) goodR_nil ha0 ha1 ta0 ta1
  have g2 : GoodR (putR 5 [a] b) := goodR_put g1 (by omega) (by omega) tb0 tb1
  have hx0 : putRX 5 [a] b = 0 := putRX_new h2 (by simp)
  have hm : ∀ p, p ∈ putR 5 [a] b ↔ p = b ∨ p = a := fun p => by
    rw [mem_putR g1.s hx0, List.mem_singleton]
    constructor
    · rintro (h | ⟨h, -⟩)
      · exact .inl h
      · exact .inr h
    · rintro (h | h)
      · exact .inl h
      · exact .inr ⟨h, h ▸ hk⟩
  have ob : b.of a.a a.l := ⟨e1, e2⟩
  have oa : a.of a.a a.l := ⟨rfl, rfl⟩
  have key : ∀ x y : Rt, (x = a ∧ y = b ∨ x = b ∧ y = a) → ¬ y.lt x → ∃ x y, (x = a ∧ y = b ∨ x = b ∧ y = a) ∧ bestR a.a a.l (putR 5 [a] b) none = some x ∧ takeRX (putR 5 [a] b) x.k = 0 ∧ takeR (putR 5 [a] b) x.k = [y] ∧ bestR a.a a.l [y] none = some y ∧ takeRX [y] y.k = 0 ∧ takeR [y] y.k = [] ∧ bet y x = false := by
    intro x y hxy hlt
    have hxm : x ∈ putR 5 [a] b := (hm x).2 (by rcases hxy with ⟨rfl, rfl⟩ | ⟨rfl, rfl⟩ <;> simp)
    have ox : x.of a.a a.l := by rcases hxy with ⟨rfl, rfl⟩ | ⟨rfl, rfl⟩ <;> assumption
    have oy : y.of a.a a.l := by rcases hxy with ⟨rfl, rfl⟩ | ⟨rfl, rfl⟩ <;> assumption
    have hm2 : ∀ p, p ∈ putR 5 [a] b ↔ p = x ∨ p = y := fun p => by
      rw [hm p]; rcases hxy with ⟨rfl, rfl⟩ | ⟨rfl, rfl⟩
      · exact Or.comm
      · exact Iff.rfl
    have hyx : y.k ≠ x.k := by rcases hxy with ⟨rfl, rfl⟩ | ⟨rfl, rfl⟩; exact fun h => hk h.symm; exact hk
    have hy1 : rAt y.k [y] = some 0 := by simp [rAt]
    refine ⟨x, y, hxy, best_is hxm ox fun q hq _ => ?_, ?_, ?_, ?_, by simp [takeRX, hy1], by simp [takeR, hy1], bet_false.2 hlt⟩
    · rcases (hm2 q).1 hq with rfl | rfl
      · exact Rt.lt_irrefl _
      · exact hlt
    · unfold takeRX
      cases hr : rAt x.k (putR 5 [a] b) with
      | none => exact absurd rfl (rAt_none.1 hr x hxm)
      | some i => rfl
    · refine srtR_ext (goodR_take g2 _).s (List.pairwise_singleton _ _) fun p => ?_
      rw [mem_takeR g2.s, hm2, List.mem_singleton]
      constructor
      · rintro ⟨rfl | h, h'⟩
        · exact absurd rfl h'
        · exact h
      · rintro rfl
        exact ⟨.inr rfl, hyx⟩
    · exact best_is (by simp) oy fun q hq _ => by
        rw [List.mem_singleton] at hq; subst hq; exact Rt.lt_irrefl _
  by_cases hlt : b.lt a
  · exact key b a (.inr ⟨rfl, rfl⟩) (Rt.lt_asym hlt)
  · exact key a b (.inl ⟨rfl, rfl⟩) hlt

/-! RibFull: a table that is filled with routes to i << 24, of 8 bits, by domain 15. -/
def rowF (i : Nat) : Rt := ⟨(i : Int) * 16777216, 8, 15, 0, 0, 0, 0⟩
/-- Just the keys of the first n rows are there. -/
structure Keys (L : List Rt) (n : Nat) : Prop where
  g : GoodR L
  l : L.length = n
  k : ∀ k, (∃ p ∈ L, p.k = k) ↔ ∃ j, j < n ∧ k = (rowF j).k
theorem keys_nil : Keys [] 0 := ⟨goodR_nil, rfl, fun k => by simp⟩
theorem insR_length (q : Rt) (L : List Rt) : (insR q L).length = L.length + 1 := insR_len q L
/-- A key that is there is replaced; nothing else turns. -/
theorem keys_old {L : List Rt} {n : Nat} (h : Keys L n) {x : Rt} (x0 : 0 ≤ x.a) (x1 : x.a < 4294967296) (t0 : 0 ≤ x.t) (t1 : x.t < 65536) {j : Nat} (hj : j < n) (hx : x.k = (rowF j).k) (most : Int) :
    Keys (putR most L x) n ∧ (putRX most L x = 0 ∨ putRX most L x = 1) ∧ ∀ full, fullR most L x full = full := by
  have hc : putRX most L x = 0 ∨ putRX most L x = 1 := by
    unfold putRX
    split
    · exact .inr rfl
    · left
      obtain ⟨p, hp, hpk⟩ := (h.k x.k).2 ⟨j, hj, hx⟩
      cases hr : rAt x.k L with
      | none => exact absurd hpk (rAt_none.1 hr p hp)
      | some i => rfl
  refine ⟨?_, hc, fun full => ?_⟩
  · rcases hc with hc | hc
    · refine ⟨goodR_put h.g x0 x1 t0 t1, ?_, fun k => ?_⟩
      · obtain ⟨p, hp, hpk⟩ := (h.k x.k).2 ⟨j, hj, hx⟩
        unfold putR
        split
        · exact h.l
        · split
          · rw [List.length_set]; exact h.l
          · rename_i hr; exact absurd hpk (rAt_none.1 hr p hp)
      · rw [← h.k k]
        constructor
        · rintro ⟨p, hp, rfl⟩
          rcases (mem_putR h.g.s hc).1 hp with rfl | ⟨hp, -⟩
          · exact (h.k _).2 ⟨j, hj, hx⟩
          · exact ⟨p, hp, rfl⟩
        · rintro ⟨p, hp, rfl⟩
          by_cases e : p.k = x.k
          · exact ⟨x, (mem_putR h.g.s hc).2 (.inl rfl), e.symm⟩
          · exact ⟨p, (mem_putR h.g.s hc).2 (.inr ⟨hp, e⟩), rfl⟩
    · rw [putR_same (by rw [hc]; decide)]; exact h
  · unfold fullR
    rw [if_neg (by rcases hc with hc | hc <;> rw [hc] <;> decide)]
theorem rowF_may {i : Nat} (h : i < 64) : mayR (rowF i) = true := by
  have : ∀ i : Fin 64, mayR (rowF i.val) = true := by decide
  exact this ⟨i, h⟩
theorem rowF_inj {i j : Nat} (h : (rowF i).k = (rowF j).k) : i = j := by
  have := congrArg Ky.a h
  simp only [rowF, Rt.k] at this
  omega
/-- The next row is put. -/
theorem keys_new {L : List Rt} {n : Nat} (h : Keys L n) (hn : n < 64) {most : Int} (hm : (n : Int) < most) :
    Keys (putR most L (rowF n)) (n + 1) ∧ putRX most L (rowF n) = 0 ∧ ∀ full, fullR most L (rowF n) full = full := by
  have hc := putRX_new (L := L) (most := most) (rowF_may hn) (by rw [h.l]; exact hm)
  have hno : ∀ p ∈ L, p.k ≠ (rowF n).k := fun p hp e => by
    obtain ⟨j, hj, h2⟩ := (h.k p.k).1 ⟨p, hp, rfl⟩
    rw [e] at h2
    have := rowF_inj h2
    omega
  refine ⟨⟨goodR_put h.g (by simp only [rowF]; omega) (by simp only [rowF]; omega) (by simp [rowF]) (by simp [rowF]), ?_, fun k => ?_⟩, hc, fun full => by unfold fullR; rw [if_neg (by rw [hc]; decide)]⟩
  · unfold putR
    rw [if_neg (by simp [rowF_may hn]), rAt_none.2 hno]
    simp only
    rw [if_neg (by rw [h.l]; omega), insR_length, h.l]
  · constructor
    · rintro ⟨p, hp, rfl⟩
      rcases (mem_putR h.g.s hc).1 hp with rfl | ⟨hp, -⟩
      · exact ⟨n, by omega, rfl⟩
      · obtain ⟨j, hj, e⟩ := (h.k p.k).1 ⟨p, hp, rfl⟩
        exact ⟨j, by omega, e⟩
    · rintro ⟨j, hj, rfl⟩
      by_cases e : j = n
      · subst e
        exact ⟨_, (mem_putR h.g.s hc).2 (.inl rfl), rfl⟩
      · obtain ⟨p, hp, e2⟩ := (h.k (rowF j).k).2 ⟨j, by omega, rfl⟩
        exact ⟨p, (mem_putR h.g.s hc).2 (.inr ⟨hp, hno p hp⟩), e2⟩
/-- A key that is not there is refused by a full table. -/
theorem keys_full {L : List Rt} {n : Nat} (h : Keys L n) {x : Rt} (hx : ∀ j, j < n → x.k ≠ (rowF j).k) :
    putR (n : Int) L x = L ∧ (mayR x = true → putRX (n : Int) L x = 4 ∧ ∀ full, fullR (n : Int) L x full = full + 1) ∧ (mayR x = false → putRX (n : Int) L x = 1 ∧ ∀ full, fullR (n : Int) L x full = full) := by
  have hno : ∀ p ∈ L, p.k ≠ x.k := fun p hp e => by
    obtain ⟨j, hj, h2⟩ := (h.k p.k).1 ⟨p, hp, rfl⟩
    exact hx j hj (e ▸ h2)
  have hr := rAt_none.2 hno
  have hc : mayR x = true → putRX (n : Int) L x = 4 := fun hm => by
    unfold putRX
    rw [if_neg (by simp [hm]), hr, if_neg (by simp), if_pos (by rw [h.l]; exact Int.le_refl _)]
  have hc' : mayR x = false → putRX (n : Int) L x = 1 := fun hm => by
    unfold putRX; rw [if_pos hm]
  refine ⟨?_, fun hm => ⟨hc hm, fun full => by unfold fullR; rw [if_pos (hc hm)]⟩, fun hm => ⟨hc' hm, fun full => by unfold fullR; rw [if_neg (by rw [hc' hm]; decide)]⟩⟩
  cases hm : mayR x
  · exact putR_same (by rw [hc' hm]; decide)
  · exact putR_same (by rw [hc hm]; decide)
/-- What RibFull asks of the key. -/
theorem known_iff {x : Rt} {n : Nat} : (∃ j, j < n ∧ x.k = (rowF j).k) ↔ x.d = 15 ∧ x.l = 8 ∧ ∃ j : Nat, j < n ∧ x.a = (j : Int) * 16777216 := by
  simp only [rowF, Rt.k, Ky.mk.injEq]
  constructor
  · rintro ⟨j, hj, h1, h2, h3⟩; exact ⟨h3, h2, j, hj, h1⟩
  · rintro ⟨h3, h2, j, hj, h1⟩; exact ⟨j, hj, h1, h2, h3⟩
end Go.Proofs.Ytcabeclbdjfoaaa
