/- Which domains have a route to a prefix, as a number's bits, kept by prefix; what follows for a table of routes. No program is named here. -/
import Derived.Test.YtcabeclbdjfoaaaMatN
import Derived.Test.YtcabeclbdjfoaaaTagZ
import Derived.Test.YtcabeclbdjfoaaaTriX
import Derived.Test.YtcabeclbdjfoaaaMapZ
namespace Go.Proofs.Ytcabeclbdjfoaaa

def setR (a l : Int) : List Rt → Nat
  | [] => 0
  | p :: L => if p.of a l then setR a l L ||| 2 ^ p.d.toNat else setR a l L
theorem bit_setR {a l : Int} {i : Nat} : ∀ {L : List Rt}, (setR a l L).testBit i = true ↔ ∃ p ∈ L, p.of a l ∧ p.d.toNat = i
  | [] => by simp [setR]
  | p :: L => by
    rw [setR]
    have ih := @bit_setR a l i L
    by_cases h : p.of a l
    · rw [if_pos h, Nat.testBit_or, Bool.or_eq_true, ih, Nat.testBit_two_pow, decide_eq_true_eq]
      simp only [List.mem_cons, exists_eq_or_imp]
      constructor
      · rintro (h1 | h1)
        · exact .inr h1
        · exact .inl ⟨h, h1⟩
      · rintro (h1 | h1)
        · exact .inr h1.2
        · exact .inl h1
    · rw [if_neg h, ih]
      simp only [List.mem_cons, exists_eq_or_imp]
      exact ⟨.inr, fun h1 => h1.elim (fun h2 => absurd h2.1 h) id⟩
theorem setR_ext {a l : Int} {L M : List Rt} (h : ∀ i, (∃ p ∈ L, p.of a l ∧ p.d.toNat = i) ↔ ∃ p ∈ M, p.of a l ∧ p.d.toNat = i) : setR a l L = setR a l M := by
  apply Nat.eq_of_testBit_eq
  intro i
  rw [Bool.eq_iff_iff, bit_setR, bit_setR]
  exact h i
theorem setR_lt {a l : Int} : ∀ {L : List Rt}, (∀ p ∈ L, 0 ≤ p.d ∧ p.d < 16) → setR a l L < 65536
  | [], _ => by simp [setR]
  | p :: L, h => by
    have ih := @setR_lt a l L fun q hq => h q (List.mem_cons_of_mem _ hq)
    have hp := h p (List.mem_cons_self ..)
    rw [setR]
    split
    · have := pow_bd (n := p.d.toNat) (by omega)
      exact or_lt ih (by omega)
    · exact ih
theorem setR_zero {a l : Int} {L : List Rt} : setR a l L = 0 ↔ ∀ p ∈ L, ¬ p.of a l := by
  constructor
  · intro h p hp ho
    have : (setR a l L).testBit p.d.toNat = true := bit_setR.2 ⟨p, hp, ho, rfl⟩
    rw [h] at this
    simp at this
  · intro h
    apply Nat.eq_of_testBit_eq
    intro i
    rw [Nat.zero_testBit]
    cases hc : (setR a l L).testBit i
    · rfl
    · obtain ⟨p, hp, ho, -⟩ := bit_setR.1 hc
      exact absurd ho (h p hp)
theorem may_dom {x : Rt} (h : mayR x = true) : mayB x.a x.l = true ∧ 0 ≤ x.d ∧ x.d < 16 ∧ 0 ≤ x.s ∧ x.s ≤ 255 ∧ 0 ≤ x.m ∧ x.m ≤ 4294967295 ∧ 0 ≤ x.n ∧ x.n ≤ 32 := by
  simp only [mayR, Bool.and_eq_true, decide_eq_true_eq] at h
  exact h
theorem good_d {L : List Rt} (h : GoodR L) : ∀ p ∈ L, 0 ≤ p.d ∧ p.d < 16 := fun p hp => ⟨(may_dom (h.m p hp)).2.1, (may_dom (h.m p hp)).2.2.1⟩

/-- The routes to one prefix. -/
def selR (a l : Int) (L : List Rt) : List Rt := L.filter fun p => decide (p.of a l)
theorem mem_selR {a l : Int} {L : List Rt} {p : Rt} : p ∈ selR a l L ↔ p ∈ L ∧ p.of a l := by simp [selR]
theorem selR_len (a l : Int) (L : List Rt) : (selR a l L).length ≤ L.length := List.length_filter_le _ _
theorem mem_allK {t : Nat} {d : Int} : ∀ {k : Nat}, d ∈ allK k t ↔ ∃ i : Nat, i < k ∧ d = (i : Int) ∧ t.testBit i = true
  | 0 => by simp [allK]
  | k + 1 => by
    have ih := @mem_allK t d k
    rw [allK_succ]
    constructor
    · intro h
      split at h
      · rename_i hb
        rw [List.mem_append, ih, List.mem_singleton] at h
        rcases h with ⟨i, h1, h2, h3⟩ | h
        · exact ⟨i, by omega, h2, h3⟩
        · exact ⟨k, by omega, h, hb⟩
      · obtain ⟨i, h1, h2, h3⟩ := ih.1 h
        exact ⟨i, by omega, h2, h3⟩
    · rintro ⟨i, h1, h2, h3⟩
      by_cases hi : i = k
      · subst hi
        rw [if_pos h3, List.mem_append, List.mem_singleton]
        exact .inr h2
      · have := ih.2 ⟨i, by omega, h2, h3⟩
        split
        · exact List.mem_append_left _ this
        · exact this
theorem allK_rising (t : Nat) : ∀ k, (allK k t).Pairwise (· < ·)
  | 0 => List.Pairwise.nil
  | k + 1 => by
    rw [allK_succ]
    split
    · refine List.pairwise_append.2 ⟨allK_rising t k, List.pairwise_singleton _ _, fun x hx y hy => ?_⟩
      obtain ⟨i, h1, rfl, -⟩ := mem_allK.1 hx
      rw [List.mem_singleton] at hy
      omega
    · exact allK_rising t k
theorem rising_ext {L M : List Int} (h1 : L.Pairwise (· < ·)) (h2 : M.Pairwise (· < ·)) (h : ∀ x, x ∈ L ↔ x ∈ M) : L = M := by
  have n1 : L.Nodup := h1.imp fun {a b} h => by omega
  have n2 : M.Nodup := h2.imp fun {a b} h => by omega
  exact List.Perm.eq_of_pairwise (le := fun a b => decide (a < b) = true) (fun a b _ _ h1 h2 => by simp only [decide_eq_true_eq] at h1 h2; omega) (h1.imp fun {a b} h => by simpa using h) (h2.imp fun {a b} h => by simpa using h) ((List.perm_ext_iff_of_nodup n1 n2).2 h)
theorem selR_d {a l : Int} {L : List Rt} (h : GoodR L) : (selR a l L).map Rt.d = allK 16 (setR a l L) := by
  refine rising_ext ?_ (allK_rising _ _) fun x => ?_
  · rw [List.pairwise_map]
    have h1 : (selR a l L).Pairwise fun p q => p.k.lt q.k := List.Pairwise.sublist List.filter_sublist h.s
    have h2 : (selR a l L).Pairwise fun p q => p ∈ selR a l L ∧ q ∈ selR a l L ∧ p.k.lt q.k := List.Pairwise.imp_of_mem (fun {p q} hp hq hh => ⟨hp, hq, hh⟩) h1
    refine h2.imp fun {p q} hh => ?_
    obtain ⟨hp, hq, hh⟩ := hh
    have e1 := (mem_selR.1 hp).2
    have e2 := (mem_selR.1 hq).2
    unfold Rt.of at e1 e2
    unfold Ky.lt Rt.k at hh
    simp only at hh
    omega
  · rw [List.mem_map, mem_allK]
    constructor
    · rintro ⟨p, hp, rfl⟩
      obtain ⟨hp, ho⟩ := mem_selR.1 hp
      have hd := good_d h p hp
      exact ⟨p.d.toNat, by omega, by omega, bit_setR.2 ⟨p, hp, ho, rfl⟩⟩
    · rintro ⟨i, hi, rfl, hb⟩
      obtain ⟨p, hp, ho, hd⟩ := bit_setR.1 hb
      have := good_d h p hp
      exact ⟨p, mem_selR.2 ⟨hp, ho⟩, by omega⟩
theorem selR_len_dep {a l : Int} {L : List Rt} (h : GoodR L) : (selR a l L).length = dep (setR a l L) := by
  have := congrArg List.length (selR_d (a := a) (l := l) h)
  rw [List.length_map, allK_len] at this
  exact this
theorem selR_at {a l : Int} {L : List Rt} (h : GoodR L) {i : Nat} (hi : i < dep (setR a l L)) : ∃ p, (selR a l L)[i]? = some p ∧ (allK 16 (setR a l L))[i]? = some p.d ∧ p ∈ L ∧ p.k = ⟨a, l, p.d⟩ := by
  have hl : i < (selR a l L).length := by rw [selR_len_dep h]; exact hi
  have hp : (selR a l L)[i] ∈ selR a l L := List.getElem_mem hl
  obtain ⟨h1, h2⟩ := mem_selR.1 hp
  refine ⟨_, List.getElem?_eq_getElem hl, ?_, h1, ?_⟩
  · rw [← selR_d h, List.getElem?_map, List.getElem?_eq_getElem hl]; rfl
  · unfold Rt.of at h2
    simp [Rt.k, h2.1, h2.2]
/-- The best of one prefix, among the routes to it. -/
def bst (q : Rt) (M : List Rt) : Rt := M.foldl (fun q p => if bet p q = true then p else q) q
theorem bestR_sel (a l : Int) : ∀ (L : List Rt) (q : Rt), bestR a l L (some q) = some (bst q (selR a l L))
  | [], q => rfl
  | p :: L, q => by
    rw [bestR, bestS, selR, List.filter_cons]
    by_cases h : p.of a l
    · rw [if_pos h]
      simp only [h, decide_true, if_true]
      have e : (if bet p q = true then some p else some q) = some (if bet p q = true then p else q) := by split <;> rfl
      rw [e, bestR_sel a l L]
      rfl
    · rw [if_neg h]
      simp only [h, decide_false]
      rw [bestR_sel a l L]
      rfl
theorem bestR_none (a l : Int) : ∀ (L : List Rt), bestR a l L none = match selR a l L with | [] => none | p :: M => some (bst p M)
  | [] => rfl
  | p :: L => by
    rw [bestR, bestS, selR, List.filter_cons]
    by_cases h : p.of a l
    · rw [if_pos h]
      simp only [h, decide_true, if_true]
      exact bestR_sel a l L p
    · rw [if_neg h]
      simp only [h, decide_false]
      exact bestR_none a l L

/-- T has, of each prefix that has a route, the set of its domains. -/
def Doms (L : List Rt) (T : List Pr) : Prop := ∀ q : Pr, q ∈ T ↔ (∃ p ∈ L, p.of q.a q.l) ∧ q.n = (setR q.a q.l L : Int)
theorem doms_nil : Doms [] [] := fun q => by simp
theorem doms_get {L : List Rt} {T : List Pr} (h : Doms L T) (a l : Int) : getN T a l = (setR a l L : Int) := by
  unfold getN
  cases hg : getP T a l with
  | none =>
    have h1 := getP_none.1 hg
    have h2 : setR a l L = 0 := setR_zero.2 fun p hp ho => h1 ⟨a, l, (setR a l L : Int)⟩ ((h _).2 ⟨⟨p, hp, ho⟩, rfl⟩) ⟨rfl, rfl⟩
    rw [h2]; rfl
  | some q =>
    obtain ⟨h1, h2, h3⟩ := getP_some hg
    have := ((h q).1 h1).2
    rw [h2, h3] at this
    simpa using this
theorem doms_put {L L' : List Rt} {T : List Pr} (h : Doms L T) (hs : Srt T) {most a l n : Int} (hx : putX most T a l = 0) (ho : ∀ p : Rt, ¬ p.of a l → (p ∈ L' ↔ p ∈ L)) (hp : ∃ p ∈ L', p.of a l) (hn : n = (setR a l L' : Int)) : Doms L' (putL most T a l n) := by
  intro q
  rw [mem_put hs hx, h q]
  by_cases hq : q.a = a ∧ q.l = l
  · obtain ⟨rfl, rfl⟩ := hq
    constructor
    · rintro (h1 | h1)
      · exact ⟨hp, by rw [h1]; exact hn⟩
      · exact absurd ⟨rfl, rfl⟩ h1.2
    · rintro ⟨-, h1⟩
      left
      cases q
      simp only at h1 hn ⊢
      rw [h1, hn]
  · have e : ∀ p : Rt, p.of q.a q.l → (p ∈ L' ↔ p ∈ L) := fun p h1 => ho p fun h2 => hq ⟨h1.1.symm.trans h2.1, h1.2.symm.trans h2.2⟩
    have e1 : (∃ p ∈ L', p.of q.a q.l) ↔ ∃ p ∈ L, p.of q.a q.l := ⟨fun ⟨p, h1, h2⟩ => ⟨p, (e p h2).1 h1, h2⟩, fun ⟨p, h1, h2⟩ => ⟨p, (e p h2).2 h1, h2⟩⟩
    have e2 : setR q.a q.l L' = setR q.a q.l L := setR_ext fun i => ⟨fun ⟨p, h1, h2, h3⟩ => ⟨p, (e p h2).1 h1, h2, h3⟩, fun ⟨p, h1, h2, h3⟩ => ⟨p, (e p h2).2 h1, h2, h3⟩⟩
    rw [e1, e2]
    constructor
    · rintro (h1 | h1)
      · rw [h1] at hq; exact absurd ⟨rfl, rfl⟩ hq
      · exact h1.1
    · exact fun h1 => .inr ⟨h1, hq⟩
theorem doms_take {L L' : List Rt} {T : List Pr} (h : Doms L T) (hs : Srt T) {a l : Int} (ho : ∀ p : Rt, ¬ p.of a l → (p ∈ L' ↔ p ∈ L)) (hp : ∀ p ∈ L', ¬ p.of a l) : Doms L' (takeL T a l) := by
  intro q
  rw [mem_take hs, h q]
  by_cases hq : q.a = a ∧ q.l = l
  · obtain ⟨rfl, rfl⟩ := hq
    constructor
    · rintro ⟨-, h1⟩
      exact absurd ⟨rfl, rfl⟩ h1
    · rintro ⟨⟨p, h1, h2⟩, -⟩
      exact absurd h2 (hp p h1)
  · have e : ∀ p : Rt, p.of q.a q.l → (p ∈ L' ↔ p ∈ L) := fun p h1 => ho p fun h2 => hq ⟨h1.1.symm.trans h2.1, h1.2.symm.trans h2.2⟩
    have e1 : (∃ p ∈ L', p.of q.a q.l) ↔ ∃ p ∈ L, p.of q.a q.l := ⟨fun ⟨p, h1, h2⟩ => ⟨p, (e p h2).1 h1, h2⟩, fun ⟨p, h1, h2⟩ => ⟨p, (e p h2).2 h1, h2⟩⟩
    have e2 : setR q.a q.l L' = setR q.a q.l L := setR_ext fun i => ⟨fun ⟨p, h1, h2, h3⟩ => ⟨p, (e p h2).1 h1, h2, h3⟩, fun ⟨p, h1, h2, h3⟩ => ⟨p, (e p h2).2 h1, h2, h3⟩⟩
    rw [e1, e2]
    exact ⟨fun h1 => h1.1, fun h1 => ⟨h1, hq⟩⟩
theorem doms_keys {L L' : List Rt} {T : List Pr} (h : Doms L T) (hk : ∀ k : Ky, (∃ p ∈ L', p.k = k) ↔ ∃ p ∈ L, p.k = k) : Doms L' T := by
  intro q
  have e : ∀ (d : Int), (∃ p ∈ L', p.of q.a q.l ∧ p.d = d) ↔ ∃ p ∈ L, p.of q.a q.l ∧ p.d = d := fun d => by
    have := hk ⟨q.a, q.l, d⟩
    simp only [Rt.k_iff] at this
    unfold Rt.of
    constructor
    · rintro ⟨p, h1, ⟨h2, h3⟩, h4⟩
      obtain ⟨p', g1, g2, g3, g4⟩ := this.1 ⟨p, h1, h2, h3, h4⟩
      exact ⟨p', g1, ⟨g2, g3⟩, g4⟩
    · rintro ⟨p, h1, ⟨h2, h3⟩, h4⟩
      obtain ⟨p', g1, g2, g3, g4⟩ := this.2 ⟨p, h1, h2, h3, h4⟩
      exact ⟨p', g1, ⟨g2, g3⟩, g4⟩
  have e1 : (∃ p ∈ L', p.of q.a q.l) ↔ ∃ p ∈ L, p.of q.a q.l :=
    ⟨fun ⟨p, h1, h2⟩ => by obtain ⟨p', g1, g2, -⟩ := (e p.d).1 ⟨p, h1, h2, rfl⟩; exact ⟨p', g1, g2⟩, fun ⟨p, h1, h2⟩ => by obtain ⟨p', g1, g2, -⟩ := (e p.d).2 ⟨p, h1, h2, rfl⟩; exact ⟨p', g1, g2⟩⟩
  have e2 : setR q.a q.l L' = setR q.a q.l L := setR_ext fun i =>
    ⟨fun ⟨p, h1, h2, h3⟩ => by obtain ⟨p', g1, g2, g3⟩ := (e p.d).1 ⟨p, h1, h2, rfl⟩; exact ⟨p', g1, g2, by rw [g3]; exact h3⟩, fun ⟨p, h1, h2, h3⟩ => by obtain ⟨p', g1, g2, g3⟩ := (e p.d).2 ⟨p, h1, h2, rfl⟩; exact ⟨p', g1, g2, by rw [g3]; exact h3⟩⟩
  rw [h q, e1, e2]
theorem nodup_len {α : Type} [DecidableEq α] : ∀ (A B : List α), A.Nodup → (∀ x ∈ A, x ∈ B) → A.length ≤ B.length
  | [], B, _, _ => Nat.zero_le _
  | x :: A, B, hn, hs => by
    rw [List.nodup_cons] at hn
    have hx := hs x (List.mem_cons_self ..)
    have := nodup_len A (B.erase x) hn.2 fun y hy => (List.mem_erase_of_ne (by rintro rfl; exact hn.1 hy)).2 (hs y (List.mem_cons_of_mem _ hy))
    rw [List.length_erase_of_mem hx] at this
    have hb : 0 < B.length := List.length_pos_of_mem hx
    simp only [List.length_cons]
    omega
theorem doms_len {L : List Rt} {T : List Pr} (h : Doms L T) (hs : Srt T) : T.length ≤ L.length := by
  have := nodup_len (T.map fun q => (q.a, q.l)) (L.map fun p => (p.a, p.l)) ?_ ?_
  · simpa using this
  · rw [List.Nodup, List.pairwise_map]
    refine hs.imp fun {p q} hh e => ?_
    simp only [Prod.mk.injEq] at e
    exact lessB_ne hh e
  · intro x hx
    obtain ⟨q, hq, rfl⟩ := List.mem_map.1 hx
    obtain ⟨⟨p, hp, ho⟩, -⟩ := (h q).1 hq
    exact List.mem_map.2 ⟨p, hp, by rw [ho.1, ho.2]⟩
theorem doms_put0 {L : List Rt} {T : List Pr} (h : Doms L T) (hs : Srt T) {most a l : Int} (hm : mayB a l = true) (hl : (L.length : Int) < most) : putX most T a l = 0 := by
  have := doms_len h hs
  unfold putX
  rw [if_neg (by simp [hm])]
  split
  · rfl
  · rw [if_neg (by omega)]
theorem isSome_getP {a l : Int} {L : List Pr} : (fAt a l L).isSome = (getP L a l).isSome := by
  rw [getP_fAt]
  cases hf : fAt a l L with
  | none => rfl
  | some i =>
    obtain ⟨p, hp, -⟩ := fAt_some hf
    simp [hp]
theorem doms_put1 {L : List Rt} {T : List Pr} (h : Doms L T) {most a l : Int} (hm : mayB a l = true) (hp : ∃ p ∈ L, p.of a l) : putX most T a l = 0 := by
  unfold putX
  rw [if_neg (by simp [hm]), isSome_getP, if_pos]
  cases hg : getP T a l with
  | some q => rfl
  | none => exact absurd ⟨rfl, rfl⟩ (getP_none.1 hg ⟨a, l, (setR a l L : Int)⟩ ((h _).2 ⟨hp, rfl⟩))
theorem doms_all {L : List Rt} {T : List Pr} (h : Doms L T) (hs : Srt T) (hg : GoodR L) : T.flatMap (fun q => selR q.a q.l L) = L := by
  refine srtR_ext ?_ hg.s fun p => ?_
  · unfold SrtR
    rw [List.pairwise_flatMap]
    refine ⟨fun q _ => List.Pairwise.sublist List.filter_sublist hg.s, ?_⟩
    refine hs.imp fun {p q} hh x hx y hy => ?_
    have e1 := (mem_selR.1 hx).2
    have e2 := (mem_selR.1 hy).2
    rw [lessB_iff] at hh
    unfold Rt.of at e1 e2
    unfold Ky.lt Rt.k
    simp only
    omega
  · rw [List.mem_flatMap]
    constructor
    · rintro ⟨q, -, hp⟩
      exact (mem_selR.1 hp).1
    · intro hp
      exact ⟨⟨p.a, p.l, (setR p.a p.l L : Int)⟩, (h _).2 ⟨⟨p, hp, rfl, rfl⟩, rfl⟩, mem_selR.2 ⟨hp, rfl, rfl⟩⟩
theorem doms_find {L : List Rt} {T : List Pr} (h : Doms L T) {x : Int} {q : Pr} (hf : findP x T none = some q) : findR x L = bestR q.a q.l L none := by
  obtain ⟨h1, h2, h3⟩ := find_some hf
  refine findR_by h2 ((h q).1 h1).1 fun p hp hh => ?_
  exact h3 ⟨p.a, p.l, (setR p.a p.l L : Int)⟩ ((h _).2 ⟨⟨p, hp, rfl, rfl⟩, rfl⟩) hh
theorem doms_find_none {L : List Rt} {T : List Pr} (h : Doms L T) {x : Int} (hf : findP x T none = none) : findR x L = none :=
  findR_is_none fun p hp => find_none hf ⟨p.a, p.l, (setR p.a p.l L : Int)⟩ ((h _).2 ⟨⟨p, hp, rfl, rfl⟩, rfl⟩)
end Go.Proofs.Ytcabeclbdjfoaaa
/- What a put and a take do to the sets of domains and to the routes that a map holds. No program is named here. -/
namespace Go.Proofs.Ytcabeclbdjfoaaa

theorem not_bit {b : Nat} (hb : b < 65536) (i : Nat) : (65535 - b).testBit i = (decide (i < 16) && !b.testBit i) := by
  have h := Nat.testBit_two_pow_sub_succ (n := 16) hb i
  rw [← h]
  congr 1
  simp
theorem nodup_srt {L : List Rt} (h : SrtR L) : (L.map Rt.k).Nodup := by
  rw [List.Nodup, List.pairwise_map]
  exact h.imp fun {p q} hh => Ky.lt_ne hh
theorem nodup_of_keys {L : List Rt} (h : (L.map Rt.k).Nodup) : L.Nodup := by
  rw [List.Nodup, List.pairwise_map] at h
  exact h.imp fun {p q} hh e => hh (by rw [e])
theorem perm_keys {A M : List Rt} (hn : (A.map Rt.k).Nodup) (hs : SrtR M) (h : ∀ r, r ∈ A ↔ r ∈ M) : A.Perm M :=
  (List.perm_ext_iff_of_nodup (nodup_of_keys hn) (nodup_of_keys (nodup_srt hs))).2 h
theorem mem_erase_keys {A : List Rt} (hn : (A.map Rt.k).Nodup) {j : Nat} {p : Rt} (hp : A[j]? = some p) {r : Rt} : r ∈ A.eraseIdx j ↔ r ∈ A ∧ r.k ≠ p.k := by
  rw [List.mem_eraseIdx_iff_getElem?]
  constructor
  · rintro ⟨i, hi, hr⟩
    exact ⟨List.mem_of_getElem? hr, fun e => hi (uniq_at hn hr hp e)⟩
  · rintro ⟨hr, hne⟩
    obtain ⟨i, hi, rfl⟩ := List.getElem_of_mem hr
    refine ⟨i, fun e => hne ?_, List.getElem?_eq_getElem hi⟩
    subst e
    rw [List.getElem?_eq_getElem hi] at hp
    simp only [Option.some.injEq] at hp
    rw [hp]
theorem perm_put_new {most : Int} {L rs : List Rt} {x : Rt} (hs : SrtR L) (hs' : SrtR (putR most L x)) (hpm : rs.Perm L) (hf : ∀ r ∈ rs, r.k ≠ x.k) (hx : putRX most L x = 0) : (rs ++ [x]).Perm (putR most L x) := by
  refine perm_keys ?_ hs' fun r => ?_
  · rw [List.map_append, List.nodup_append]
    refine ⟨(hpm.map Rt.k).nodup_iff.2 (nodup_srt hs), by simp, fun a ha b hb => ?_⟩
    obtain ⟨r, hr, rfl⟩ := List.mem_map.1 ha
    simp only [List.map_cons, List.map_nil, List.mem_singleton] at hb
    rw [hb]
    exact hf r hr
  · rw [mem_putR hs hx, List.mem_append, List.mem_singleton, ← hpm.mem_iff]
    exact ⟨fun h => h.elim (fun h => .inr ⟨h, hf r h⟩) .inl, fun h => h.elim .inr fun h => .inl h.1⟩
theorem perm_put_old {most : Int} {L rs : List Rt} {x : Rt} (hs : SrtR L) (hs' : SrtR (putR most L x)) (hpm : rs.Perm L) {j : Nat} {p : Rt} (hp : rs[j]? = some p) (hk : p.k = x.k) (hx : putRX most L x = 0) : (rs.set j x).Perm (putR most L x) := by
  have hn : (rs.map Rt.k).Nodup := (hpm.map Rt.k).nodup_iff.2 (nodup_srt hs)
  have hj := (List.getElem?_eq_some_iff.1 hp).1
  refine perm_keys ?_ hs' fun r => ?_
  · have e : (rs.set j x).map Rt.k = rs.map Rt.k := by
      rw [List.map_set, ← hk]
      apply List.ext_getElem?
      intro i
      rw [List.getElem?_set]
      split
      · rename_i hi
        subst hi
        rw [if_pos (by simpa using hj), List.getElem?_map, hp]; rfl
      · rfl
    rw [e]; exact hn
  · rw [mem_putR hs hx, (Go.ChangeMaps.set_perm rs j hj x).mem_iff, List.mem_cons, mem_erase_keys hn hp, hk, hpm.mem_iff]
theorem perm_take {L rs : List Rt} {k : Ky} (hs : SrtR L) (hs' : SrtR (takeR L k)) (hpm : rs.Perm L) {j : Nat} {p : Rt} (hp : rs[j]? = some p) (hk : p.k = k) : (rs.eraseIdx j).Perm (takeR L k) := by
  have hn : (rs.map Rt.k).Nodup := (hpm.map Rt.k).nodup_iff.2 (nodup_srt hs)
  refine perm_keys ?_ hs' fun r => ?_
  · rw [Go.ChangeMaps.map_eraseIdx]
    exact hn.sublist (List.eraseIdx_sublist _ _)
  · rw [mem_takeR hs, mem_erase_keys hn hp, hk, hpm.mem_iff]
theorem setR_put {most : Int} {L : List Rt} {x : Rt} (hs : SrtR L) (hx : putRX most L x = 0) (hf : ∀ r ∈ L, r.k ≠ x.k) : setR x.a x.l (putR most L x) = setR x.a x.l L ||| 2 ^ x.d.toNat := by
  apply Nat.eq_of_testBit_eq
  intro i
  rw [Bool.eq_iff_iff, bit_setR, Nat.testBit_or, Bool.or_eq_true, bit_setR, Nat.testBit_two_pow, decide_eq_true_eq]
  constructor
  · rintro ⟨p, hp, ho, hi⟩
    rcases (mem_putR hs hx).1 hp with rfl | ⟨hp, -⟩
    · exact .inr hi
    · exact .inl ⟨p, hp, ho, hi⟩
  · rintro (⟨p, hp, ho, hi⟩ | hi)
    · exact ⟨p, (mem_putR hs hx).2 (.inr ⟨hp, hf p hp⟩), ho, hi⟩
    · exact ⟨x, (mem_putR hs hx).2 (.inl rfl), ⟨rfl, rfl⟩, hi⟩
theorem setR_not {L : List Rt} (h : GoodR L) {x : Rt} (hd : 0 ≤ x.d) (hf : ∀ r ∈ L, r.k ≠ x.k) : (setR x.a x.l L).testBit x.d.toNat = false := by
  cases hc : (setR x.a x.l L).testBit x.d.toNat
  · rfl
  · obtain ⟨p, hp, ho, hi⟩ := bit_setR.1 hc
    have := good_d h p hp
    exact absurd (Rt.k_iff.2 ⟨ho.1, ho.2, by omega⟩ : p.k = ⟨x.a, x.l, x.d⟩) (hf p hp)
theorem setR_take {L : List Rt} (h : GoodR L) {a l d : Int} (h0 : 0 ≤ d) (h1 : d < 16) : setR a l (takeR L ⟨a, l, d⟩) = setR a l L &&& (65535 - 2 ^ d.toNat) := by
  apply Nat.eq_of_testBit_eq
  intro i
  have hp := pow_bd (n := d.toNat) (by omega)
  rw [Bool.eq_iff_iff, bit_setR, Nat.testBit_and, not_bit (by omega), Nat.testBit_two_pow, Bool.and_eq_true, bit_setR, Bool.and_eq_true, decide_eq_true_eq, Bool.not_eq_true', decide_eq_false_iff_not]
  constructor
  · rintro ⟨p, hp, ho, hi⟩
    obtain ⟨hp, hk⟩ := (mem_takeR h.s).1 hp
    have hd := good_d h p hp
    exact ⟨⟨p, hp, ho, hi⟩, by omega, fun e => hk (Rt.k_iff.2 ⟨ho.1, ho.2, by omega⟩)⟩
  · rintro ⟨⟨p, hp, ho, hi⟩, -, hne⟩
    refine ⟨p, (mem_takeR h.s).2 ⟨hp, fun e => hne ?_⟩, ho, hi⟩
    rw [← hi, (Rt.k_iff.1 e).2.2]
theorem of_put {most : Int} {L : List Rt} {x : Rt} (hs : SrtR L) (hx : putRX most L x = 0) (p : Rt) (hn : ¬ p.of x.a x.l) : p ∈ putR most L x ↔ p ∈ L := by
  rw [mem_putR hs hx]
  constructor
  · rintro (rfl | h)
    · exact absurd ⟨rfl, rfl⟩ hn
    · exact h.1
  · exact fun h => .inr ⟨h, fun e => hn ⟨(Rt.k_iff.1 e).1, (Rt.k_iff.1 e).2.1⟩⟩
theorem of_take {L : List Rt} {a l d : Int} (hs : SrtR L) (p : Rt) (hn : ¬ p.of a l) : p ∈ takeR L ⟨a, l, d⟩ ↔ p ∈ L := by
  rw [mem_takeR hs]
  exact ⟨fun h => h.1, fun h => ⟨h, fun e => hn ⟨(Rt.k_iff.1 e).1, (Rt.k_iff.1 e).2.1⟩⟩⟩
theorem keys_put_old {most : Int} {L : List Rt} {x : Rt} (hs : SrtR L) (hx : putRX most L x = 0) {p : Rt} (hp : p ∈ L) (hk : p.k = x.k) (k : Ky) : (∃ q ∈ putR most L x, q.k = k) ↔ ∃ q ∈ L, q.k = k := by
  constructor
  · rintro ⟨q, hq, rfl⟩
    rcases (mem_putR hs hx).1 hq with rfl | ⟨hq, -⟩
    · exact ⟨p, hp, hk⟩
    · exact ⟨q, hq, rfl⟩
  · rintro ⟨q, hq, rfl⟩
    by_cases h : q.k = x.k
    · exact ⟨x, (mem_putR hs hx).2 (.inl rfl), h.symm⟩
    · exact ⟨q, (mem_putR hs hx).2 (.inr ⟨hq, h⟩), rfl⟩
end Go.Proofs.Ytcabeclbdjfoaaa
