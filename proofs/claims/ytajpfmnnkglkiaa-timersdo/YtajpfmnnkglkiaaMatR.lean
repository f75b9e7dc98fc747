/- A map of ids to times, read as a list of timers: what is laid, struck and still to come. No function is named here. -/
import Derived.Test.YtajpfmnnkglkiaaMatT
import Derived.Maps.RangeWalk
namespace Go.Proofs.Ytajpfmnnkglkiaa
open Go.Maps

abbrev kI (i : Int) : Lit := .int .i64 i
theorem kI_ne {i j : Int} (h : i ≠ j) : kI i ≠ kI j := fun e => h (by injection e)
theorem kI_same (i j : Int) : (kI i).sameKey (kI j) = decide (i = j) := by
  by_cases h : i = j
  · subst h; simp [WideAt.sameKey_self (a := kI i) trivial]
  · rw [Maps.sameKey_ne (kI_ne h)]; simp [h]
/-- The map reads as these timers. -/
structure Rd (D : DataW Unit) (L : List Tm) : Prop where
  has : ∀ i, Maps.has D (kI i) = hasI i L
  rd : ∀ p ∈ L, ∀ zd, D.atKey (kI p.i) zd = .lit (kI p.a)
  size : Maps.size D = L.length
theorem rd_nil : Rd (.map []) [] := ⟨fun _ => rfl, (fun p hp => by cases hp), rfl⟩
theorem hasI_stop {L : List Tm} {i j : Int} : hasI j (stopT L i) = (decide (j ≠ i) && hasI j L) := by
  rw [Bool.eq_iff_iff, hasI_iff]
  simp only [Bool.and_eq_true, decide_eq_true_eq, hasI_iff, mem_stopT]
  constructor
  · rintro ⟨p, ⟨hp, hn⟩, rfl⟩; exact ⟨hn, p, hp, rfl⟩
  · rintro ⟨hn, p, hp, rfl⟩; exact ⟨p, ⟨hp, hn⟩, rfl⟩
theorem hasI_set {L : List Tm} {i a j : Int} (h : setTX L i a = 0) : hasI j (setT L i a) = (decide (j = i) || hasI j L) := by
  rw [Bool.eq_iff_iff, hasI_iff]
  simp only [Bool.or_eq_true, decide_eq_true_eq, hasI_iff, mem_setT h]
  constructor
  · rintro ⟨p, rfl | ⟨hp, hn⟩, rfl⟩
    · exact .inl rfl
    · exact .inr ⟨p, hp, rfl⟩
  · rintro (rfl | ⟨p, hp, rfl⟩)
    · exact ⟨⟨j, a⟩, .inl rfl, rfl⟩
    · by_cases hi : p.i = i
      · exact ⟨⟨i, a⟩, .inl rfl, hi.symm⟩
      · exact ⟨p, .inr ⟨hp, hi⟩, rfl⟩
theorem Rd.put {D : DataW Unit} {L : List Tm} (h : Rd D L) (hD : Tidy D) (hG : GoodT L) {i a : Int} (hx : setTX L i a = 0) : Rd (D.put (kI i) (.lit (kI a))) (setT L i a) := by
  refine ⟨fun j => ?_, fun p hp zd => ?_, ?_⟩
  · rw [hasI_set hx]
    by_cases hj : j = i
    · subst hj; rw [Maps.has_put_same hD.isMap (k := kI j) trivial]; simp
    · rw [Maps.has_put_other (kI_ne hj), h.has]; simp [hj]
  · rcases (mem_setT hx).1 hp with rfl | ⟨hp, hn⟩
    · exact Maps.atKey_put_same hD.isMap (k := kI i) trivial _ _
    · rw [Maps.atKey_put_other (kI_ne hn)]; exact h.rd p hp zd
  · rw [Maps.size_put hD, h.has, h.size, setT_len hG hx]
theorem Rd.del {D : DataW Unit} {L : List Tm} (h : Rd D L) (hD : Tidy D) (hu : L.Pairwise fun x y => x.i ≠ y.i) (i : Int) : Rd (D.del (kI i)) (stopT L i) := by
  refine ⟨fun j => ?_, fun p hp zd => ?_, ?_⟩
  · rw [hasI_stop]
    by_cases hj : j = i
    · subst hj; rw [Maps.has_del_same]; simp
    · rw [Maps.has_del_other (kI_ne hj), h.has]; simp [hj]
  · obtain ⟨hp, hn⟩ := mem_stopT.1 hp
    rw [Maps.atKey_del_other (kI_ne hn)]; exact h.rd p hp zd
  · have h1 := Maps.size_del hD (k := kI i)
    rw [h.has, h.size] at h1
    cases hi : hasI i L
    · rw [hi] at h1; rw [stopT_none hi]; simpa using h1
    · rw [hi] at h1; have h2 := stopT_len hu hi; simp at h1; omega
/-- An entry of the map is one of the timers. -/
theorem Rd.entry {D : DataW Unit} {L : List Tm} (h : Rd D L) {x c : Int} (hx : Maps.has D (kI x) = true) (ha : ∀ zd, D.atKey (kI x) zd = .lit (kI c)) : ⟨x, c⟩ ∈ L := by
  rw [h.has, hasI_iff] at hx
  obtain ⟨p, hp, rfl⟩ := hx
  have h1 := h.rd p hp (.lit (kI 0))
  rw [ha] at h1
  have : c = p.a := by injection h1 with h1; injection h1
  subst this
  exact hp
/-- What is there while the round goes: what stays, and what is still to come. -/
def curT (now : Int) (left : Lit → Bool) (L : List Tm) : List Tm := L.filter fun p => decide (now < p.a) || left (kI p.i)
theorem mem_curT {now : Int} {left : Lit → Bool} {L : List Tm} {p : Tm} : p ∈ curT now left L ↔ p ∈ L ∧ (now < p.a ∨ left (kI p.i) = true) := by simp [curT]
theorem curT_start {now : Int} {left : Lit → Bool} {L : List Tm} (h : ∀ p ∈ L, left (kI p.i) = true) : curT now left L = L := List.filter_eq_self.2 fun p hp => by simp [h p hp]
theorem strike_iff {left : Lit → Bool} {x i : Int} : (left (kI i) && !(kI i).sameKey (kI x)) = true ↔ left (kI i) = true ∧ i ≠ x := by
  rw [kI_same]; simp
theorem curT_due {now : Int} {left : Lit → Bool} {L : List Tm} (hu : L.Pairwise fun x y => x.i ≠ y.i) {x c : Int} (hm : (⟨x, c⟩ : Tm) ∈ L) (hc : c ≤ now) : stopT (curT now left L) x = curT now (fun z => left z && !z.sameKey (kI x)) L := by
  unfold stopT curT
  rw [List.filter_filter]
  refine List.filter_congr fun q hq => ?_
  rw [Bool.eq_iff_iff]
  simp only [Bool.and_eq_true, Bool.or_eq_true, decide_eq_true_eq, bne_iff_ne, ne_eq]
  have h1 := strike_iff (left := left) (x := x) (i := q.i)
  rw [Bool.and_eq_true] at h1
  rw [h1]
  constructor
  · rintro ⟨hn, h2 | h2⟩
    · exact .inl h2
    · exact .inr ⟨h2, hn⟩
  · rintro (h2 | ⟨h2, hn⟩)
    · refine ⟨fun e => ?_, .inl h2⟩
      have := uniqT hu hq hm e
      subst this
      simp at h2
      omega
    · exact ⟨hn, .inr h2⟩
theorem curT_stay {now : Int} {left : Lit → Bool} {L : List Tm} (hu : L.Pairwise fun x y => x.i ≠ y.i) {x c : Int} (hm : (⟨x, c⟩ : Tm) ∈ L) (hc : now < c) : curT now left L = curT now (fun z => left z && !z.sameKey (kI x)) L := by
  unfold curT
  refine List.filter_congr fun q hq => ?_
  rw [Bool.eq_iff_iff]
  simp only [Bool.or_eq_true, decide_eq_true_eq]
  rw [strike_iff]
  constructor
  · rintro (h2 | h2)
    · exact .inl h2
    · by_cases e : q.i = x
      · have := uniqT hu hq hm e
        subst this
        exact .inl hc
      · exact .inr ⟨h2, e⟩
  · rintro (h2 | ⟨h2, -⟩)
    · exact .inl h2
    · exact .inr h2
theorem curT_end {now : Int} {left : Lit → Bool} {L : List Tm} (hs : SrtT L) (h0 : ∀ kl, left kl = false) : curT now left L = dueR now L :=
  rest_is hs (List.Pairwise.sublist List.filter_sublist hs) fun p => by rw [show (p ∈ List.filter _ L ↔ _) from mem_curT]; simp [h0]
/-- Those that are due and have come, no matter in which order. -/
structure Got (now : Int) (left : Lit → Bool) (L M : List Tm) : Prop where
  nd : M.Nodup
  mem : ∀ p, p ∈ M ↔ p ∈ L ∧ p.a ≤ now ∧ left (kI p.i) = false
theorem got_start {now : Int} {left : Lit → Bool} {L : List Tm} (h : ∀ p ∈ L, left (kI p.i) = true) : Got now left L [] :=
  ⟨List.nodup_nil, fun p => ⟨(fun h => by cases h), fun ⟨h1, _, h2⟩ => by rw [h p h1] at h2; cases h2⟩⟩
theorem Got.step {now : Int} {left : Lit → Bool} {L M : List Tm} (h : Got now left L M) (hu : L.Pairwise fun x y => x.i ≠ y.i) {x c : Int} (hm : (⟨x, c⟩ : Tm) ∈ L) (hl : left (kI x) = true) (hc : c ≤ now) : Got now (fun z => left z && !z.sameKey (kI x)) L (M ++ [⟨x, c⟩]) := by
  have hx : (⟨x, c⟩ : Tm) ∉ M := fun h1 => by have := ((h.mem _).1 h1).2.2; rw [hl] at this; cases this
  refine ⟨?_, fun p => ?_⟩
  · rw [List.nodup_append]
    refine ⟨h.nd, by simp, fun a ha b hb e => ?_⟩
    simp at hb
    subst hb e
    exact hx ha
  · rw [List.mem_append, h.mem]
    have h1 := not_congr (strike_iff (left := left) (x := x) (i := p.i))
    rw [Bool.not_eq_true] at h1
    rw [h1]
    simp only [List.mem_singleton]
    constructor
    · rintro (⟨h2, h3, h4⟩ | rfl)
      · exact ⟨h2, h3, fun h5 => by rw [h5.1] at h4; cases h4⟩
      · exact ⟨hm, hc, fun h5 => h5.2 rfl⟩
    · rintro ⟨h2, h3, h4⟩
      by_cases e : p.i = x
      · exact .inr (uniqT hu h2 hm e)
      · refine .inl ⟨h2, h3, ?_⟩
        cases h6 : left (kI p.i)
        · rfl
        · exact absurd ⟨h6, e⟩ h4
theorem Got.stay {now : Int} {left : Lit → Bool} {L M : List Tm} (h : Got now left L M) (hu : L.Pairwise fun x y => x.i ≠ y.i) {x c : Int} (hm : (⟨x, c⟩ : Tm) ∈ L) (hc : now < c) : Got now (fun z => left z && !z.sameKey (kI x)) L M := by
  refine ⟨h.nd, fun p => ?_⟩
  rw [h.mem]
  have h1 := not_congr (strike_iff (left := left) (x := x) (i := p.i))
  rw [Bool.not_eq_true] at h1
  rw [h1]
  constructor
  · rintro ⟨h2, h3, h4⟩
    exact ⟨h2, h3, fun h5 => by rw [h5.1] at h4; cases h4⟩
  · rintro ⟨h2, h3, h4⟩
    refine ⟨h2, h3, ?_⟩
    cases h6 : left (kI p.i)
    · rfl
    · refine absurd ⟨h6, fun e => ?_⟩ h4
      have := uniqT hu h2 hm e
      subst this
      simp at h3
      omega
/-- When none is left, what was got, sorted, is what is due. -/
theorem Got.sorted {now : Int} {left : Lit → Bool} {L M S : List Tm} (h : Got now left L M) (hs : SrtT L) (h0 : ∀ kl, left kl = false) (hp : S.Perm M) (hS : S.Pairwise fun x y => ¬ y.lt x) : S = dueL now L := by
  have hn : S.Nodup := hp.nodup_iff.2 h.nd
  refine due_is hs ?_ fun p => ?_
  · have h2 := hS.and hn
    exact h2.imp fun {a b} hab => Tm.lt_tri hab.1 (Ne.symm hab.2)
  · rw [hp.mem_iff, h.mem]
    simp [h0]
/-- The least time so far. -/
structure LeastT (left : Lit → Bool) (L : List Tm) (v : Int) : Prop where
  le : ∀ p ∈ L, left (kI p.i) = false → v ≤ p.a
  is : v = 1099511627776 ∨ ∃ p ∈ L, v = p.a
theorem least_start {left : Lit → Bool} {L : List Tm} (h : ∀ p ∈ L, left (kI p.i) = true) : LeastT left L 1099511627776 :=
  ⟨(fun p hp h2 => by rw [h p hp] at h2; cases h2), .inl rfl⟩
theorem LeastT.step {left : Lit → Bool} {L : List Tm} {v : Int} (h : LeastT left L v) (hu : L.Pairwise fun x y => x.i ≠ y.i) {x c : Int} (hm : (⟨x, c⟩ : Tm) ∈ L) : LeastT (fun z => left z && !z.sameKey (kI x)) L (min v c) := by
  refine ⟨fun p hp h2 => ?_, ?_⟩
  · by_cases e : p.i = x
    · have := uniqT hu hp hm e
      subst this
      exact Int.min_le_right ..
    · have h3 : left (kI p.i) = false := by
        cases h6 : left (kI p.i)
        · rfl
        · rw [strike_iff.2 ⟨h6, e⟩] at h2; cases h2
      exact Int.le_trans (Int.min_le_left ..) (h.le p hp h3)
  · rcases Int.le_total v c with h1 | h1
    · rw [Int.min_eq_left h1]; exact h.is
    · rw [Int.min_eq_right h1]; exact .inr ⟨_, hm, rfl⟩
theorem LeastT.done {left : Lit → Bool} {L : List Tm} {v : Int} (h : LeastT left L v) (hG : GoodT L) (hne : 0 < L.length) (h0 : ∀ kl, left kl = false) : nextT L = v ∧ nextB L = true := by
  have hle : ∀ p ∈ L, v ≤ p.a := fun p hp => h.le p hp (h0 _)
  rcases h.is with rfl | ⟨p, hp, rfl⟩
  · have hm : L[0] ∈ L := List.getElem_mem hne
    have h1 : L[0].a = 1099511627776 := by have := hle _ hm; have := (hG.r _ hm).2; omega
    obtain ⟨h2, h3⟩ := nextT_is hG.s hm fun q hq => by rw [h1]; exact hle q hq
    exact ⟨h2.trans h1, h3⟩
  · exact nextT_is hG.s hp hle
theorem next_none {L : List Tm} (h : L.length = 0) : nextT L = 0 ∧ nextB L = false := by
  obtain rfl := List.eq_nil_of_length_eq_zero h
  exact ⟨rfl, rfl⟩
end Go.Proofs.Ytajpfmnnkglkiaa
