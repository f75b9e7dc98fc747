/- Timers: a list by rising times, those of one time by rising ids; what the document's calls do, and what follows. No program is named here. -/
import Derived.WalkKit
namespace Go.Proofs.Ytajpfmnnkglkiaa

/-- A timer: its id, its time. -/
structure Tm where
  i : Int
  a : Int
deriving DecidableEq
def Tm.lt (x y : Tm) : Prop := x.a < y.a ∨ x.a = y.a ∧ x.i < y.i
instance (x y : Tm) : Decidable (x.lt y) := by unfold Tm.lt; infer_instance
theorem tm_ext {x y : Tm} (h1 : x.i = y.i) (h2 : x.a = y.a) : x = y := by cases x; cases y; simp_all
theorem Tm.lt_trans {x y z : Tm} (h1 : x.lt y) (h2 : y.lt z) : x.lt z := by unfold Tm.lt at *; omega
theorem Tm.lt_irrefl (x : Tm) : ¬ x.lt x := by unfold Tm.lt; omega
theorem Tm.lt_asym {x y : Tm} (h : x.lt y) : ¬ y.lt x := fun k => Tm.lt_irrefl x (Tm.lt_trans h k)
theorem Tm.lt_tri {x y : Tm} (h1 : ¬ x.lt y) (h2 : x ≠ y) : y.lt x := by
  unfold Tm.lt at *
  have : ¬ (x.i = y.i ∧ x.a = y.a) := fun h => h2 (tm_ext h.1 h.2)
  omega
theorem Tm.lt_ne {x y : Tm} (h : x.lt y) : x ≠ y := by rintro rfl; exact Tm.lt_irrefl x h
def SrtT (L : List Tm) : Prop := L.Pairwise Tm.lt
structure GoodT (L : List Tm) : Prop where
  s : SrtT L
  u : L.Pairwise fun x y => x.i ≠ y.i
  r : ∀ p ∈ L, 0 ≤ p.a ∧ p.a ≤ 1099511627776
  z : ∀ p ∈ L, -9223372036854775808 ≤ p.i ∧ p.i ≤ 9223372036854775807
theorem goodT_nil : GoodT [] := ⟨List.Pairwise.nil, List.Pairwise.nil, by simp, by simp⟩
def hasI (i : Int) (L : List Tm) : Bool := L.any fun x => x.i == i
theorem hasI_iff {i : Int} {L : List Tm} : hasI i L = true ↔ ∃ p ∈ L, p.i = i := by simp [hasI]
theorem hasI_not {i : Int} {L : List Tm} : hasI i L = false ↔ ∀ p ∈ L, p.i ≠ i := by simp [hasI]
def stopT (L : List Tm) (i : Int) : List Tm := L.filter fun x => x.i != i
def stopTX (L : List Tm) (i : Int) : Int := if hasI i L = true then 0 else 5
def insT (x : Tm) : List Tm → List Tm
  | [] => [x]
  | y :: r => if x.lt y then x :: y :: r else y :: insT x r
def setTX (L : List Tm) (i a : Int) : Int := if a < 0 ∨ 1099511627776 < a then 1 else if hasI i L = true then 0 else if 256 ≤ L.length then 4 else 0
def setT (L : List Tm) (i a : Int) : List Tm := if setTX L i a = 0 then insT ⟨i, a⟩ (stopT L i) else L
def dueL (now : Int) (L : List Tm) : List Tm := L.takeWhile fun x => decide (x.a ≤ now)
def dueR (now : Int) (L : List Tm) : List Tm := L.dropWhile fun x => decide (x.a ≤ now)
def nextT (L : List Tm) : Int := (L.head?.map Tm.a).getD 0
def nextB (L : List Tm) : Bool := !L.isEmpty

theorem mem_stopT {L : List Tm} {i : Int} {p : Tm} : p ∈ stopT L i ↔ p ∈ L ∧ p.i ≠ i := by simp [stopT]
theorem stopT_none {L : List Tm} {i : Int} (h : hasI i L = false) : stopT L i = L := by
  rw [hasI_not] at h
  exact List.filter_eq_self.2 fun p hp => by simpa using h p hp
theorem stopT_len_le (L : List Tm) (i : Int) : (stopT L i).length ≤ L.length := List.length_filter_le _ _
theorem stopT_len_lt {L : List Tm} {i : Int} (h : hasI i L = true) : (stopT L i).length < L.length := by
  obtain ⟨p, hp, he⟩ := hasI_iff.1 h
  have h1 := List.filter_sublist (p := fun x : Tm => x.i != i) (l := L)
  rcases Nat.lt_or_ge (stopT L i).length L.length with h2 | h2
  · exact h2
  · have h3 := h1.eq_of_length_le h2
    have : p ∈ stopT L i := by unfold stopT; rw [h3]; exact hp
    exact absurd he (mem_stopT.1 this).2
theorem stopT_len {L : List Tm} {i : Int} (hu : L.Pairwise fun x y => x.i ≠ y.i) (h : hasI i L = true) : (stopT L i).length + 1 = L.length := by
  induction L with
  | nil => simp [hasI] at h
  | cons x L ih =>
    rw [List.pairwise_cons] at hu
    unfold stopT
    rw [List.filter_cons]
    by_cases hx : x.i = i
    · have hn : hasI i L = false := hasI_not.2 fun p hp e => hu.1 p hp (hx.trans e.symm)
      have := stopT_none hn
      unfold stopT at this
      rw [if_neg (by simp [hx]), this]
      rfl
    · have hL : hasI i L = true := by
        obtain ⟨p, hp, he⟩ := hasI_iff.1 h
        rw [List.mem_cons] at hp
        rcases hp with rfl | hp
        · exact absurd he hx
        · exact hasI_iff.2 ⟨p, hp, he⟩
      have := ih hu.2 hL
      unfold stopT at this
      rw [if_pos (by simpa using hx)]
      simp only [List.length_cons]
      omega
theorem goodT_stop {L : List Tm} (h : GoodT L) (i : Int) : GoodT (stopT L i) :=
  ⟨List.Pairwise.sublist List.filter_sublist h.s, List.Pairwise.sublist List.filter_sublist h.u, fun p hp => h.r p (mem_stopT.1 hp).1, fun p hp => h.z p (mem_stopT.1 hp).1⟩
theorem mem_insT {x : Tm} : ∀ {L : List Tm} {p : Tm}, p ∈ insT x L ↔ p = x ∨ p ∈ L
  | [], p => by simp [insT]
  | y :: r, p => by
    rw [insT]
    split
    · simp
    · rw [List.mem_cons, mem_insT, List.mem_cons]
      constructor
      · rintro (h | h | h)
        · exact .inr (.inl h)
        · exact .inl h
        · exact .inr (.inr h)
      · rintro (h | h | h)
        · exact .inr (.inl h)
        · exact .inl h
        · exact .inr (.inr h)
theorem insT_len (x : Tm) : ∀ (L : List Tm), (insT x L).length = L.length + 1
  | [] => rfl
  | y :: r => by
    rw [insT]
    split
    · rfl
    · simp [insT_len x r]
theorem srtT_ins {x : Tm} : ∀ {L : List Tm}, SrtT L → (∀ p ∈ L, p ≠ x) → SrtT (insT x L)
  | [], _, _ => by simp [insT, SrtT]
  | y :: r, hs, hn => by
    rw [SrtT, List.pairwise_cons] at hs
    rw [insT]
    split
    · rename_i hxy
      rw [SrtT, List.pairwise_cons, List.pairwise_cons]
      refine ⟨fun p hp => ?_, hs⟩
      rw [List.mem_cons] at hp
      rcases hp with rfl | hp
      · exact hxy
      · exact Tm.lt_trans hxy (hs.1 p hp)
    · rename_i hxy
      rw [SrtT, List.pairwise_cons]
      refine ⟨fun p hp => ?_, srtT_ins hs.2 fun p hp => hn p (List.mem_cons_of_mem _ hp)⟩
      rcases mem_insT.1 hp with rfl | hp
      · exact Tm.lt_tri hxy (fun e => hn y (List.mem_cons_self ..) e.symm)
      · exact hs.1 p hp
theorem uniqT_ins {x : Tm} : ∀ {L : List Tm}, (L.Pairwise fun x y => x.i ≠ y.i) → (∀ p ∈ L, p.i ≠ x.i) → (insT x L).Pairwise fun x y => x.i ≠ y.i
  | [], _, _ => by simp [insT]
  | y :: r, hs, hn => by
    rw [List.pairwise_cons] at hs
    rw [insT]
    split
    · rw [List.pairwise_cons, List.pairwise_cons]
      exact ⟨fun p hp => (hn p hp).symm, hs⟩
    · rw [List.pairwise_cons]
      refine ⟨fun p hp => ?_, uniqT_ins hs.2 fun p hp => hn p (List.mem_cons_of_mem _ hp)⟩
      rcases mem_insT.1 hp with rfl | hp
      · exact hn y (List.mem_cons_self ..)
      · exact hs.1 p hp
theorem setTX_ok {L : List Tm} {i a : Int} (h : setTX L i a = 0) : 0 ≤ a ∧ a ≤ 1099511627776 ∧ (hasI i L = true ∨ L.length < 256) := by
  unfold setTX at h
  split at h
  · cases h
  · rename_i h1
    split at h
    · rename_i h2; exact ⟨by omega, by omega, .inl h2⟩
    · split at h
      · cases h
      · exact ⟨by omega, by omega, .inr (by omega)⟩
theorem mem_setT {L : List Tm} {i a : Int} (h : setTX L i a = 0) {p : Tm} : p ∈ setT L i a ↔ p = ⟨i, a⟩ ∨ p ∈ L ∧ p.i ≠ i := by
  unfold setT
  rw [if_pos h, mem_insT, mem_stopT]
theorem setT_same {L : List Tm} {i a : Int} (h : setTX L i a ≠ 0) : setT L i a = L := by unfold setT; rw [if_neg h]
theorem goodT_set {L : List Tm} (h : GoodT L) {i a : Int} (hz : -9223372036854775808 ≤ i ∧ i ≤ 9223372036854775807) : GoodT (setT L i a) := by
  by_cases hx : setTX L i a = 0
  · have hg := goodT_stop h i
    obtain ⟨h0, h1, -⟩ := setTX_ok hx
    unfold setT
    rw [if_pos hx]
    refine ⟨srtT_ins hg.s fun p hp e => (mem_stopT.1 hp).2 (by rw [e]), uniqT_ins hg.u fun p hp => (mem_stopT.1 hp).2, fun p hp => ?_, fun p hp => ?_⟩
    · rcases mem_insT.1 hp with rfl | hp
      · exact ⟨h0, h1⟩
      · exact hg.r p hp
    · rcases mem_insT.1 hp with rfl | hp
      · exact hz
      · exact hg.z p hp
  · rw [setT_same hx]; exact h
theorem setT_len {L : List Tm} (h : GoodT L) {i a : Int} (hx : setTX L i a = 0) : (setT L i a).length = if hasI i L = true then L.length else L.length + 1 := by
  unfold setT
  rw [if_pos hx, insT_len]
  split
  · rename_i hi; exact stopT_len h.u hi
  · rename_i hi; rw [stopT_none (by simpa using hi)]
theorem setT_256 {L : List Tm} (h : GoodT L) (hl : L.length ≤ 256) (i a : Int) : (setT L i a).length ≤ 256 := by
  by_cases hx : setTX L i a = 0
  · rw [setT_len h hx]
    split
    · exact hl
    · rename_i hi
      rcases (setTX_ok hx).2.2 with h1 | h1
      · exact absurd h1 hi
      · omega
  · rw [setT_same hx]; exact hl
theorem setT_le (L : List Tm) (i a : Int) : (setT L i a).length ≤ L.length + 1 := by
  by_cases hx : setTX L i a = 0
  · unfold setT
    rw [if_pos hx, insT_len]
    have := stopT_len_le L i
    omega
  · rw [setT_same hx]; omega
theorem srtT_ext {L M : List Tm} (h1 : SrtT L) (h2 : SrtT M) (h : ∀ x, x ∈ L ↔ x ∈ M) : L = M := by
  have n1 : L.Nodup := h1.imp fun {a b} h => Tm.lt_ne h
  have n2 : M.Nodup := h2.imp fun {a b} h => Tm.lt_ne h
  exact List.Perm.eq_of_pairwise (le := fun a b => decide (a.lt b) = true) (fun a b _ _ h1 h2 => by simp only [decide_eq_true_eq] at h1 h2; exact absurd h2 (Tm.lt_asym h1)) (h1.imp fun {a b} h => by simpa using h) (h2.imp fun {a b} h => by simpa using h) ((List.perm_ext_iff_of_nodup n1 n2).2 h)
theorem due_split (now : Int) (L : List Tm) : dueL now L ++ dueR now L = L := List.takeWhile_append_dropWhile
theorem mem_due (now : Int) : ∀ {L : List Tm}, SrtT L → (∀ p, p ∈ dueL now L ↔ p ∈ L ∧ p.a ≤ now) ∧ ∀ p, p ∈ dueR now L ↔ p ∈ L ∧ now < p.a
  | [], _ => by simp [dueL, dueR]
  | x :: L, hs => by
    rw [SrtT, List.pairwise_cons] at hs
    obtain ⟨h1, h2⟩ := mem_due now hs.2
    unfold dueL dueR at *
    rw [List.takeWhile_cons, List.dropWhile_cons]
    by_cases hx : x.a ≤ now
    · simp only [hx, decide_true, if_true]
      refine ⟨fun p => ?_, fun p => ?_⟩
      · rw [List.mem_cons, h1, List.mem_cons]
        constructor
        · rintro (rfl | h)
          · exact ⟨.inl rfl, hx⟩
          · exact ⟨.inr h.1, h.2⟩
        · rintro ⟨rfl | h, h3⟩
          · exact .inl rfl
          · exact .inr ⟨h, h3⟩
      · rw [h2, List.mem_cons]
        constructor
        · rintro ⟨h, h3⟩
          exact ⟨.inr h, h3⟩
        · rintro ⟨rfl | h, h3⟩
          · omega
          · exact ⟨h, h3⟩
    · have hall : ∀ p ∈ L, now < p.a := fun p hp => by have := hs.1 p hp; unfold Tm.lt at this; omega
      simp only [hx, decide_false, Bool.false_eq_true, if_false]
      refine ⟨fun p => ?_, fun p => ?_⟩
      · constructor
        · intro h; cases h
        · rintro ⟨h, h3⟩
          rw [List.mem_cons] at h
          rcases h with rfl | h
          · exact absurd h3 hx
          · have := hall p h; omega
      · constructor
        · intro h
          rw [List.mem_cons] at h
          rcases h with rfl | h
          · exact ⟨List.mem_cons_self .., by omega⟩
          · exact ⟨List.mem_cons_of_mem _ h, hall p h⟩
        · exact fun h => h.1
theorem goodT_due {L : List Tm} (h : GoodT L) (now : Int) : GoodT (dueL now L) ∧ GoodT (dueR now L) := by
  have hl : (dueL now L).Sublist L := List.takeWhile_sublist _
  have hr : (dueR now L).Sublist L := List.dropWhile_sublist _
  exact ⟨⟨List.Pairwise.sublist hl h.s, List.Pairwise.sublist hl h.u, fun p hp => h.r p (hl.subset hp), fun p hp => h.z p (hl.subset hp)⟩, ⟨List.Pairwise.sublist hr h.s, List.Pairwise.sublist hr h.u, fun p hp => h.r p (hr.subset hp), fun p hp => h.z p (hr.subset hp)⟩⟩
theorem due_len (now : Int) (L : List Tm) : (dueL now L).length + (dueR now L).length = L.length := by
  have := congrArg List.length (due_split now L)
  rw [List.length_append] at this
  exact this
/-- What a program finds by going over its timers in any order: those that are due, in order. -/
theorem due_is {L M : List Tm} (hs : SrtT L) (hM : SrtT M) {now : Int} (h : ∀ p, p ∈ M ↔ p ∈ L ∧ p.a ≤ now) : M = dueL now L :=
  srtT_ext hM (List.Pairwise.sublist (List.takeWhile_sublist _) hs) fun p => by rw [h, (mem_due now hs).1]
theorem rest_is {L M : List Tm} (hs : SrtT L) (hM : SrtT M) {now : Int} (h : ∀ p, p ∈ M ↔ p ∈ L ∧ now < p.a) : M = dueR now L :=
  srtT_ext hM (List.Pairwise.sublist (List.dropWhile_sublist _) hs) fun p => by rw [h, (mem_due now hs).2]
theorem nextT_is {L : List Tm} (hs : SrtT L) {p : Tm} (hp : p ∈ L) (hm : ∀ q ∈ L, p.a ≤ q.a) : nextT L = p.a ∧ nextB L = true := by
  cases L with
  | nil => cases hp
  | cons x L =>
    refine ⟨?_, rfl⟩
    show x.a = p.a
    rw [SrtT, List.pairwise_cons] at hs
    have h1 := hm x (List.mem_cons_self ..)
    rw [List.mem_cons] at hp
    rcases hp with rfl | hp
    · rfl
    · have := hs.1 p hp
      unfold Tm.lt at this
      omega
/-- An id stands at most once. -/
theorem uniqT {L : List Tm} (h : L.Pairwise fun x y => x.i ≠ y.i) {p q : Tm} (hp : p ∈ L) (hq : q ∈ L) (he : p.i = q.i) : p = q := by
  induction L with
  | nil => cases hp
  | cons x L ih =>
    rw [List.pairwise_cons] at h
    rw [List.mem_cons] at hp hq
    rcases hp with rfl | hp <;> rcases hq with rfl | hq
    · rfl
    · exact absurd he (h.1 q hq)
    · exact absurd he.symm (h.1 p hp)
    · exact ih h.2 hp hq
/-- A call of the document's Stop, by its list: is it as long as it was? -/
theorem stopT_eq_len {L : List Tm} {i : Int} : ((stopT L i).length = L.length) ↔ hasI i L = false := by
  constructor
  · intro h
    cases hc : hasI i L
    · rfl
    · have := stopT_len_lt hc; omega
  · intro h; rw [stopT_none h]
end Go.Proofs.Ytajpfmnnkglkiaa
