/- A region that draws its order, walked once: each operation's value is told by a relation that stays in every later world, and the last one waits for all others. No program is named here. -/
import Derived.Below
import Derived.Orders
import Derived.WalkKit
import Derived.BigCall
namespace Go.Proofs.Ytmmhnpekbfmonaa
open Go.RowKit

/-- What an operation waits for. -/
def depsOf (o : Oper) : List Nat := o.after.toList.filterMap fun e => if Region.binds .any e then some e.on else none
/-- No guard, every place written once, nothing waits for what stands behind it, and everything is waited for but the last one. -/
def relB (l : List Oper) (last : Nat) : Bool :=
  decide (last + 1 = l.length) && l.all (fun o => o.guard.isNone) &&
  (List.range l.length).all (fun i => ((l[i]?).map fun o => (depsOf o).all (· < i)).getD false) &&
  (List.range l.length).all (fun i => decide (i = last) || (List.range l.length).any fun j => decide (i < j) && ((l[j]?).map fun o => (depsOf o).contains i).getD false) &&
  (List.range l.length).all (fun i => (List.range l.length).all fun j => decide (i = j) || ((l[i]?).bind fun o => (l[j]?).map fun o' => o.dst.isNone || o.dst != o'.dst).getD false)
/-- The frame is as it was, but for what the region writes. -/
def Fr (l : List Oper) (a0 a : Act) : Prop := a.defers = a0.defers ∧ a.tmps.size = a0.tmps.size ∧ ∀ k, (l.all fun o => o.dst != some k) = true → a.tmps[k]?.getD undef = a0.tmps[k]?.getD undef
def AllSteps (f : Nat → Oper → Prop) : Nat → List Oper → Prop
  | _, [] => True
  | i, o :: rest => f i o ∧ AllSteps f (i + 1) rest
theorem AllSteps.at {f : Nat → Oper → Prop} : ∀ {l : List Oper} {n : Nat}, AllSteps f n l → ∀ i o, l[i]? = some o → f (n + i) o
  | [], _, _, i, o, h => by simp at h
  | x :: l, n, ⟨h1, h2⟩, 0, o, h => by simp at h; subst h; exact h1
  | x :: l, n, ⟨h1, h2⟩, i + 1, o, h => by
    have := AllSteps.at h2 i o (by simpa using h)
    rwa [show n + (i + 1) = n + 1 + i by omega]

/-- What is known of the values that an operation waits for. -/
def Has (l : List Oper) (R : Nat → Value → World → Prop) (a : Act) (W : World) (j : Nat) : Prop := ∀ o d, l[j]? = some o → o.dst = some d → R j (a.tmps[d]?.getD undef) W
def OpStep (P : Program) (l : List Oper) (Q : Exit → Act → World → Prop) (R : Nat → Value → World → Prop) (a0 : Act) (w0 : World) (i : Nat) (o : Oper) : Prop :=
  ∀ a W, Fr l a0 a → (∀ j ∈ depsOf o, Has l R a W j) → Below w0.heap.size w0 W → o.wp P a W (fun a' W' => ∃ v, a' = a.put o.dst v ∧ R i v W' ∧ Below W.heap.size W W') Q
def OpLast (P : Program) (l : List Oper) (Q : Exit → Act → World → Prop) (R : Nat → Value → World → Prop) (a0 : Act) (w0 : World) (last : Nat) (o : Oper) : Prop :=
  ∀ a W, Fr l a0 a → (∀ j, j < last → Has l R a W j) → Below w0.heap.size w0 W → o.wp P a W (fun a' W' => Q .normal a' W') Q

section
variable {P : Program} {l : List Oper} {Q : Exit → Act → World → Prop} {R : Nat → Value → World → Prop} {a0 : Act} {w0 : World} {last : Nat}

structure Inv (l : List Oper) (R : Nat → Value → World → Prop) (a0 : Act) (w0 : World) (last : Nat) (listed : Array Bool) (a : Act) (W : World) : Prop where
  fr : Fr l a0 a
  sz : listed.size = l.length
  nl : listed.getD last false = false
  cl : ∀ j o, l[j]? = some o → listed.getD j false = true → ∀ k ∈ depsOf o, listed.getD k false = true
  rel : ∀ j, listed.getD j false = true → Has l R a W j
  b : Below w0.heap.size w0 W

theorem relB_all (h : relB l last = true) : last + 1 = l.length ∧ (∀ o ∈ l, o.guard = none) ∧ (∀ i o, l[i]? = some o → ∀ k ∈ depsOf o, k < i) ∧
    (∀ i, i < last → ∃ j o, i < j ∧ l[j]? = some o ∧ i ∈ depsOf o) ∧ (∀ (i j : Nat) (o o' : Oper), l[i]? = some o → l[j]? = some o' → i ≠ j → o.dst = none ∨ o.dst ≠ o'.dst) := by
  simp only [relB, Bool.and_eq_true, decide_eq_true_eq, List.all_eq_true, List.mem_range, Bool.or_eq_true, List.any_eq_true] at h
  obtain ⟨⟨⟨⟨h1, h2⟩, h3⟩, h4⟩, h5⟩ := h
  refine ⟨h1, fun o ho => by simpa using h2 o ho, fun i o ho k hk => ?_, fun i hi => ?_, fun i j o o' ho ho' hne => ?_⟩
  · have hl := (List.getElem?_eq_some_iff.1 ho).1
    have := h3 i hl
    rw [ho] at this
    simp only [Option.map_some, Option.getD_some, List.all_eq_true, decide_eq_true_eq] at this
    exact this k hk
  · rcases h4 i (by omega) with h | ⟨j, hj, h, h'⟩
    · omega
    · cases ho : l[j]? with
      | none => rw [ho] at h'; simp at h'
      | some o => rw [ho] at h'; simp at h'; exact ⟨j, o, h, ho, h'⟩
  · have hi := (List.getElem?_eq_some_iff.1 ho).1
    have hj := (List.getElem?_eq_some_iff.1 ho').1
    rcases h5 i hi j hj with h | h
    · exact absurd h hne
    · rw [ho, ho'] at h
      simp at h
      exact h

/-- Where the last one may come up all others have. -/
theorem all_before (h : relB l last = true) {listed : Array Bool} (hcl : ∀ j o, l[j]? = some o → listed.getD j false = true → ∀ k ∈ depsOf o, listed.getD k false = true)
    {o : Oper} (ho : l[last]? = some o) (hd : ∀ k ∈ depsOf o, listed.getD k false = true) : ∀ n i, last - i ≤ n → i < last → listed.getD i false = true := by
  obtain ⟨h1, -, -, h4, -⟩ := relB_all h
  intro n
  induction n with
  | zero => intro i h hi; omega
  | succ n ih =>
    intro i hn hi
    obtain ⟨j, oj, hij, hj, hm⟩ := h4 i hi
    by_cases hjl : j = last
    · subst hjl
      rw [ho] at hj; simp at hj; subst hj
      exact hd i hm
    · have hjlt : j < l.length := (List.getElem?_eq_some_iff.1 hj).1
      exact hcl j oj hj (ih j (by omega) (by omega)) i hm

theorem Fr.put {a : Act} (h : Fr l a0 a) {o : Oper} (ho : o ∈ l) (v : Value) : Fr l a0 (a.put o.dst v) := by
  obtain ⟨h1, h2, h3⟩ := h
  unfold Act.put
  cases hd : o.dst with
  | none => exact ⟨h1, h2, h3⟩
  | some d =>
    refine ⟨h1, by simpa using h2, fun k hk => ?_⟩
    have hne : d ≠ k := by
      have := List.all_eq_true.1 hk o ho
      simp [hd] at this
      exact this
    simp only [Array.getElem?_setIfInBounds_ne hne]
    exact h3 k hk

theorem deps_mem {o : Oper} {k : Nat} : k ∈ depsOf o ↔ ∃ e ∈ o.after, Region.binds .any e = true ∧ e.on = k := by
  unfold depsOf
  simp only [List.mem_filterMap, Array.mem_toList_iff]
  constructor
  · rintro ⟨e, he, h⟩
    split at h
    · simp at h; exact ⟨e, he, by assumption, h⟩
    · cases h
  · rintro ⟨e, he, hb, hk⟩
    exact ⟨e, he, by rw [if_pos hb, hk]⟩

theorem wpAny_rel (hB : relB l last = true) (mono : ∀ i v W W', R i v W → Below W.heap.size W W' → R i v W')
    (steps : AllSteps (fun i o => if i = last then OpLast P l Q R a0 w0 last o else OpStep P l Q R a0 w0 i o) 0 l) (hsz : ∀ o ∈ l, ∀ d, o.dst = some d → d < a0.tmps.size) :
    ∀ (fuel : Nat) (listed : Array Bool) (a : Act) (W : World), Inv l R a0 w0 last listed a W → listed.toList.countP (fun b => !b) ≤ fuel → wpAny P .any l.toArray Q fuel listed a W := by
  obtain ⟨h1, h2, h3, h4, h5⟩ := relB_all hB
  intro fuel
  induction fuel with
  | zero =>
    intro listed a W hI hc
    exfalso
    have hmem : false ∈ listed.toList := by
      have hlt : last < listed.size := by rw [hI.sz]; omega
      have hn := hI.nl
      simp [hlt] at hn
      rw [← hn]
      simp
    have : 0 < listed.toList.countP (fun b => !b) := List.countP_pos_iff.2 ⟨false, hmem, rfl⟩
    omega
  | succ fuel ih =>
    intro listed a W hI hc
    refine ⟨fun hr => ?_, fun i hi => ?_⟩
    · exfalso
      -- the least that has not come up may come up
      have key : ∀ n i, i < n → i ≤ last → listed.getD i false = true := by
        intro n
        induction n with
        | zero => intro i h; omega
        | succ n ihn =>
          intro i hin hil
          cases hL : listed.getD i false
          · exfalso
            have hlt : i < l.length := by omega
            have hmr : i ∈ Region.ready .any l.toArray listed := by
              rw [mem_ready]
              have hls : i < listed.size := by rw [hI.sz]; exact hlt
              refine ⟨by simpa [hls] using hL, l[i], by simp [hlt], fun e he hb => ?_⟩
              have hk : e.on ∈ depsOf l[i] := deps_mem.2 ⟨e, he, hb, rfl⟩
              have hlt2 := h3 i l[i] (by simp) e.on hk
              exact ihn e.on (by omega) (by omega)
            rw [hr] at hmr; cases hmr
          · rfl
      have := key (last + 1) last (by omega) (Nat.le_refl _)
      rw [hI.nl] at this; cases this
    · rw [mem_ready] at hi
      obtain ⟨hun, o, ho, hall⟩ := hi
      rw [List.getElem?_toArray] at ho
      have hil : i < l.length := (List.getElem?_eq_some_iff.1 ho).1
      have hom : o ∈ l := List.mem_of_getElem? ho
      have his : i < listed.size := by rw [hI.sz]; exact hil
      have hdeps : ∀ k ∈ depsOf o, listed.getD k false = true := fun k hk => by
        obtain ⟨e, he, hb, rfl⟩ := deps_mem.1 hk
        exact hall e he hb
      have hst := steps.at i o ho
      rw [Nat.zero_add] at hst
      have hw : Region.wanted o (yielded l.toArray a.tmps) = true := by simp [Region.wanted, h2 o hom]
      unfold wpOp
      rw [List.getElem?_toArray, ho]
      simp only [hw, if_true]
      left
      by_cases hlast : i = last
      · subst hlast
        rw [if_pos rfl] at hst
        have hb := all_before hB hI.cl ho hdeps
        refine Oper.wp_mono ?_ (hst a W hI.fr (fun j hj => hI.rel j (hb _ j (Nat.le_refl _) hj)) hI.b)
        intro a' W' hQ
        refine wpAny_done ?_ hQ _
        refine List.eq_nil_iff_forall_not_mem.2 fun j hj => ?_
        rw [mem_ready] at hj
        obtain ⟨hju, oj, hoj, -⟩ := hj
        rw [List.getElem?_toArray] at hoj
        have hjl : j < l.length := (List.getElem?_eq_some_iff.1 hoj).1
        by_cases hji : j = i
        · subst hji
          simp [his] at hju
        · rw [getD_set_ne true (Ne.symm hji)] at hju
          have := hb _ j (Nat.le_refl _) (by omega)
          have hjs : j < listed.size := by rw [hI.sz]; exact hjl
          simp [hjs] at this hju
          rw [this] at hju; cases hju
      · rw [if_neg hlast] at hst
        refine Oper.wp_mono ?_ (hst a W hI.fr (fun j hj => hI.rel j (hdeps j hj)) hI.b)
        rintro a' W' ⟨v, rfl, hR, hb⟩
        have hmono : ∀ j, listed.getD j false = true → (listed.setIfInBounds i true).getD j false = true := fun j hj => by
          by_cases hji : i = j
          · subst hji; simp [his]
          · rw [getD_set_ne false hji]; exact hj
        refine ih _ _ _ ⟨hI.fr.put hom v, by simpa using hI.sz, by rw [getD_set_ne false hlast]; exact hI.nl, ?_, ?_, hI.b.trans (hb.mono hI.b.size)⟩ ?_
        · intro j oj hoj hj k hk
          by_cases hji : i = j
          · subst hji
            rw [ho] at hoj; simp at hoj; subst hoj
            exact hmono k (hdeps k hk)
          · rw [getD_set_ne false hji] at hj
            exact hmono k (hI.cl j oj hoj hj k hk)
        · intro j hj oj d hoj hd
          by_cases hji : i = j
          · subst hji
            rw [ho] at hoj; simp at hoj; subst hoj
            unfold Act.put
            rw [hd]
            have hlt : d < a.tmps.size := by rw [hI.fr.2.1]; exact hsz o hom d hd
            simpa [hlt] using hR
          · rw [getD_set_ne false hji] at hj
            have hold := hI.rel j hj oj d hoj hd
            have hne : (a.put o.dst v).tmps[d]?.getD undef = a.tmps[d]?.getD undef := by
              unfold Act.put
              cases hod : o.dst with
              | none => rfl
              | some d' =>
                have : d' ≠ d := by
                  rcases h5 j i oj o hoj ho (Ne.symm hji) with h | h
                  · rw [hd] at h; cases h
                  · rw [hd, hod] at h; intro e; exact h (by rw [e])
                simp only [Array.getElem?_setIfInBounds_ne this]
            rw [hne]
            exact mono _ _ _ _ hold hb
        · have hf : listed[i] = false := by simpa [his] using hun
          have hcs := List.countP_set (p := fun b => !b) (l := listed.toList) (i := i) (a := true) (by simpa using his)
          have hpos : 0 < listed.toList.countP (fun b => !b) := List.countP_pos_iff.2 ⟨false, by rw [← hf]; simp, rfl⟩
          rw [Array.toList_setIfInBounds, hcs]
          simp [hf]
          simp at hc hpos
          omega

theorem rep_false (n j : Nat) : (Array.replicate n false).getD j false = false := by
  by_cases h : j < n <;> simp [h]
/-- A region that draws its order: one obligation an operation. -/
theorem wp_region_rel {id : Nat} (R : Nat → Value → World → Prop) (last : Nat) (hm : P.follows .mixedOrders = true) (hB : relB l last = true) (hsz : ∀ o ∈ l, ∀ d, o.dst = some d → d < a0.tmps.size)
    (mono : ∀ i v W W', R i v W → Below W.heap.size W W' → R i v W')
    (steps : AllSteps (fun i o => if i = last then OpLast P l Q R a0 w0 last o else OpStep P l Q R a0 w0 i o) 0 l) : (Code.region id l.toArray true).wp P Q a0 w0 := by
  obtain ⟨h1, -⟩ := relB_all hB
  refine wp_region_any hm ?_
  refine wpAny_rel hB mono steps hsz _ _ _ _ ⟨⟨rfl, rfl, fun _ _ => rfl⟩, by simp, ?_, ?_, ?_, (Below.refl _ _).drew⟩ ?_
  · exact rep_false _ _
  · intro j o ho hj; rw [rep_false] at hj; cases hj
  · intro j hj; rw [rep_false] at hj; cases hj
  · have := List.countP_le_length (p := fun b => !b) (l := (Array.replicate l.toArray.size false).toList)
    simpa using this
end

/-- A call of a Go function. -/
theorem run_enter {P : Program} (f : FuncId) (args : Array Value) (W : World) (hf : (P.funcs[f]?).map (fun fn => fn.name == "runtime.NumGoroutine" || fn.body.isNone) = some false) : (callFunc f args).run P W = .ok (.enter f args) W := by
  obtain ⟨fn, h1, h2⟩ := Option.map_eq_some_iff.1 hf
  simp only [Bool.or_eq_false_iff] at h2
  simp only [callFunc, Sem.run_bind, run_program, Result.andThen_ok, h1, h2.1, h2.2]
  rfl
theorem wp_callf {P : Program} {o : Oper} {a : Act} {W : World} {K : Act → World → Prop} {Q : Exit → Act → World → Prop} (f : FuncId) (xs : Array Operand) (ts : Array TypeId) (vals : Array Value)
    (ho : o.op = .call { callee := .value (.func f), args := xs, argTypes := ts }) (hf : (P.funcs[f]?).map (fun fn => fn.name == "runtime.NumGoroutine" || fn.body.isNone) = some false) (hv : xs.map a.eval = vals)
    (h : Calls P f vals W fun e W' => ∃ v, e = .returned v ∧ K (a.put o.dst v) W') : o.wp P a W K Q := by
  obtain ⟨dst, op, ty, pos, after, guard⟩ := o
  simp only at ho
  subst ho
  unfold Oper.wp
  rw [execOp_call_go, hv, run_enter f _ W hf, Oper.upon_enter]
  have e : #[] ++ vals ++ #[] = vals := by simp
  rw [e]
  refine h.mono ?_
  rintro e w' ⟨v, rfl, hk⟩
  exact hk
/-- An operation that yields a value in the world that it got. -/
theorem wp_value {P : Program} {o : Oper} {a : Act} {W : World} {K : Act → World → Prop} {Q : Exit → Act → World → Prop} (v : Value) (W' : World) (h : (execOp a.eval o).run P W = .ok (.value v) W') (hk : K (a.put o.dst v) W') : o.wp P a W K Q := by
  unfold Oper.wp; rw [h]; exact hk
end Go.Proofs.Ytmmhnpekbfmonaa
