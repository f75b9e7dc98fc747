/- A region that draws its order and holds guards that are known to let through, walked once: each operation's value is told by a relation that stays in every later world, and the last one waits for all others. No program is named here. -/
import Derived.Test.YtofmgkpghkeegaaRegB
namespace Go.Proofs.Ytofmgkpghkeegaa
open Go.RowKit

/-- Every place written once, nothing waits for what stands behind it, and everything is waited for but the last one. -/
def relG (l : List Oper) (last : Nat) : Bool :=
  decide (last + 1 = l.length) &&
  (List.range l.length).all (fun i => ((l[i]?).map fun o => (depsOf o).all (· < i)).getD false) &&
  (List.range l.length).all (fun i => decide (i = last) || (List.range l.length).any fun j => decide (i < j) && ((l[j]?).map fun o => (depsOf o).contains i).getD false) &&
  (List.range l.length).all (fun i => (List.range l.length).all fun j => decide (i = j) || ((l[i]?).bind fun o => (l[j]?).map fun o' => o.dst.isNone || o.dst != o'.dst).getD false)
def OpStepG (P : Program) (l : List Oper) (Q : Exit → Act → World → Prop) (R : Nat → Value → World → Prop) (a0 : Act) (w0 : World) (i : Nat) (o : Oper) : Prop :=
  ∀ a W, Fr l a0 a → (∀ j ∈ depsOf o, Has l R a W j) → Below w0.heap.size w0 W → Region.wanted o (yielded l.toArray a.tmps) = true ∧ o.wp P a W (fun a' W' => ∃ v, a' = a.put o.dst v ∧ R i v W' ∧ Below W.heap.size W W') Q
def OpLastG (P : Program) (l : List Oper) (Q : Exit → Act → World → Prop) (R : Nat → Value → World → Prop) (a0 : Act) (w0 : World) (last : Nat) (o : Oper) : Prop :=
  ∀ a W, Fr l a0 a → (∀ j, j < last → Has l R a W j) → Below w0.heap.size w0 W → Region.wanted o (yielded l.toArray a.tmps) = true ∧ o.wp P a W (fun a' W' => Q .normal a' W') Q

section
variable {P : Program} {l : List Oper} {Q : Exit → Act → World → Prop} {R : Nat → Value → World → Prop} {a0 : Act} {w0 : World} {last : Nat}
theorem relG_all (h : relG l last = true) : last + 1 = l.length ∧ (∀ i o, l[i]? = some o → ∀ k ∈ depsOf o, k < i) ∧
    (∀ i, i < last → ∃ j o, i < j ∧ l[j]? = some o ∧ i ∈ depsOf o) ∧ (∀ (i j : Nat) (o o' : Oper), l[i]? = some o → l[j]? = some o' → i ≠ j → o.dst = none ∨ o.dst ≠ o'.dst) := by
  simp only [relG, Bool.and_eq_true, decide_eq_true_eq, List.all_eq_true, List.mem_range, Bool.or_eq_true, List.any_eq_true] at h
  obtain ⟨⟨⟨h1, h3⟩, h4⟩, h5⟩ := h
  refine ⟨h1, fun i o ho k hk => ?_, fun i hi => ?_, fun i j o o' ho ho' hne => ?_⟩
  · have hl := (List.getElem?_eq_some_iff.1 ho).1
    have := h3 i hl
    rw [ho] at this
    simp only [Option.map_some, Option.getD_some, List.all_eq_true, decide_eq_true_eq] at this
    exact this k hk
  · rcases h4 i (by omega) with h | ⟨j, hj, h, h'⟩
    · omega
    · cases ho : l[j]? with
      | none => rw [ho] at h'; simp at h'
      | some o => rw [ho] at h'; simp at h'; exact ⟨j, o, h, ho, h'⟩
  · have hi := (List.getElem?_eq_some_iff.1 ho).1
    have hj := (List.getElem?_eq_some_iff.1 ho').1
    rcases h5 i hi j hj with h | h
    · exact absurd h hne
    · rw [ho, ho'] at h
      simp at h
      exact h

/-- Where the last one may come up all others have. -/
theorem all_beforeG (h : relG l last = true) {listed : Array Bool} (hcl : ∀ j o, l[j]? = some o → listed.getD j false = true → ∀ k ∈ depsOf o, listed.getD k false = true)
    {o : Oper} (ho : l[last]? = some o) (hd : ∀ k ∈ depsOf o, listed.getD k false = true) : ∀ n i, last - i ≤ n → i < last → listed.getD i false = true := by
  obtain ⟨h1, -, h4, -⟩ := relG_all h
  intro n
  induction n with
  | zero => intro i h hi; omega
  | succ n ih =>
    intro i hn hi
    obtain ⟨j, oj, hij, hj, hm⟩ := h4 i hi
    by_cases hjl : j = last
    · subst hjl
      rw [ho] at hj; simp at hj; subst hj
      exact hd i hm
    · have hjlt : j < l.length := (List.getElem?_eq_some_iff.1 hj).1
      exact hcl j oj hj (ih j (by omega) (by omega)) i hm

theorem wpAny_relG (hB : relG l last = true) (mono : ∀ i v W W', R i v W → Below W.heap.size W W' → R i v W')
    (steps : AllSteps (fun i o => if i = last then OpLastG P l Q R a0 w0 last o else OpStepG P l Q R a0 w0 i o) 0 l) (hsz : ∀ o ∈ l, ∀ d, o.dst = some d → d < a0.tmps.size) :
    ∀ (fuel : Nat) (listed : Array Bool) (a : Act) (W : World), Inv l R a0 w0 last listed a W → listed.toList.countP (fun b => !b) ≤ fuel → wpAny P .any l.toArray Q fuel listed a W := by
  obtain ⟨h1, h3, h4, h5⟩ := relG_all hB
  intro fuel
  induction fuel with
  | zero =>
    intro listed a W hI hc
    exfalso
    have hmem : false ∈ listed.toList := by
      have hlt : last < listed.size := by rw [hI.sz]; omega
      have hn := hI.nl
      simp [hlt] at hn
      rw [← hn]
      simp
    have : 0 < listed.toList.countP (fun b => !b) := List.countP_pos_iff.2 ⟨false, hmem, rfl⟩
    omega
  | succ fuel ih =>
    intro listed a W hI hc
    refine ⟨fun hr => ?_, fun i hi => ?_⟩
    · exfalso
      -- the least that has not come up may come up
      have key : ∀ n i, i < n → i ≤ last → listed.getD i false = true := by
        intro n
        induction n with
        | zero => intro i h; omega
        | succ n ihn =>
          intro i hin hil
          cases hL : listed.getD i false
          · exfalso
            have hlt : i < l.length := by omega
            have hmr : i ∈ Region.ready .any l.toArray listed := by
              rw [mem_ready]
              have hls : i < listed.size := by rw [hI.sz]; exact hlt
              refine ⟨by simpa [hls] using hL, l[i], by simp [hlt], fun e he hb => ?_⟩
              have hk : e.on ∈ depsOf l[i] := deps_mem.2 ⟨e, he, hb, rfl⟩
              have hlt2 := h3 i l[i] (by simp) e.on hk
              exact ihn e.on (by omega) (by omega)
            rw [hr] at hmr; cases hmr
          · rfl
      have := key (last + 1) last (by omega) (Nat.le_refl _)
      rw [hI.nl] at this; cases this
    · rw [mem_ready] at hi
      obtain ⟨hun, o, ho, hall⟩ := hi
      rw [List.getElem?_toArray] at ho
      have hil : i < l.length := (List.getElem?_eq_some_iff.1 ho).1
      have hom : o ∈ l := List.mem_of_getElem? ho
      have his : i < listed.size := by rw [hI.sz]; exact hil
      have hdeps : ∀ k ∈ depsOf o, listed.getD k false = true := fun k hk => by
        obtain ⟨e, he, hb, rfl⟩ := deps_mem.1 hk
        exact hall e he hb
      have hst := steps.at i o ho
      rw [Nat.zero_add] at hst
      unfold wpOp
      rw [List.getElem?_toArray, ho]
      by_cases hlast : i = last
      · subst hlast
        rw [if_pos rfl] at hst
        have hb := all_beforeG hB hI.cl ho hdeps
        obtain ⟨hw, hst⟩ := hst a W hI.fr (fun j hj => hI.rel j (hb _ j (Nat.le_refl _) hj)) hI.b
        simp only [hw, if_true]
        left
        refine Oper.wp_mono ?_ hst
        intro a' W' hQ
        refine wpAny_done ?_ hQ _
        refine List.eq_nil_iff_forall_not_mem.2 fun j hj => ?_
        rw [mem_ready] at hj
        obtain ⟨hju, oj, hoj, -⟩ := hj
        rw [List.getElem?_toArray] at hoj
        have hjl : j < l.length := (List.getElem?_eq_some_iff.1 hoj).1
        by_cases hji : j = i
        · subst hji
          simp [his] at hju
        · rw [getD_set_ne true (Ne.symm hji)] at hju
          have := hb _ j (Nat.le_refl _) (by omega)
          have hjs : j < listed.size := by rw [hI.sz]; exact hjl
          simp [hjs] at this hju
          rw [this] at hju; cases hju
      · rw [if_neg hlast] at hst
        obtain ⟨hw, hst⟩ := hst a W hI.fr (fun j hj => hI.rel j (hdeps j hj)) hI.b
        simp only [hw, if_true]
        left
        refine Oper.wp_mono ?_ hst
        rintro a' W' ⟨v, rfl, hR, hb⟩
        have hmono : ∀ j, listed.getD j false = true → (listed.setIfInBounds i true).getD j false = true := fun j hj => by
          by_cases hji : i = j
          · subst hji; simp [his]
          · rw [getD_set_ne false hji]; exact hj
        refine ih _ _ _ ⟨hI.fr.put hom v, by simpa using hI.sz, by rw [getD_set_ne false hlast]; exact hI.nl, ?_, ?_, hI.b.trans (hb.mono hI.b.size)⟩ ?_
        · intro j oj hoj hj k hk
          by_cases hji : i = j
          · subst hji
            rw [ho] at hoj; simp at hoj; subst hoj
            exact hmono k (hdeps k hk)
          · rw [getD_set_ne false hji] at hj
            exact hmono k (hI.cl j oj hoj hj k hk)
        · intro j hj oj d hoj hd
          by_cases hji : i = j
          · subst hji
            rw [ho] at hoj; simp at hoj; subst hoj
            unfold Act.put
            rw [hd]
            have hlt : d < a.tmps.size := by rw [hI.fr.2.1]; exact hsz o hom d hd
            simpa [hlt] using hR
          · rw [getD_set_ne false hji] at hj
            have hold := hI.rel j hj oj d hoj hd
            have hne : (a.put o.dst v).tmps[d]?.getD undef = a.tmps[d]?.getD undef := by
              unfold Act.put
              cases hod : o.dst with
              | none => rfl
              | some d' =>
                have : d' ≠ d := by
                  rcases h5 j i oj o hoj ho (Ne.symm hji) with h | h
                  · rw [hd] at h; cases h
                  · rw [hd, hod] at h; intro e; exact h (by rw [e])
                simp only [Array.getElem?_setIfInBounds_ne this]
            rw [hne]
            exact mono _ _ _ _ hold hb
        · have hf : listed[i] = false := by simpa [his] using hun
          have hcs := List.countP_set (p := fun b => !b) (l := listed.toList) (i := i) (a := true) (by simpa using his)
          have hpos : 0 < listed.toList.countP (fun b => !b) := List.countP_pos_iff.2 ⟨false, by rw [← hf]; simp, rfl⟩
          rw [Array.toList_setIfInBounds, hcs]
          simp [hf]
          simp at hc hpos
          omega

/-- A region that draws its order: one obligation an operation. -/
theorem wp_region_relG {id : Nat} (R : Nat → Value → World → Prop) (last : Nat) (hm : P.follows .mixedOrders = true) (hB : relG l last = true) (hsz : ∀ o ∈ l, ∀ d, o.dst = some d → d < a0.tmps.size)
    (mono : ∀ i v W W', R i v W → Below W.heap.size W W' → R i v W')
    (steps : AllSteps (fun i o => if i = last then OpLastG P l Q R a0 w0 last o else OpStepG P l Q R a0 w0 i o) 0 l) : (Code.region id l.toArray true).wp P Q a0 w0 := by
  obtain ⟨h1, -⟩ := relG_all hB
  refine wp_region_any hm ?_
  refine wpAny_relG hB mono steps hsz _ _ _ _ ⟨⟨rfl, rfl, fun _ _ => rfl⟩, by simp, ?_, ?_, ?_, (Below.refl _ _).drew⟩ ?_
  · exact rep_false _ _
  · intro j o ho hj; rw [rep_false] at hj; cases hj
  · intro j hj; rw [rep_false] at hj; cases hj
  · have := List.countP_le_length (p := fun b => !b) (l := (Array.replicate l.toArray.size false).toList)
    simpa using this
end


section
variable {P : Program} {l : List Oper} {R : Nat → Value → World → Prop} {a : Act} {W : World} {o : Oper} {K : Act → World → Prop} {Q : Exit → Act → World → Prop}
def OblG (P : Program) (l : List Oper) (Q : Exit → Act → World → Prop) (R : Nat → Value → World → Prop) (a0 : Act) (w0 : World) (last i : Nat) (o : Oper) : Prop := if i = last then OpLastG P l Q R a0 w0 last o else OpStepG P l Q R a0 w0 i o
theorem oblG_step {a0 : Act} {w0 : World} {last i : Nat} (h : (i == last) = false) (hh : OpStepG P l Q R a0 w0 i o) : OblG P l Q R a0 w0 last i o := by unfold OblG; rw [if_neg (by simpa using h)]; exact hh
theorem oblG_last {a0 : Act} {w0 : World} {last : Nat} (hh : OpLastG P l Q R a0 w0 last o) : OblG P l Q R a0 w0 last last o := by unfold OblG; rw [if_pos rfl]; exact hh
theorem wp_region_oblG {a0 : Act} {w0 : World} {id : Nat} (R : Nat → Value → World → Prop) (last : Nat) (hm : P.follows .mixedOrders = true) (hB : relG l last = true) (hsz : (l.all fun o => o.dst.all fun d => decide (d < a0.tmps.size)) = true)
    (mono : ∀ i v W W', R i v W → Below W.heap.size W W' → R i v W') (steps : AllSteps (OblG P l Q R a0 w0 last) 0 l) : (Code.region id l.toArray true).wp P Q a0 w0 := by
  refine wp_region_relG R last hm hB (fun o ho d hd => ?_) mono steps
  have := List.all_eq_true.1 hsz o ho
  rw [hd] at this
  simpa using this
/-- A step with no guard. -/
theorem stepU {a0 : Act} {w0 : World} {i : Nat} (hg : o.guard.isNone = true) (hh : ∀ a W, Fr l a0 a → (∀ j ∈ depsOf o, Has l R a W j) → Below w0.heap.size w0 W → o.wp P a W (fun a' W' => ∃ v, a' = a.put o.dst v ∧ R i v W' ∧ Below W.heap.size W W') Q) : OpStepG P l Q R a0 w0 i o := by
  intro a W hf hd hb
  have hg' : o.guard = none := by simpa using hg
  exact ⟨by simp [Region.wanted, hg'], hh a W hf hd hb⟩
theorem wanted_of (j : Nat) (d : Tmp) (g : Bool) (hg : o.guard = some (j, g)) (hj : (depsOf o).contains j = true) (hl : (l[j]?).bind (·.dst) = some d) (hv : ∀ v W, R j v W → v = .bool g) (hd : ∀ j ∈ depsOf o, Has l R a W j) : Region.wanted o (yielded l.toArray a.tmps) = true := by
  have e := hv _ _ (dep hd j d hj hl)
  have hy : yielded l.toArray a.tmps j = some g := by
    unfold yielded
    rw [List.getElem?_toArray, hl]
    simp only [Option.bind_some]
    cases ht : a.tmps[d]? with
    | none => rw [ht] at e; simp [undef] at e
    | some x => rw [ht] at e; simp at e; subst e; rfl
  simp only [Region.wanted, hg, hy]
  cases g <;> rfl
/-- A step with a guard that is known to let through. -/
theorem stepW {a0 : Act} {w0 : World} {i : Nat} (j : Nat) (d : Tmp) (g : Bool) (hg : o.guard = some (j, g)) (hj : (depsOf o).contains j = true) (hl : (l[j]?).bind (·.dst) = some d) (hv : ∀ v W, R j v W → v = .bool g)
    (hh : ∀ a W, Fr l a0 a → (∀ j ∈ depsOf o, Has l R a W j) → Below w0.heap.size w0 W → o.wp P a W (fun a' W' => ∃ v, a' = a.put o.dst v ∧ R i v W' ∧ Below W.heap.size W W') Q) : OpStepG P l Q R a0 w0 i o := by
  intro a W hf hd hb
  exact ⟨wanted_of j d g hg hj hl hv hd, hh a W hf hd hb⟩
section
variable {i : Nat}
theorem st_not (t : TypeId) (x : Operand) (g : Bool) (ho : o.op = .unOp .not t x) (hx : a.eval x = .bool g) (hR : R i (.bool (!g)) W) : o.wp P a W (Nxt R i o a W) Q := by
  refine op_of _ W (Op.unary .not (.bool g)) ?_ rfl ⟨_, rfl, hR, Below.refl _ _⟩
  unfold execOp; simp [ho, hx]
theorem st_bin (b : BinOp) (t u : TypeId) (x y : Operand) (p q v : Value) (ho : o.op = .binOp b t x y u) (hx : a.eval x = p) (hy : a.eval y = q) (hr : Sem.run P (do eqGuard b t x y p q; binOp b t p q) W = .ok v W) (hR : R i v W) : o.wp P a W (Nxt R i o a W) Q := by
  refine op_of _ W (do eqGuard b t x y p q; binOp b t p q) ?_ hr ⟨_, rfl, hR, Below.refl _ _⟩
  unfold execOp; simp [ho, hx, hy]
theorem st_pick (c x y : Operand) (g : Bool) (v : Value) (ho : o.op = .pick c x y) (hc : a.eval c = .bool g) (h1 : g = true → a.eval x = v) (h2 : g = false → a.eval y = v) (hR : R i v W) : o.wp P a W (Nxt R i o a W) Q := by
  refine wp_value v W ?_ ⟨v, rfl, hR, Below.refl _ _⟩
  unfold execOp
  cases g
  · simp [ho, hc, h2 rfl, asBool]
  · simp [ho, hc, h1 rfl, asBool]
theorem st_nil (x : Operand) (p : Addr) (ho : o.op = .nilCheck x) (hv : a.eval x = .pointer (some p)) (hR : R i (.pointer (some p)) W) : o.wp P a W (Nxt R i o a W) Q := by
  refine wp_value (.pointer (some p)) W ?_ ⟨_, rfl, hR, Below.refl _ _⟩
  unfold execOp; simp [ho, hv]
theorem st_last (c x y : Operand) (g : Bool) (v : Value) (ho : o.op = .pick c x y) (hc : a.eval c = .bool g) (h1 : g = true → a.eval x = v) (h2 : g = false → a.eval y = v) (hK : K (a.put o.dst v) W) : o.wp P a W K Q := by
  refine wp_value v W ?_ hK
  unfold execOp
  cases g
  · simp [ho, hc, h2 rfl, asBool]
  · simp [ho, hc, h1 rfl, asBool]
end
end
end Go.Proofs.Ytofmgkpghkeegaa
