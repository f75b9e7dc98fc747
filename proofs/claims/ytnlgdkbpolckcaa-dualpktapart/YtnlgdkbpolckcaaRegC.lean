/- A region that draws its order and ends in a store and an assignment, with guarded operations, walked once: each operation's value is told by a word of its own; the store waits for some, the last one for all. No program is named here but by its library. -/
import Derived.Test.YtnlgdkbpolckcaaRegB
namespace Go.Proofs.Ytnlgdkbpolckcaa
open Go.RowKit

/-- The last one waits for all others; the store has no guard and writes no slot; every slot is written once; nothing waits for what stands behind it. -/
def relS (l : List Oper) (s last : Nat) : Bool :=
  decide (last + 1 = l.length) && decide (s < last) &&
  (List.range l.length).all (fun i => ((l[i]?).map fun o => (depsOf o).all (· < i)).getD false) &&
  ((l[last]?).map fun o => o.guard.isNone && (List.range last).all fun i => (depsOf o).contains i).getD false &&
  ((l[s]?).map fun o => o.guard.isNone && o.dst.isNone).getD false &&
  (List.range l.length).all (fun i => (List.range l.length).all fun j => decide (i = j) || ((l[i]?).bind fun o => (l[j]?).map fun o' => o.dst.isNone || o.dst != o'.dst).getD false)
/-- Does the store wait for it? -/
def preS (l : List Oper) (s i : Nat) : Bool := ((l[s]?).map fun o => (depsOf o).contains i).getD false
/-- What is known of a value that has come up. -/
def HasV (l : List Oper) (R : Nat → Value → Prop) (a : Act) (j : Nat) : Prop := ∀ o d, l[j]? = some o → o.dst = some d → R j (a.tmps[d]?.getD undef)
abbrev NxtS (R : Nat → Value → Prop) (pre : Bool) (i : Nat) (o : Oper) (a : Act) (W : World) : Act → World → Prop := fun a' W' => ∃ v, a' = a.put o.dst v ∧ R i v ∧ (W' = W ∨ pre = true ∧ Below W.heap.size W W')
def StepS (P : Program) (l : List Oper) (Q : Exit → Act → World → Prop) (R : Nat → Value → Prop) (S : World → Prop) (a0 : Act) (w0 : World) (pre : Bool) (i : Nat) (o : Oper) : Prop :=
  ∀ a W, Fr l a0 a → (∀ j ∈ depsOf o, HasV l R a j) → ((pre = true → Below w0.heap.size w0 W) ∧ (Below w0.heap.size w0 W ∨ S W)) →
    (Region.wanted o (yielded l.toArray a.tmps) = true → o.wp P a W (NxtS R pre i o a W) Q) ∧ (Region.wanted o (yielded l.toArray a.tmps) = false → R i undef)
def StoreS (P : Program) (l : List Oper) (Q : Exit → Act → World → Prop) (R : Nat → Value → Prop) (S : World → Prop) (a0 : Act) (w0 : World) (o : Oper) : Prop :=
  ∀ a W, Fr l a0 a → (∀ j ∈ depsOf o, HasV l R a j) → Below w0.heap.size w0 W → o.wp P a W (fun a' W' => a' = a ∧ S W') Q
def LastS (P : Program) (l : List Oper) (Q : Exit → Act → World → Prop) (R : Nat → Value → Prop) (S : World → Prop) (a0 : Act) (last : Nat) (o : Oper) : Prop :=
  ∀ a W, Fr l a0 a → (∀ j, j < last → HasV l R a j) → S W → o.wp P a W (fun a' W' => Q .normal a' W') Q
def OblS (P : Program) (l : List Oper) (Q : Exit → Act → World → Prop) (R : Nat → Value → Prop) (S : World → Prop) (a0 : Act) (w0 : World) (s last i : Nat) (o : Oper) : Prop :=
  if i = last then LastS P l Q R S a0 last o else if i = s then StoreS P l Q R S a0 w0 o else StepS P l Q R S a0 w0 (preS l s i) i o

section
variable {P : Program} {l : List Oper} {Q : Exit → Act → World → Prop} {R : Nat → Value → Prop} {S : World → Prop} {a0 : Act} {w0 : World} {s last : Nat}

theorem relS_all (h : relS l s last = true) : last + 1 = l.length ∧ s < last ∧ (∀ i o, l[i]? = some o → ∀ k ∈ depsOf o, k < i) ∧
    (∀ o, l[last]? = some o → o.guard = none ∧ ∀ i, i < last → i ∈ depsOf o) ∧ (∀ o, l[s]? = some o → o.guard = none ∧ o.dst = none) ∧
    (∀ (i j : Nat) (o o' : Oper), l[i]? = some o → l[j]? = some o' → i ≠ j → o.dst = none ∨ o.dst ≠ o'.dst) := by
  simp only [relS, Bool.and_eq_true, decide_eq_true_eq, List.all_eq_true, List.mem_range, Bool.or_eq_true] at h
  obtain ⟨⟨⟨⟨⟨h1, h2⟩, h3⟩, h4⟩, h5⟩, h6⟩ := h
  refine ⟨h1, h2, fun i o ho k hk => ?_, fun o ho => ?_, fun o ho => ?_, fun i j o o' ho ho' hne => ?_⟩
  · have hl := (List.getElem?_eq_some_iff.1 ho).1
    have := h3 i hl
    rw [ho] at this
    simp only [Option.map_some, Option.getD_some, List.all_eq_true, decide_eq_true_eq] at this
    exact this k hk
  · rw [ho] at h4
    simp only [Option.map_some, Option.getD_some, Bool.and_eq_true, List.all_eq_true, List.mem_range, List.contains_iff_mem] at h4
    exact ⟨by simpa using h4.1, h4.2⟩
  · rw [ho] at h5
    simp only [Option.map_some, Option.getD_some, Bool.and_eq_true] at h5
    exact ⟨by simpa using h5.1, by simpa using h5.2⟩
  · have hi := (List.getElem?_eq_some_iff.1 ho).1
    have hj := (List.getElem?_eq_some_iff.1 ho').1
    rcases h6 i hi j hj with h | h
    · exact absurd h hne
    · rw [ho, ho'] at h
      simp at h
      exact h

structure InvS (l : List Oper) (R : Nat → Value → Prop) (S : World → Prop) (a0 : Act) (w0 : World) (s last : Nat) (listed : Array Bool) (a : Act) (W : World) : Prop where
  fr : Fr l a0 a
  sz : listed.size = l.length
  nl : listed.getD last false = false
  cl : listed.getD s false = true → ∀ i, preS l s i = true → listed.getD i false = true
  rel : ∀ j, listed.getD j false = true → HasV l R a j
  b : listed.getD s false = false → Below w0.heap.size w0 W
  st : listed.getD s false = true → S W

theorem HasV.put {a : Act} {listed : Array Bool} (hB : relS l s last = true) (hsz : ∀ o ∈ l, ∀ d, o.dst = some d → d < a0.tmps.size) (hf : Fr l a0 a) (hrel : ∀ j, listed.getD j false = true → HasV l R a j) {i : Nat} {o : Oper} (ho : l[i]? = some o) {v : Value} (hR : R i v) :
    ∀ j, (listed.setIfInBounds i true).getD j false = true → HasV l R (a.put o.dst v) j := by
  obtain ⟨-, -, -, -, -, h5⟩ := relS_all hB
  intro j hj oj d hoj hd
  by_cases hji : i = j
  · subst hji
    rw [ho] at hoj; simp at hoj; subst hoj
    unfold Act.put
    rw [hd]
    have hlt : d < a.tmps.size := by rw [hf.2.1]; exact hsz o (List.mem_of_getElem? ho) d hd
    simpa [hlt] using hR
  · rw [getD_set_ne false hji] at hj
    have hold := hrel j hj oj d hoj hd
    have hne : (a.put o.dst v).tmps[d]?.getD undef = a.tmps[d]?.getD undef := by
      unfold Act.put
      cases hod : o.dst with
      | none => rfl
      | some d' =>
        have : d' ≠ d := by
          rcases h5 j i oj o hoj ho (Ne.symm hji) with h | h
          · rw [hd] at h; cases h
          · rw [hd, hod] at h; intro e; exact h (by rw [e])
        simp only [Array.getElem?_setIfInBounds_ne this]
    rw [hne]
    exact hold

theorem wpAny_S (hB : relS l s last = true) (steps : AllSteps (OblS P l Q R S a0 w0 s last) 0 l) (hsz : ∀ o ∈ l, ∀ d, o.dst = some d → d < a0.tmps.size) :
    ∀ (fuel : Nat) (listed : Array Bool) (a : Act) (W : World), InvS l R S a0 w0 s last listed a W → listed.toList.countP (fun b => !b) ≤ fuel → wpAny P .any l.toArray Q fuel listed a W := by
  obtain ⟨h1, h2, h3, h4, h5, h6⟩ := relS_all hB
  intro fuel
  induction fuel with
  | zero =>
    intro listed a W hI hc
    exfalso
    have hmem : false ∈ listed.toList := by
      have hlt : last < listed.size := by rw [hI.sz]; omega
      have hn := hI.nl
      simp [hlt] at hn
      rw [← hn]
      simp
    have : 0 < listed.toList.countP (fun b => !b) := List.countP_pos_iff.2 ⟨false, hmem, rfl⟩
    omega
  | succ fuel ih =>
    intro listed a W hI hc
    refine ⟨fun hr => ?_, fun i hi => ?_⟩
    · exfalso
      have key : ∀ n i, i < n → i ≤ last → listed.getD i false = true := by
        intro n
        induction n with
        | zero => intro i h; omega
        | succ n ihn =>
          intro i hin hil
          cases hL : listed.getD i false
          · exfalso
            have hlt : i < l.length := by omega
            have hmr : i ∈ Region.ready .any l.toArray listed := by
              rw [mem_ready]
              have hls : i < listed.size := by rw [hI.sz]; exact hlt
              refine ⟨by simpa [hls] using hL, l[i], by simp [hlt], fun e he hb => ?_⟩
              have hk : e.on ∈ depsOf l[i] := deps_mem.2 ⟨e, he, hb, rfl⟩
              have hlt2 := h3 i l[i] (by simp) e.on hk
              exact ihn e.on (by omega) (by omega)
            rw [hr] at hmr; cases hmr
          · rfl
      have := key (last + 1) last (by omega) (Nat.le_refl _)
      rw [hI.nl] at this; cases this
    · rw [mem_ready] at hi
      obtain ⟨hun, o, ho, hall⟩ := hi
      rw [List.getElem?_toArray] at ho
      have hil : i < l.length := (List.getElem?_eq_some_iff.1 ho).1
      have hom : o ∈ l := List.mem_of_getElem? ho
      have his : i < listed.size := by rw [hI.sz]; exact hil
      have hdeps : ∀ k ∈ depsOf o, listed.getD k false = true := fun k hk => by
        obtain ⟨e, he, hb, rfl⟩ := deps_mem.1 hk
        exact hall e he hb
      have hst := steps.at i o ho
      rw [Nat.zero_add] at hst
      unfold OblS at hst
      have hlf : listed[i] = false := by simpa [his] using hun
      have hcount : (listed.setIfInBounds i true).toList.countP (fun b => !b) ≤ fuel := by
        have hcs := List.countP_set (p := fun b => !b) (l := listed.toList) (i := i) (a := true) (by simpa using his)
        have hpos : 0 < listed.toList.countP (fun b => !b) := List.countP_pos_iff.2 ⟨false, by rw [← hlf]; simp, rfl⟩
        rw [Array.toList_setIfInBounds, hcs]
        simp [hlf]
        simp at hc hpos
        omega
      have hmono : ∀ j, listed.getD j false = true → (listed.setIfInBounds i true).getD j false = true := fun j hj => by
        by_cases hji : i = j
        · subst hji; simp [his]
        · rw [getD_set_ne false hji]; exact hj
      unfold wpOp
      rw [List.getElem?_toArray, ho]
      simp only
      by_cases hlast : i = last
      · subst hlast
        rw [if_pos rfl] at hst
        obtain ⟨hg, hall'⟩ := h4 o ho
        have hw : Region.wanted o (yielded l.toArray a.tmps) = true := by simp [Region.wanted, hg]
        simp only [hw, if_true]
        left
        have hb : ∀ j, j < i → listed.getD j false = true := fun j hj => hdeps j (hall' j hj)
        refine Oper.wp_mono ?_ (hst a W hI.fr (fun j hj => hI.rel j (hb j hj)) (hI.st (hb s h2)))
        intro a' W' hQ
        refine wpAny_done ?_ hQ _
        refine List.eq_nil_iff_forall_not_mem.2 fun j hj => ?_
        rw [mem_ready] at hj
        obtain ⟨hju, oj, hoj, -⟩ := hj
        rw [List.getElem?_toArray] at hoj
        have hjl : j < l.length := (List.getElem?_eq_some_iff.1 hoj).1
        by_cases hji : j = i
        · subst hji
          simp [his] at hju
        · rw [getD_set_ne true (Ne.symm hji)] at hju
          have := hb j (by omega)
          have hjs : j < listed.size := by rw [hI.sz]; exact hjl
          simp [hjs] at this hju
          rw [this] at hju; cases hju
      · rw [if_neg hlast] at hst
        by_cases hs : i = s
        · subst hs
          rw [if_pos rfl] at hst
          obtain ⟨hg, hdst⟩ := h5 o ho
          have hw : Region.wanted o (yielded l.toArray a.tmps) = true := by simp [Region.wanted, hg]
          simp only [hw, if_true]
          left
          have hnl : listed.getD i false = false := by simp [his, hlf]
          refine Oper.wp_mono ?_ (hst a W hI.fr (fun j hj => hI.rel j (hdeps j hj)) (hI.b hnl))
          rintro a' W' ⟨rfl, hS⟩
          refine ih _ _ _ ⟨hI.fr, by simpa using hI.sz, by rw [getD_set_ne false hlast]; exact hI.nl, fun _ k hk => ?_, ?_, fun h => ?_, fun _ => hS⟩ hcount
          · unfold preS at hk
            rw [ho] at hk
            simp only [Option.map_some, Option.getD_some, List.contains_iff_mem] at hk
            exact hmono k (hdeps k hk)
          · intro j hj oj d hoj hd
            by_cases hji : i = j
            · subst hji
              rw [ho] at hoj; simp at hoj; subst hoj
              rw [hdst] at hd; cases hd
            · rw [getD_set_ne false hji] at hj
              exact hI.rel j hj oj d hoj hd
          · simp [his] at h
        · rw [if_neg hs] at hst
          have hpre : preS l s i = true → Below w0.heap.size w0 W := fun hp => by
            refine hI.b ?_
            cases hls : listed.getD s false
            · rfl
            · have := hI.cl hls i hp
              simp [his, hlf] at this
          have hor : Below w0.heap.size w0 W ∨ S W := by
            cases hls : listed.getD s false
            · exact .inl (hI.b hls)
            · exact .inr (hI.st hls)
          obtain ⟨hyes, hno⟩ := hst a W hI.fr (fun j hj => hI.rel j (hdeps j hj)) ⟨hpre, hor⟩
          have next : ∀ v W', R i v → (W' = W ∨ preS l s i = true ∧ Below W.heap.size W W') → wpAny P .any l.toArray Q fuel (listed.setIfInBounds i true) (a.put o.dst v) W' := by
            intro v W' hR hW
            refine ih _ _ _ ⟨hI.fr.put hom v, by simpa using hI.sz, by rw [getD_set_ne false hlast]; exact hI.nl, ?_, HasV.put hB hsz hI.fr hI.rel ho hR, ?_, ?_⟩ hcount
            · rw [getD_set_ne false hs]
              exact fun h k hk => hmono k (hI.cl h k hk)
            · rw [getD_set_ne false hs]
              intro h
              rcases hW with rfl | ⟨-, hb⟩
              · exact hI.b h
              · exact (hI.b h).trans (hb.mono (hI.b h).size)
            · rw [getD_set_ne false hs]
              intro h
              rcases hW with rfl | ⟨hp, hb⟩
              · exact hI.st h
              · have := hI.cl h i hp
                simp [his, hlf] at this
          cases hw : Region.wanted o (yielded l.toArray a.tmps)
          · simp only [Bool.false_eq_true, if_false]
            exact next undef W (hno hw) (.inl rfl)
          · simp only [if_true]
            left
            refine Oper.wp_mono ?_ (hyes hw)
            rintro a' W' ⟨v, rfl, hR, hW⟩
            exact next v W' hR hW

theorem wp_region_S {id : Nat} (R : Nat → Value → Prop) (S : World → Prop) (s last : Nat) (hm : P.follows .mixedOrders = true) (hB : relS l s last = true) (hsz : (l.all fun o => o.dst.all fun d => decide (d < a0.tmps.size)) = true)
    (steps : AllSteps (OblS P l Q R S a0 w0 s last) 0 l) : (Code.region id l.toArray true).wp P Q a0 w0 := by
  obtain ⟨h1, h2, -⟩ := relS_all hB
  refine wp_region_any hm ?_
  refine wpAny_S hB steps (fun o ho d hd => ?_) _ _ _ _ ⟨⟨rfl, rfl, fun _ _ => rfl⟩, by simp, rep_false _ _, ?_, ?_, fun _ => (Below.refl _ _).drew, ?_⟩ ?_
  · have := List.all_eq_true.1 hsz o ho
    rw [hd] at this
    simpa using this
  · intro hj; rw [rep_false] at hj; cases hj
  · intro j hj; rw [rep_false] at hj; cases hj
  · intro hj; rw [rep_false] at hj; cases hj
  · have := List.countP_le_length (p := fun b => !b) (l := (Array.replicate l.toArray.size false).toList)
    simpa using this

variable {a : Act} {W : World} {o : Oper} {i : Nat} {pre : Bool} {K : Act → World → Prop}
theorem oblS_step (h1 : (i == last) = false) (h2 : (i == s) = false) (hp : preS l s i = pre) (hh : StepS P l Q R S a0 w0 pre i o) : OblS P l Q R S a0 w0 s last i o := by
  unfold OblS; rw [if_neg (by simpa using h1), if_neg (by simpa using h2), hp]; exact hh
theorem oblS_store (h1 : (s == last) = false) (hh : StoreS P l Q R S a0 w0 o) : OblS P l Q R S a0 w0 s last s o := by
  unfold OblS; rw [if_neg (by simpa using h1), if_pos rfl]; exact hh
theorem oblS_last (hh : LastS P l Q R S a0 last o) : OblS P l Q R S a0 w0 s last last o := by
  unfold OblS; rw [if_pos rfl]; exact hh
/-- A step with no guard. -/
theorem stepS (hg : o.guard.isNone = true) (hh : ∀ a W, Fr l a0 a → (∀ j ∈ depsOf o, HasV l R a j) → ((pre = true → Below w0.heap.size w0 W) ∧ (Below w0.heap.size w0 W ∨ S W)) → o.wp P a W (NxtS R pre i o a W) Q) : StepS P l Q R S a0 w0 pre i o := by
  intro a W hf hd hb
  refine ⟨fun _ => hh a W hf hd hb, fun h => ?_⟩
  have hg' : o.guard = none := by simpa using hg
  simp [Region.wanted, hg'] at h
theorem depV (hd : ∀ j ∈ depsOf o, HasV l R a j) (j : Nat) (d : Tmp) (hj : (depsOf o).contains j = true) (hl : (l[j]?).bind (·.dst) = some d) : R j (a.tmps[d]?.getD undef) := by
  obtain ⟨oj, h1, h2⟩ := Option.bind_eq_some_iff.1 hl
  exact hd j (List.contains_iff_mem.1 hj) oj d h1 h2
theorem depV2 (hd : ∀ j, j < last → HasV l R a j) (j : Nat) (d : Tmp) (hj : j < last) (hl : (l[j]?).bind (·.dst) = some d) : R j (a.tmps[d]?.getD undef) := by
  obtain ⟨oj, h1, h2⟩ := Option.bind_eq_some_iff.1 hl
  exact hd j hj oj d h1 h2
/-- A step with a guard that hangs on a value that is known. -/
theorem stepG (j : Nat) (d : Tmp) (g : Bool) (hg : o.guard = some (j, true)) (hj : (depsOf o).contains j = true) (hl : (l[j]?).bind (·.dst) = some d) (hv : ∀ v, R j v → v = .bool g) (hno : g = false → R i undef)
    (hh : g = true → ∀ a W, Fr l a0 a → (∀ j ∈ depsOf o, HasV l R a j) → ((pre = true → Below w0.heap.size w0 W) ∧ (Below w0.heap.size w0 W ∨ S W)) → o.wp P a W (NxtS R pre i o a W) Q) : StepS P l Q R S a0 w0 pre i o := by
  intro a W hf hd hb
  have e := hv _ (depV hd j d hj hl)
  have hy : yielded l.toArray a.tmps j = some g := by
    unfold yielded
    rw [List.getElem?_toArray, hl]
    simp only [Option.bind_some]
    cases ht : a.tmps[d]? with
    | none => rw [ht] at e; simp [undef] at e
    | some x => rw [ht] at e; simp at e; subst e; rfl
  have hw : Region.wanted o (yielded l.toArray a.tmps) = g := by
    simp only [Region.wanted, hg, hy]
    cases g <;> rfl
  rw [hw]
  exact ⟨fun h => hh h a W hf hd hb, fun h => hno h⟩
theorem sv_of (v : Value) (m : Sem Value) (he : execOp a.eval o = (do pure (Next.value (← m)))) (hr : Sem.run P m W = .ok v W) (hR : R i v) : o.wp P a W (NxtS R pre i o a W) Q :=
  op_of v W m he hr ⟨v, rfl, hR, .inl rfl⟩
theorem sv_move (x : Operand) (v : Value) (ho : o.op = .move x) (hv : a.eval x = v) (hR : R i v) : o.wp P a W (NxtS R pre i o a W) Q := by
  refine wp_value v W ?_ ⟨v, rfl, hR, .inl rfl⟩
  unfold execOp; simp [ho, hv]
theorem sv_nil (x : Operand) (p : Addr) (ho : o.op = .nilCheck x) (hv : a.eval x = .pointer (some p)) (hR : R i (.pointer (some p))) : o.wp P a W (NxtS R pre i o a W) Q := by
  refine wp_value (.pointer (some p)) W ?_ ⟨_, rfl, hR, .inl rfl⟩
  unfold execOp; simp [ho, hv]
theorem sv_field (t : TypeId) (x : Operand) (k : Nat) (p q : Addr) (ho : o.op = .fieldAddr t x k) (hv : a.eval x = .pointer (some p)) (hr : Sem.run P (Instr.fieldAt t (.pointer (some p)) k) W = .ok (.pointer (some q)) W) (hR : R i (.pointer (some q))) : o.wp P a W (NxtS R pre i o a W) Q := by
  refine sv_of _ (Instr.fieldAt t (.pointer (some p)) k) ?_ hr hR
  unfold execOp; simp [ho, hv]
theorem sv_load (t : TypeId) (x : Operand) (p : Addr) (v : Value) (ho : o.op = .load t x) (hv : a.eval x = .pointer (some p)) (hr : Sem.run P (Instr.loadAt t (.pointer (some p))) W = .ok v W) (hR : R i v) : o.wp P a W (NxtS R pre i o a W) Q := by
  refine sv_of _ (Instr.loadAt t (.pointer (some p))) ?_ hr hR
  unfold execOp; simp [ho, hv]
theorem sv_conv (t u : TypeId) (x : Operand) (y v : Value) (ho : o.op = .convert t u x) (hv : a.eval x = y) (hr : Sem.run P (convert t u y) W = .ok v W) (hR : R i v) : o.wp P a W (NxtS R pre i o a W) Q := by
  refine sv_of _ (convert t u y) ?_ hr hR
  unfold execOp; simp [ho, hv]
theorem sv_index (t : TypeId) (x k : Operand) (y z v : Value) (ho : o.op = .indexAddr t x k) (hv : a.eval x = y) (hk : a.eval k = z) (hr : Sem.run P (Instr.indexAt t y z) W = .ok v W) (hR : R i v) : o.wp P a W (NxtS R pre i o a W) Q := by
  refine sv_of _ (Instr.indexAt t y z) ?_ hr hR
  unfold execOp; simp [ho, hv, hk]
theorem sv_build (t : TypeId) (xs : Array (Nat × Operand)) (vs : Array (Nat × Value)) (v : Value) (ho : o.op = .build t xs) (hv : (xs.map fun (i, x) => (i, a.eval x)) = vs) (hr : Sem.run P (Instr.build t vs) W = .ok v W) (hR : R i v) : o.wp P a W (NxtS R pre i o a W) Q := by
  refine sv_of _ (Instr.build t vs) ?_ hr hR
  subst hv
  unfold execOp; simp [ho]
theorem sv_bin (b : BinOp) (t u : TypeId) (x y : Operand) (p q v : Value) (ho : o.op = .binOp b t x y u) (hx : a.eval x = p) (hy : a.eval y = q) (hr : Sem.run P (do eqGuard b t x y p q; binOp b t p q) W = .ok v W) (hR : R i v) : o.wp P a W (NxtS R pre i o a W) Q := by
  refine sv_of _ (do eqGuard b t x y p q; binOp b t p q) ?_ hr hR
  unfold execOp; simp [ho, hx, hy]
theorem sv_pick (c x y : Operand) (g : Bool) (v : Value) (ho : o.op = .pick c x y) (hc : a.eval c = .bool g) (h1 : g = true → a.eval x = v) (h2 : g = false → a.eval y = v) (hR : R i v) : o.wp P a W (NxtS R pre i o a W) Q := by
  refine wp_value v W ?_ ⟨v, rfl, hR, .inl rfl⟩
  unfold execOp
  cases g
  · simp [ho, hc, h2 rfl, asBool]
  · simp [ho, hc, h1 rfl, asBool]
theorem sv_call (f : FuncId) (xs : Array Operand) (ts : Array TypeId) (vals : Array Value) (ho : o.op = .call { callee := .value (.func f), args := xs, argTypes := ts }) (hf : (P.funcs[f]?).map (fun fn => fn.name == "runtime.NumGoroutine" || fn.body.isNone) = some false) (hv : xs.map a.eval = vals)
    (h : Calls P f vals W fun e W' => ∃ v, e = .returned v ∧ R i v ∧ W' = W) : o.wp P a W (NxtS R pre i o a W) Q :=
  wp_callf f xs ts vals ho hf hv (h.mono fun _ _ ⟨v, he, hR, hb⟩ => ⟨v, he, v, rfl, hR, .inl hb⟩)
theorem sv_slice (t : TypeId) (x lo : Operand) (y z v : Value) (ho : o.op = .slice t x (some lo) none none) (hv : a.eval x = y) (hl : a.eval lo = z) (hr : Sem.run P (Instr.sliceAt t y (some z) none none) W = .ok v W) (hR : R i v) : o.wp P a W (NxtS R pre i o a W) Q := by
  refine sv_of _ (Instr.sliceAt t y (some z) none none) ?_ hr hR
  unfold execOp; simp [ho, hv, hl]
theorem sv_slice2 (t : TypeId) (x lo hi : Operand) (y z u v : Value) (ho : o.op = .slice t x (some lo) (some hi) none) (hv : a.eval x = y) (hl : a.eval lo = z) (hh : a.eval hi = u) (hr : Sem.run P (Instr.sliceAt t y (some z) (some u) none) W = .ok v W) (hR : R i v) : o.wp P a W (NxtS R pre i o a W) Q := by
  refine sv_of _ (Instr.sliceAt t y (some z) (some u) none) ?_ hr hR
  unfold execOp; simp [ho, hv, hl, hh]
/-- The store. -/
theorem sv_store (t : TypeId) (x y : Operand) (p : Addr) (v : Value) (W' : World) (ho : o.op = .store t x y) (hd : o.dst = none) (hx : a.eval x = .pointer (some p)) (hy : a.eval y = v) (hr : Sem.run P (Instr.storeAt t (.pointer (some p)) v) W = .ok () W') (hS : S W') : o.wp P a W (fun a' W' => a' = a ∧ S W') Q := by
  unfold Oper.wp
  have e : (execOp a.eval o).run P W = .ok .skip W' := by
    unfold execOp; simp [ho, hx, hy, hr]
  rw [e]
  exact ⟨by rw [hd]; rfl, hS⟩
theorem sv_assign (x : Operand) (v : Value) (ho : o.op = .assign x) (hv : a.eval x = v) (hK : K (a.put o.dst v) W) : o.wp P a W K Q := by
  refine wp_value v W ?_ hK
  unfold execOp; simp [ho, hv]
end
/-- Words of values, by their places. -/
def relV (l : List (Value → Prop)) (i : Nat) (v : Value) : Prop := ((l[i]?).getD fun _ => True) v
end Go.Proofs.Ytnlgdkbpolckcaa
