/- Steps of a region, one by one. No program is named here. -/
import Derived.Test.YtofmgkpghkeegaaReg
namespace Go.Proofs.Ytofmgkpghkeegaa
open Go.RowKit

section
variable {P : Program} {l : List Oper} {R : Nat → Value → World → Prop} {a : Act} {W : World} {o : Oper} {K : Act → World → Prop} {Q : Exit → Act → World → Prop}
/-- What is known of a value that an operation waits for. -/
theorem dep (hd : ∀ j ∈ depsOf o, Has l R a W j) (j : Nat) (d : Tmp) (hj : (depsOf o).contains j = true) (hl : (l[j]?).bind (·.dst) = some d) : R j (a.tmps[d]?.getD undef) W := by
  obtain ⟨oj, h1, h2⟩ := Option.bind_eq_some_iff.1 hl
  exact hd j (List.contains_iff_mem.1 hj) oj d h1 h2
theorem dep2 {last : Nat} (hd : ∀ j, j < last → Has l R a W j) (j : Nat) (d : Tmp) (hj : j < last) (hl : (l[j]?).bind (·.dst) = some d) : R j (a.tmps[d]?.getD undef) W := by
  obtain ⟨oj, h1, h2⟩ := Option.bind_eq_some_iff.1 hl
  exact hd j hj oj d h1 h2
theorem ev_tmp {d : Tmp} {v : Value} (h : a.tmps[d]?.getD undef = v) : a.eval (.tmp d) = v := by
  unfold Act.eval; simpa using h
theorem ev_const (v : Value) : a.eval (.const v) = v := rfl
theorem op_of (v : Value) (W' : World) (s : Sem Value) (he : execOp a.eval o = (do pure (Next.value (← s)))) (hr : Sem.run P s W = .ok v W') (hk : K (a.put o.dst v) W') : o.wp P a W K Q := by
  refine wp_value v W' ?_ hk
  rw [he, Sem.run_bind, hr]; rfl
/-- What is owed of an operation. -/
def Obl (P : Program) (l : List Oper) (Q : Exit → Act → World → Prop) (R : Nat → Value → World → Prop) (a0 : Act) (w0 : World) (last i : Nat) (o : Oper) : Prop := if i = last then OpLast P l Q R a0 w0 last o else OpStep P l Q R a0 w0 i o
theorem obl_step {a0 : Act} {w0 : World} {last i : Nat} (h : (i == last) = false) (hh : OpStep P l Q R a0 w0 i o) : Obl P l Q R a0 w0 last i o := by unfold Obl; rw [if_neg (by simpa using h)]; exact hh
theorem obl_last {a0 : Act} {w0 : World} {last : Nat} (hh : OpLast P l Q R a0 w0 last o) : Obl P l Q R a0 w0 last last o := by unfold Obl; rw [if_pos rfl]; exact hh
theorem wp_region_obl {a0 : Act} {w0 : World} {id : Nat} (R : Nat → Value → World → Prop) (last : Nat) (hm : P.follows .mixedOrders = true) (hB : relB l last = true) (hsz : (l.all fun o => o.dst.all fun d => decide (d < a0.tmps.size)) = true)
    (mono : ∀ i v W W', R i v W → Below W.heap.size W W' → R i v W') (steps : AllSteps (Obl P l Q R a0 w0 last) 0 l) : (Code.region id l.toArray true).wp P Q a0 w0 := by
  refine wp_region_rel R last hm hB (fun o ho d hd => ?_) mono steps
  have := List.all_eq_true.1 hsz o ho
  rw [hd] at this
  simpa using this
section
variable {i : Nat}
/-- The word for one step. -/
abbrev Nxt (R : Nat → Value → World → Prop) (i : Nat) (o : Oper) (a : Act) (W : World) : Act → World → Prop := fun a' W' => ∃ v, a' = a.put o.dst v ∧ R i v W' ∧ Below W.heap.size W W'
theorem st_move (x : Operand) (v : Value) (ho : o.op = .move x) (hv : a.eval x = v) (hR : R i v W) : o.wp P a W (Nxt R i o a W) Q := by
  refine wp_value v W ?_ ⟨v, rfl, hR, Below.refl _ _⟩
  unfold execOp; simp [ho, hv]
theorem st_field (t : TypeId) (x : Operand) (k : Nat) (p q : Addr) (ho : o.op = .fieldAddr t x k) (hv : a.eval x = .pointer (some p)) (hr : Sem.run P (Instr.fieldAt t (.pointer (some p)) k) W = .ok (.pointer (some q)) W) (hR : R i (.pointer (some q)) W) : o.wp P a W (Nxt R i o a W) Q := by
  refine op_of _ W (Instr.fieldAt t (.pointer (some p)) k) ?_ hr ⟨_, rfl, hR, Below.refl _ _⟩
  unfold execOp; simp [ho, hv]
theorem st_load (t : TypeId) (x : Operand) (p : Addr) (v : Value) (ho : o.op = .load t x) (hv : a.eval x = .pointer (some p)) (hr : Sem.run P (Instr.loadAt t (.pointer (some p))) W = .ok v W) (hR : R i v W) : o.wp P a W (Nxt R i o a W) Q := by
  refine op_of _ W (Instr.loadAt t (.pointer (some p))) ?_ hr ⟨_, rfl, hR, Below.refl _ _⟩
  unfold execOp; simp [ho, hv]
theorem st_conv (t u : TypeId) (x : Operand) (y v : Value) (ho : o.op = .convert t u x) (hv : a.eval x = y) (hr : Sem.run P (convert t u y) W = .ok v W) (hR : R i v W) : o.wp P a W (Nxt R i o a W) Q := by
  refine op_of _ W (convert t u y) ?_ hr ⟨_, rfl, hR, Below.refl _ _⟩
  unfold execOp; simp [ho, hv]
theorem st_slice (t : TypeId) (x lo : Operand) (y z v : Value) (ho : o.op = .slice t x (some lo) none none) (hv : a.eval x = y) (hl : a.eval lo = z) (hr : Sem.run P (Instr.sliceAt t y (some z) none none) W = .ok v W) (hR : R i v W) : o.wp P a W (Nxt R i o a W) Q := by
  refine op_of _ W (Instr.sliceAt t y (some z) none none) ?_ hr ⟨_, rfl, hR, Below.refl _ _⟩
  unfold execOp; simp [ho, hv, hl]
theorem st_build (t : TypeId) (n : Nat) (xs : Array (Nat × Operand)) (vs : Array (Nat × Value)) (v : Value) (W' : World) (ho : o.op = .buildSlice t n xs) (hv : (xs.map fun (i, x) => (i, a.eval x)) = vs) (hr : Sem.run P (Instr.buildSlice t n vs) W = .ok v W') (hR : R i v W') (hb : Below W.heap.size W W') : o.wp P a W (Nxt R i o a W) Q := by
  refine op_of _ W' (Instr.buildSlice t n vs) ?_ hr ⟨_, rfl, hR, hb⟩
  subst hv
  unfold execOp; simp [ho]
theorem st_call (f : FuncId) (xs : Array Operand) (ts : Array TypeId) (vals : Array Value) (ho : o.op = .call { callee := .value (.func f), args := xs, argTypes := ts }) (hf : (P.funcs[f]?).map (fun fn => fn.name == "runtime.NumGoroutine" || fn.body.isNone) = some false) (hv : xs.map a.eval = vals)
    (h : Calls P f vals W fun e W' => ∃ v, e = .returned v ∧ R i v W' ∧ Below W.heap.size W W') : o.wp P a W (Nxt R i o a W) Q :=
  wp_callf f xs ts vals ho hf hv (h.mono fun _ _ ⟨v, he, hR, hb⟩ => ⟨v, he, v, rfl, hR, hb⟩)
end
/-- Words that stay in every later world. -/
def Stays (q : Value → World → Prop) : Prop := ∀ v W W', q v W → Below W.heap.size W W' → q v W'
def AllStay : List (Value → World → Prop) → Prop
  | [] => True
  | q :: l => Stays q ∧ AllStay l
def relOf (l : List (Value → World → Prop)) (i : Nat) : Value → World → Prop := (l[i]?).getD fun _ _ => True
theorem relOf_mono : ∀ {l : List (Value → World → Prop)}, AllStay l → ∀ i v W W', relOf l i v W → Below W.heap.size W W' → relOf l i v W'
  | [], _, i, v, W, W', _, _ => by unfold relOf; simp
  | q :: l, h, 0, v, W, W', hr, hb => h.1 v W W' hr hb
  | q :: l, h, i + 1, v, W, W', hr, hb => by
    have := relOf_mono h.2 i v W W' (by simpa [relOf] using hr) hb
    simpa [relOf] using this
theorem stays_eq (x : Value) : Stays fun v _ => v = x := fun _ _ _ h _ => h
end
end Go.Proofs.Ytofmgkpghkeegaa
