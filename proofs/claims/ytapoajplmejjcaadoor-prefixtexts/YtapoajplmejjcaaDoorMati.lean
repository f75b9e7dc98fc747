/- Append of one number onto a row of one's own. No program is named here. -/
import Derived.Below
import Derived.Laws.AppendOwn
import Derived.OwnWalk
import Derived.WalkKit
namespace Go.Proofs.YtapoajplmejjcaaDoor
open Go.RowKit

/-- The slice value v, of n ints l, is a row of one's own, from block base on. -/
def OwnI (w : World) (base : Nat) (e : TypeId) (v : Value) (n : Nat) (l : List Nat) : Prop := w.ownsRow base e 1 v n (l.map fun (x : Nat) => Value.int .i64 (x : Int))

theorem OwnI.shape {w : World} {base : Nat} {e : TypeId} {v : Value} {n : Nat} {l : List Nat} (h : OwnI w base e v n l) : ∃ a cap, v = .slice a n cap := by
  rcases h.2 with ⟨rfl, rfl⟩ | ⟨g, c, cur, hv, _⟩
  · exact ⟨_, _, rfl⟩
  · exact ⟨_, _, hv⟩
theorem OwnI.len {w : World} {base : Nat} {e : TypeId} {v : Value} {n : Nat} {l : List Nat} (h : OwnI w base e v n l) : l.length = n := by have := h.1; simpa using this
theorem ownI_nil (w : World) (base : Nat) (e : TypeId) : OwnI w base e (.slice none 0 0) 0 [] := World.ownsRow_nil w base e 1
theorem OwnI.lt {w : World} {base : Nat} {e : TypeId} {v : Value} {n : Nat} {l : List Nat} (h : OwnI w base e v n l) : ∀ k, v.ownBlock = some k → base ≤ k := fun k hk => (World.ownsRow.lt h k hk).1
/-- Where the row lies, and its cells. -/
theorem OwnI.cells {w : World} {base : Nat} {e : TypeId} {a : Option Addr} {n m cap : Nat} {l : List Nat} (h : OwnI w base e (.slice a m cap) n l) (h0 : 0 < n) :
    ∃ g, a = some ⟨g, 0, none⟩ ∧ base ≤ g ∧ g < w.heap.size ∧ ∀ i, i < n → w.cell? ⟨g, i, none⟩ = some (.int .i64 (l[i]?.getD 0 : Nat)) := by
  have hl := h.len
  rcases h.2 with ⟨_, h1⟩ | ⟨g, c, cur, hv, _⟩
  · omega
  · have hlt := World.ownsRow.lt h g (by rw [hv]; rfl)
    have hc := fun i hi => World.ownsRow.cells h (g := g) (by rw [hv]; rfl) i (.int .i64 ((l[i]?.getD 0 : Nat) : Int)) hi
    simp only [Value.slice.injEq] at hv
    refine ⟨g, hv.1, hlt.1, hlt.2, fun i hi => ?_⟩
    have := hc i (by simp [hl, hi])
    simpa [Go.WideShapes.add_plain] using this
/-- A new block changes nothing of it. -/
theorem OwnI.later {w w' : World} {base : Nat} {e : TypeId} {v : Value} {n : Nat} {l : List Nat} (h : OwnI w base e v n l) (hb : Below w.heap.size w w') : OwnI w' base e v n l := by
  refine ⟨h.1, ?_⟩
  rcases h.2 with h2 | ⟨g, c, cur, hv, h3, h4, h5, h6, h7⟩
  · exact .inl h2
  · refine .inr ⟨g, c, cur, hv, h3, ?_, h5, h6, h7⟩
    have hlt := (World.ownsRow.lt h g (by rw [hv]; rfl)).2
    rw [hb.block g hlt]
    exact h4

section
variable {P : Program} (w : World)
theorem run_appI (base : Nat) (t ty e : TypeId) (ht : P.underlying t = some (.slice e)) (hinfo : (P.info? e).map (fun i => (i.zero, i.size, i.bytes)) = some (some (.int .i64 0), 1, 8))
    (v : Value) (n : Nat) (l1 : List Nat) (hown : OwnI w base e v n l1) (g : Nat) (c : Nat) (x : Nat) (h2 : w.cell? ⟨g, 0, none⟩ = some (.int .i64 (x : Int))) (hlen : n ≤ 100000) (hbase : base ≤ w.heap.size) :
    ∃ a' c' w', (Builtin.append_ #[t, t] ty #[v, .slice (some ⟨g, 0, none⟩) 1 c]).run P w = .ok (.slice a' (n + 1) c') w' ∧ OwnI w' base e (.slice a' (n + 1) c') (n + 1) (l1 ++ [x]) ∧ Below base w w' := by
  obtain ⟨i, hi, hzz⟩ := Option.map_eq_some_iff.1 hinfo
  simp only [Prod.mk.injEq] at hzz
  obtain ⟨hz, hs, hb⟩ := hzz
  have hnews : ∀ j u, ([Value.int .i64 (x : Int)] : List Value)[j]? = some u → w.cell? ((⟨g, 0, none⟩ : Addr).add j) = some u := by
    intro j u hj
    cases j with
    | zero => simp at hj; subst hj; simpa [Go.WideShapes.add_plain] using h2
    | succ j => simp at hj
  obtain ⟨v', w', hr, h3, h4, _⟩ := run_append_own (P := P) w base t ty e i (.int .i64 0) 1 8 ht hi hz hs hb rfl (by decide) v n _ hown ⟨g, 0, none⟩ 1 c [Value.int .i64 (x : Int)] (by simp) hnews
    (by intro u hu; simp at hu; subst hu; rfl) (by unfold maxLen; omega) (by omega) hbase
  have h5 : OwnI w' base e v' (n + 1) (l1 ++ [x]) := by unfold OwnI; rw [List.map_append]; exact h3
  obtain ⟨a', c', rfl⟩ := h5.shape
  exact ⟨a', c', w', hr, h5, (Below.refl _ _).grown h4 hbase hown.lt⟩

theorem wpList_appI {ops : Array Oper} {rest : List Oper} {o : Oper} {a : Act} {Q : Exit → Act → World → Prop} (hgd : o.guard = none) (s x : Operand) (t e : TypeId)
    (ho : o.op = .call { callee := .builtin .append, args := #[s, x], argTypes := #[t, t] }) (base : Nat)
    (ht : P.underlying t = some (.slice e)) (hinfo : (P.info? e).map (fun i => (i.zero, i.size, i.bytes)) = some (some (.int .i64 0), 1, 8))
    (v : Value) (n : Nat) (l1 : List Nat) (hs : a.eval s = v) (hown : OwnI w base e v n l1) (g c : Nat) (y : Nat) (hx : a.eval x = .slice (some ⟨g, 0, none⟩) 1 c) (h2 : w.cell? ⟨g, 0, none⟩ = some (.int .i64 (y : Int))) (hlen : n ≤ 100000) (hbase : base ≤ w.heap.size)
    (h : ∀ a' c' w', OwnI w' base e (.slice a' (n + 1) c') (n + 1) (l1 ++ [y]) → Below base w w' → wpList P ops Q rest (a.put o.dst (.slice a' (n + 1) c')) w') : wpList P ops Q (o :: rest) a w := by
  refine wpList_plain hgd fun _ hK => ?_
  obtain ⟨a', c', w', hr, h3, h4⟩ := run_appI (P := P) w base t o.type e ht hinfo v n l1 hown g c y h2 hlen hbase
  unfold Oper.wp execOp
  simp only [ho, resolve, invoke, builtin, Sem.run_bind, Sem.run_pure, Result.andThen_ok, List.map_toArray, List.map_cons, List.map_nil, hs, hx, hr]
  exact hK _ _ (h a' c' w' h3 h4)
end
end Go.Proofs.YtapoajplmejjcaaDoor
