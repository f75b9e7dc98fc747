/- Rows of bools: those that are read, and those of one's own with append of a row. No program is named here. -/
import Derived.Test.YtenkghcdhanciaaRowP
import Derived.Below
import Derived.Laws.AppendOwn
import Derived.OwnWalk
import Derived.WalkKit
import Derived.WalkSpells
import Derived.ProofKit
import Derived.OpenShut
namespace Go.Proofs.Ytenkghcdhanciaa
open Go.RowKit

/-- A slice of bools that reads l. -/
def RowB (w : World) (a : Option Addr) (len : Nat) (l : List Bool) : Prop :=
  l.length = len ∧ len ≤ 140737488351232 ∧ ∀ i, i < len → ∃ b off, a = some ⟨b, off, none⟩ ∧ w.cell? ⟨b, off + i, none⟩ = some (.bool (l[i]?.getD false))
theorem RowB.later {w w' : World} {a : Option Addr} {len : Nat} {l : List Bool} (h : RowB w a len l) (hb : Below w.heap.size w w') : RowB w' a len l :=
  ⟨h.1, h.2.1, fun i hi => by obtain ⟨b, off, e, hc⟩ := h.2.2 i hi; exact ⟨b, off, e, cell_later hb hc⟩⟩
/-- The slice value v, of n bools l, is a row of one's own, from block base on. -/
def OwnB (w : World) (base : Nat) (e : TypeId) (v : Value) (n : Nat) (l : List Bool) : Prop := w.ownsRow base e 1 v n (l.map (Value.bool))

theorem OwnB.shape {w : World} {base : Nat} {e : TypeId} {v : Value} {n : Nat} {l : List Bool} (h : OwnB w base e v n l) : ∃ a cap, v = .slice a n cap := by
  rcases h.2 with ⟨rfl, rfl⟩ | ⟨g, c, cur, hv, _⟩
  · exact ⟨_, _, rfl⟩
  · exact ⟨_, _, hv⟩
theorem OwnB.len {w : World} {base : Nat} {e : TypeId} {v : Value} {n : Nat} {l : List Bool} (h : OwnB w base e v n l) : l.length = n := by have := h.1; simpa using this
theorem ownB_nil (w : World) (base : Nat) (e : TypeId) : OwnB w base e (.slice none 0 0) 0 [] := World.ownsRow_nil w base e 1
theorem OwnB.lt {w : World} {base : Nat} {e : TypeId} {v : Value} {n : Nat} {l : List Bool} (h : OwnB w base e v n l) : ∀ k, v.ownBlock = some k → base ≤ k := fun k hk => (World.ownsRow.lt h k hk).1
/-- Where the row lies, and its cells. -/
theorem OwnB.cells {w : World} {base : Nat} {e : TypeId} {a : Option Addr} {n m cap : Nat} {l : List Bool} (h : OwnB w base e (.slice a m cap) n l) (h0 : 0 < n) :
    ∃ g, a = some ⟨g, 0, none⟩ ∧ base ≤ g ∧ g < w.heap.size ∧ ∀ i, i < n → w.cell? ⟨g, i, none⟩ = some (.bool (l[i]?.getD false)) := by
  have hl := h.len
  rcases h.2 with ⟨_, h1⟩ | ⟨g, c, cur, hv, _⟩
  · omega
  · have hlt := World.ownsRow.lt h g (by rw [hv]; rfl)
    have hc := fun i hi => World.ownsRow.cells h (g := g) (by rw [hv]; rfl) i (.bool (l[i]?.getD false)) hi
    simp only [Value.slice.injEq] at hv
    refine ⟨g, hv.1, hlt.1, hlt.2, fun i hi => ?_⟩
    have := hc i (by simp [hl, hi])
    simpa [Go.WideShapes.add_plain] using this
theorem OwnB.row {w : World} {base : Nat} {e : TypeId} {a : Option Addr} {n m cap : Nat} {l : List Bool} (h : OwnB w base e (.slice a m cap) n l) (hn : n ≤ 100000) : RowB w a n l := by
  refine ⟨h.len, by omega, fun i hi => ?_⟩
  obtain ⟨g, e, _, _, hc⟩ := h.cells (by omega)
  exact ⟨g, 0, e, by simpa using hc i hi⟩
/-- A new block changes nothing of it. -/
theorem OwnB.later {w w' : World} {base : Nat} {e : TypeId} {v : Value} {n : Nat} {l : List Bool} (h : OwnB w base e v n l) (hb : Below w.heap.size w w') : OwnB w' base e v n l := by
  refine ⟨h.1, ?_⟩
  rcases h.2 with h2 | ⟨g, c, cur, hv, h3, h4, h5, h6, h7⟩
  · exact .inl h2
  · refine .inr ⟨g, c, cur, hv, h3, ?_, h5, h6, h7⟩
    have hlt := (World.ownsRow.lt h g (by rw [hv]; rfl)).2
    rw [hb.block g hlt]
    exact h4

section
variable {P : Program} (w : World)
theorem run_appB (base : Nat) (t ty e : TypeId) (ht : P.underlying t = some (.slice e)) (hinfo : (P.info? e).map (fun i => (i.zero, i.size, i.bytes)) = some (some (.bool false), 1, 1))
    (v : Value) (n : Nat) (l1 : List Bool) (hown : OwnB w base e v n l1) (ad : Option Addr) (m c : Nat) (l2 : List Bool) (h2 : RowB w ad m l2) (h0 : 0 < m) (hlen : n + m ≤ 100000) (hbase : base ≤ w.heap.size) :
    ∃ a' c' w', (Builtin.append_ #[t, t] ty #[v, .slice ad m c]).run P w = .ok (.slice a' (n + m) c') w' ∧ OwnB w' base e (.slice a' (n + m) c') (n + m) (l1 ++ l2) ∧ Below base w w' := by
  obtain ⟨i, hi, hzz⟩ := Option.map_eq_some_iff.1 hinfo
  simp only [Prod.mk.injEq] at hzz
  obtain ⟨hz, hs, hb⟩ := hzz
  obtain ⟨b, off, rfl, -⟩ := h2.2.2 0 h0
  have hnews : ∀ j u, (l2.map Value.bool)[j]? = some u → w.cell? ((⟨b, off, none⟩ : Addr).add j) = some u := by
    intro j u hj
    rw [List.getElem?_map] at hj
    obtain ⟨x, hx, rfl⟩ := Option.map_eq_some_iff.1 hj
    have hjl : j < m := by rw [← h2.1]; exact (List.getElem?_eq_some_iff.1 hx).1
    obtain ⟨b', off', e', hc⟩ := h2.2.2 j hjl
    simp only [Option.some.injEq, Addr.mk.injEq, and_true] at e'
    obtain ⟨rfl, rfl⟩ := e'
    rw [Go.WideShapes.add_plain, hc, hx]
    rfl
  obtain ⟨v', w', hr, h3, h4, _⟩ := run_append_own (P := P) w base t ty e i (.bool false) 1 1 ht hi hz hs hb rfl (by decide) v n _ hown ⟨b, off, none⟩ m c (l2.map Value.bool) (by simp [h2.1]) hnews
    (by intro u hu; obtain ⟨x, -, rfl⟩ := List.mem_map.1 hu; rfl) (by unfold maxLen; omega) (by omega) hbase
  have h5 : OwnB w' base e v' (n + m) (l1 ++ l2) := by unfold OwnB; rw [List.map_append]; exact h3
  obtain ⟨a', c', rfl⟩ := h5.shape
  exact ⟨a', c', w', hr, h5, (Below.refl _ _).grown h4 hbase hown.lt⟩
theorem wpList_appB {ops : Array Oper} {rest : List Oper} {o : Oper} {a : Act} {Q : Exit → Act → World → Prop} (hgd : o.guard = none) (s x : Operand) (t e : TypeId)
    (ho : o.op = .call { callee := .builtin .append, args := #[s, x], argTypes := #[t, t] }) (base : Nat)
    (ht : P.underlying t = some (.slice e)) (hinfo : (P.info? e).map (fun i => (i.zero, i.size, i.bytes)) = some (some (.bool false), 1, 1))
    (v : Value) (n : Nat) (l1 : List Bool) (hs : a.eval s = v) (hown : OwnB w base e v n l1) (ad : Option Addr) (m c : Nat) (l2 : List Bool) (hx : a.eval x = .slice ad m c) (h2 : RowB w ad m l2) (h0 : 0 < m) (k : Nat) (hk : n + m = k) (l3 : List Bool) (hl : l1 ++ l2 = l3) (hlen : k ≤ 100000) (hbase : base ≤ w.heap.size)
    (h : ∀ a' c' w', OwnB w' base e (.slice a' k c') k l3 → Below base w w' → wpList P ops Q rest (a.put o.dst (.slice a' k c')) w') : wpList P ops Q (o :: rest) a w := by
  subst hk hl
  refine wpList_plain hgd fun _ hK => ?_
  obtain ⟨a', c', w', hr, h3, h4⟩ := run_appB (P := P) w base t o.type e ht hinfo v n l1 hown ad m c l2 h2 h0 hlen hbase
  unfold Oper.wp execOp
  simp only [ho, resolve, invoke, builtin, Sem.run_bind, Sem.run_pure, Result.andThen_ok, List.map_toArray, List.map_cons, List.map_nil, hs, hx, hr]
  exact hK _ _ (h a' c' w' h3 h4)
end
theorem rowB_drop {w : World} {b off n : Nat} {l : List Bool} (h : RowB w (some ⟨b, off, none⟩) n l) (k m : Nat) (hk : k + m ≤ n) : RowB w (some ⟨b, off + k, none⟩) m ((l.drop k).take m) := by
  have hl := h.1
  refine ⟨by simp; omega, by have := h.2.1; omega, fun i hi => ⟨b, off + k, rfl, ?_⟩⟩
  obtain ⟨b', off', e, hc⟩ := h.2.2 (k + i) (by omega)
  simp only [Option.some.injEq, Addr.mk.injEq, and_true] at e
  obtain ⟨rfl, rfl⟩ := e
  rw [Nat.add_assoc, hc, List.getElem?_take, if_pos hi, List.getElem?_drop]
end Go.Proofs.Ytenkghcdhanciaa
