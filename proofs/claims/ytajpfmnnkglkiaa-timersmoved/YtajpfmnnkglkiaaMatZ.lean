/- Rows of ints: those that came in, and those of one's own with append of one number. No program is named here. -/
import Derived.Below
import Derived.Laws.AppendOwn
import Derived.OwnWalk
import Derived.WalkKit
import Derived.WalkSpells
import Derived.ProofKit
import Derived.OpenShut
namespace Go.Proofs.Ytajpfmnnkglkiaa
open Go.RowKit

/-- A slice of ints that reads l. -/
def RowZ (w : World) (a : Option Addr) (len : Nat) (l : List Int) : Prop :=
  l.length = len ∧ len ≤ 140737488351232 ∧ ∀ i, i < len → ∃ b off, a = some ⟨b, off, none⟩ ∧ w.cell? ⟨b, off + i, none⟩ = some (.int .i64 (l[i]?.getD 0))
theorem RowZ.later {w w' : World} {a : Option Addr} {len : Nat} {l : List Int} (h : RowZ w a len l) (hb : Below w.heap.size w w') : RowZ w' a len l :=
  ⟨h.1, h.2.1, fun i hi => by obtain ⟨b, off, e, hc⟩ := h.2.2 i hi; exact ⟨b, off, e, cell_later hb hc⟩⟩
theorem rowZ_of {w : World} {a : Option Addr} {len cap : Nat} {zs : List Int}
    (h : (a = none ∧ len = 0 ∧ cap = 0 ∧ zs = []) ∨ ∃ x, a = some x ∧ len ≤ cap ∧ cap ≤ maxLen ∧ zs.length = cap ∧ (∀ i, i < zs.length → w.cell? (x.add i) = some (.int .i64 (zs.getD i 0))) ∧ ∀ n ∈ zs, (Lit.int .i64 n).wf = true) (hle : len ≤ 3000) :
    RowZ w a len (zs.take len) := by
  rcases h with ⟨rfl, rfl, rfl, rfl⟩ | ⟨x, rfl, hlc, hcap, hz, hc, hwf⟩
  · exact ⟨rfl, by omega, fun i hi => by omega⟩
  · refine ⟨by simp; omega, by omega, fun i hi => ?_⟩
    obtain ⟨b, off, rfl, hc'⟩ := ints_at hc (by omega)
    refine ⟨b, off, rfl, ?_⟩
    rw [hc' i (by omega)]
    simp [hi]
theorem rowZ_new (w : World) (l : List Int) (t : TypeId) (hm : l.length ≤ 3000) :
    RowZ (w.alloc (.cells (l.map (Value.int .i64)).toArray t)) (some ⟨w.heap.size, 0, none⟩) l.length l := by
  refine ⟨rfl, by omega, fun i hi => ⟨_, _, rfl, ?_⟩⟩
  rw [World.cell?_alloc_new]
  simp [hi]

/-- The slice value v, of n ints l, is a row of one's own, from block base on. -/
def OwnZ (w : World) (base : Nat) (e : TypeId) (v : Value) (n : Nat) (l : List Int) : Prop := w.ownsRow base e 1 v n (l.map (Value.int .i64))

theorem OwnZ.shape {w : World} {base : Nat} {e : TypeId} {v : Value} {n : Nat} {l : List Int} (h : OwnZ w base e v n l) : ∃ a cap, v = .slice a n cap := by
  rcases h.2 with ⟨rfl, rfl⟩ | ⟨g, c, cur, hv, _⟩
  · exact ⟨_, _, rfl⟩
  · exact ⟨_, _, hv⟩
theorem OwnZ.len {w : World} {base : Nat} {e : TypeId} {v : Value} {n : Nat} {l : List Int} (h : OwnZ w base e v n l) : l.length = n := by have := h.1; simpa using this
theorem ownZ_nil (w : World) (base : Nat) (e : TypeId) : OwnZ w base e (.slice none 0 0) 0 [] := World.ownsRow_nil w base e 1
theorem OwnZ.lt {w : World} {base : Nat} {e : TypeId} {v : Value} {n : Nat} {l : List Int} (h : OwnZ w base e v n l) : ∀ k, v.ownBlock = some k → base ≤ k := fun k hk => (World.ownsRow.lt h k hk).1
/-- Where the row lies, and its cells. -/
theorem OwnZ.cells {w : World} {base : Nat} {e : TypeId} {a : Option Addr} {n m cap : Nat} {l : List Int} (h : OwnZ w base e (.slice a m cap) n l) (h0 : 0 < n) :
    ∃ g, a = some ⟨g, 0, none⟩ ∧ base ≤ g ∧ g < w.heap.size ∧ ∀ i, i < n → w.cell? ⟨g, i, none⟩ = some (.int .i64 (l[i]?.getD 0)) := by
  have hl := h.len
  rcases h.2 with ⟨_, h1⟩ | ⟨g, c, cur, hv, _⟩
  · omega
  · have hlt := World.ownsRow.lt h g (by rw [hv]; rfl)
    have hc := fun i hi => World.ownsRow.cells h (g := g) (by rw [hv]; rfl) i (.int .i64 (l[i]?.getD 0)) hi
    simp only [Value.slice.injEq] at hv
    refine ⟨g, hv.1, hlt.1, hlt.2, fun i hi => ?_⟩
    have := hc i (by simp [hl, hi])
    simpa [Go.WideShapes.add_plain] using this
theorem OwnZ.row {w : World} {base : Nat} {e : TypeId} {a : Option Addr} {n m cap : Nat} {l : List Int} (h : OwnZ w base e (.slice a m cap) n l) (hn : n ≤ 100000) : RowZ w a n l := by
  refine ⟨h.len, by omega, fun i hi => ?_⟩
  obtain ⟨g, e, _, _, hc⟩ := h.cells (by omega)
  exact ⟨g, 0, e, by simpa using hc i hi⟩
/-- A new block changes nothing of it. -/
theorem OwnZ.later {w w' : World} {base : Nat} {e : TypeId} {v : Value} {n : Nat} {l : List Int} (h : OwnZ w base e v n l) (hb : Below w.heap.size w w') : OwnZ w' base e v n l := by
  refine ⟨h.1, ?_⟩
  rcases h.2 with h2 | ⟨g, c, cur, hv, h3, h4, h5, h6, h7⟩
  · exact .inl h2
  · refine .inr ⟨g, c, cur, hv, h3, ?_, h5, h6, h7⟩
    have hlt := (World.ownsRow.lt h g (by rw [hv]; rfl)).2
    rw [hb.block g hlt]
    exact h4

section
variable {P : Program} (w : World)
theorem run_appZ (base : Nat) (t ty e : TypeId) (ht : P.underlying t = some (.slice e)) (hinfo : (P.info? e).map (fun i => (i.zero, i.size, i.bytes)) = some (some (.int .i64 0), 1, 8))
    (v : Value) (n : Nat) (l1 : List Int) (hown : OwnZ w base e v n l1) (g : Nat) (c : Nat) (x : Int) (h2 : w.cell? ⟨g, 0, none⟩ = some (.int .i64 x)) (hlen : n ≤ 100000) (hbase : base ≤ w.heap.size) :
    ∃ a' c' w', (Builtin.append_ #[t, t] ty #[v, .slice (some ⟨g, 0, none⟩) 1 c]).run P w = .ok (.slice a' (n + 1) c') w' ∧ OwnZ w' base e (.slice a' (n + 1) c') (n + 1) (l1 ++ [x]) ∧ Below base w w' := by
  obtain ⟨i, hi, hzz⟩ := Option.map_eq_some_iff.1 hinfo
  simp only [Prod.mk.injEq] at hzz
  obtain ⟨hz, hs, hb⟩ := hzz
  have hnews : ∀ j u, ([Value.int .i64 x] : List Value)[j]? = some u → w.cell? ((⟨g, 0, none⟩ : Addr).add j) = some u := by
    intro j u hj
    cases j with
    | zero => simp at hj; subst hj; simpa [Go.WideShapes.add_plain] using h2
    | succ j => simp at hj
  obtain ⟨v', w', hr, h3, h4, _⟩ := run_append_own (P := P) w base t ty e i (.int .i64 0) 1 8 ht hi hz hs hb rfl (by decide) v n _ hown ⟨g, 0, none⟩ 1 c [Value.int .i64 x] (by simp) hnews
    (by intro u hu; simp at hu; subst hu; rfl) (by unfold maxLen; omega) (by omega) hbase
  have h5 : OwnZ w' base e v' (n + 1) (l1 ++ [x]) := by unfold OwnZ; rw [List.map_append]; exact h3
  obtain ⟨a', c', rfl⟩ := h5.shape
  exact ⟨a', c', w', hr, h5, (Below.refl _ _).grown h4 hbase hown.lt⟩

theorem wpList_appZ {ops : Array Oper} {rest : List Oper} {o : Oper} {a : Act} {Q : Exit → Act → World → Prop} (hgd : o.guard = none) (s x : Operand) (t e : TypeId)
    (ho : o.op = .call { callee := .builtin .append, args := #[s, x], argTypes := #[t, t] }) (base : Nat)
    (ht : P.underlying t = some (.slice e)) (hinfo : (P.info? e).map (fun i => (i.zero, i.size, i.bytes)) = some (some (.int .i64 0), 1, 8))
    (v : Value) (n : Nat) (l1 : List Int) (hs : a.eval s = v) (hown : OwnZ w base e v n l1) (g c : Nat) (y : Int) (hx : a.eval x = .slice (some ⟨g, 0, none⟩) 1 c) (h2 : w.cell? ⟨g, 0, none⟩ = some (.int .i64 y)) (hlen : n ≤ 100000) (hbase : base ≤ w.heap.size)
    (h : ∀ a' c' w', OwnZ w' base e (.slice a' (n + 1) c') (n + 1) (l1 ++ [y]) → Below base w w' → wpList P ops Q rest (a.put o.dst (.slice a' (n + 1) c')) w') : wpList P ops Q (o :: rest) a w := by
  refine wpList_plain hgd fun _ hK => ?_
  obtain ⟨a', c', w', hr, h3, h4⟩ := run_appZ (P := P) w base t o.type e ht hinfo v n l1 hown g c y h2 hlen hbase
  unfold Oper.wp execOp
  simp only [ho, resolve, invoke, builtin, Sem.run_bind, Sem.run_pure, Result.andThen_ok, List.map_toArray, List.map_cons, List.map_nil, hs, hx, hr]
  exact hK _ _ (h a' c' w' h3 h4)
end
end Go.Proofs.Ytajpfmnnkglkiaa
