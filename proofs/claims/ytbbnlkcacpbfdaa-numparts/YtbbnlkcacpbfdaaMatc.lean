/- Plain laws: append onto a row of bytes of one's own; sums of lists that are joined or changed. No program is named here. -/
import Derived.Test.YtbbnlkcacpbfdaaMatb
import Derived.Laws.AppendOwn
import Derived.OwnWalk
namespace Go.Proofs.Ytbbnlkcacpbfdaa
open Go.RowKit

theorem Bytes.append {l m : List Int} (h : Bytes l) (k : Bytes m) : Bytes (l ++ m) := fun n hn => by
  rcases List.mem_append.1 hn with hn | hn
  · exact h n hn
  · exact k n hn

/-- The slice value v, of n bytes l, is a row of one's own, from block base on. -/
def Own8 (w : World) (base : Nat) (e : TypeId) (v : Value) (n : Nat) (l : List Int) : Prop := w.ownsRow base e 1 v n (l.map (Value.int .u8))

theorem Own8.row {w : World} {base : Nat} {e : TypeId} {a : Option Addr} {n m cap : Nat} {l : List Int} (h : Own8 w base e (.slice a m cap) n l) (hB : Bytes l) (hn : n ≤ 100000) : Row8 w a n l := by
  have hl : l.length = n := by have := h.1; simpa using this
  refine ⟨hl, by omega, hB, fun i hi => ?_⟩
  rcases h.2 with ⟨_, h0⟩ | ⟨g, c, cur, hv, _⟩
  · omega
  · have hc := World.ownsRow.cells h (g := g) (by rw [hv]; rfl) i (.int .u8 (l[i]?.getD 0)) (by simp [hl, hi])
    simp only [Value.slice.injEq] at hv
    refine ⟨g, 0, hv.1, ?_⟩
    rw [← Go.WideShapes.add_plain]; exact hc

theorem Own8.shape {w : World} {base : Nat} {e : TypeId} {v : Value} {n : Nat} {l : List Int} (h : Own8 w base e v n l) : ∃ a cap, v = .slice a n cap := by
  rcases h.2 with ⟨rfl, rfl⟩ | ⟨g, c, cur, hv, _⟩
  · exact ⟨_, _, rfl⟩
  · exact ⟨_, _, hv⟩

theorem own8_nil (w : World) (base : Nat) (e : TypeId) : Own8 w base e (.slice none 0 0) 0 [] := World.ownsRow_nil w base e 1

theorem own8_new (w : World) (base : Nat) (e : TypeId) (l : List Int) (hb : base ≤ w.heap.size) (hl : l.length ≤ 100000) :
    Own8 (w.alloc (.cells (l.map (Value.int .u8)).toArray e)) base e (.slice (some ⟨w.heap.size, 0, none⟩) l.length l.length) l.length l :=
  ⟨by simp, .inr ⟨w.heap.size, l.length, _, rfl, hb, heap_alloc_new w _, Nat.le_refl _, by unfold maxLen; omega, by simp, by rw [List.take_of_length_le (by simp)]⟩⟩

theorem Own8.lt {w : World} {base : Nat} {e : TypeId} {v : Value} {n : Nat} {l : List Int} (h : Own8 w base e v n l) : ∀ k, v.ownBlock = some k → base ≤ k := fun k hk => (World.ownsRow.lt h k hk).1

section
variable {P : Program} (w : World)

theorem run_app8_nil (t ty e : TypeId) (i : TypeInfo) (ht : P.underlying t = some (.slice e)) (hi : P.info? e = some i) (base : Nat) (v : Value) (n : Nat) (l : List Int) (hown : Own8 w base e v n l) (c : Nat) :
    (Builtin.append_ #[t, t] ty #[v, .slice none 0 c]).run P w = .ok v w := by
  rcases hown.2 with ⟨rfl, rfl⟩ | ⟨g, cap, cur, rfl, hb, hg, hle, _⟩
  · simp [Builtin.append_, run_underlying ht, sizeOf, typeInfo, hi, Builtin.lenOf, Builtin.firstCells]
  · simp [Builtin.append_, run_underlying ht, sizeOf, typeInfo, hi, Builtin.lenOf, Builtin.firstCells, hle, storeCells]

theorem run_app8 (base : Nat) (t ty e : TypeId) (ht : P.underlying t = some (.slice e)) (hinfo : (P.info? e).map (fun i => (i.zero, i.size, i.bytes)) = some (some (.int .u8 0), 1, 1))
    (v : Value) (n : Nat) (l1 : List Int) (hown : Own8 w base e v n l1) (ad : Option Addr) (m c : Nat) (l2 : List Int) (h2 : Row8 w ad m l2) (hlen : n + m ≤ 100000) (hbase : base ≤ w.heap.size) :
    ∃ a' c' w', (Builtin.append_ #[t, t] ty #[v, .slice ad m c]).run P w = .ok (.slice a' (n + m) c') w' ∧ Own8 w' base e (.slice a' (n + m) c') (n + m) (l1 ++ l2) ∧ Below base w w' := by
  obtain ⟨i, hi, hzz⟩ := Option.map_eq_some_iff.1 hinfo
  simp only [Prod.mk.injEq] at hzz
  obtain ⟨hz, hs, hb⟩ := hzz
  obtain ⟨hl2, _, _, hc2⟩ := h2
  cases ad with
  | none =>
    have hm : m = 0 := by
      rcases Nat.eq_zero_or_pos m with h | h
      · exact h
      · obtain ⟨_, _, h, _⟩ := hc2 0 h; cases h
    subst hm
    obtain rfl : l2 = [] := List.eq_nil_of_length_eq_zero hl2
    obtain ⟨a', c', rfl⟩ := hown.shape
    refine ⟨a', c', w, run_app8_nil w t ty e i ht hi base _ n l1 hown c, ?_, Below.refl _ _⟩
    simpa using hown
  | some x =>
    have hnews : ∀ j u, (l2.map (Value.int .u8))[j]? = some u → w.cell? (x.add j) = some u := by
      intro j u hj
      have hjl : j < l2.length := by
        rcases Nat.lt_or_ge j l2.length with h | h
        · exact h
        · simp [List.getElem?_eq_none h] at hj
      obtain ⟨b, off, e1, hc⟩ := hc2 j (by omega)
      simp only [Option.some.injEq] at e1
      subst e1
      rw [Go.WideShapes.add_plain, hc]
      simpa [List.getElem?_eq_getElem hjl] using hj
    obtain ⟨v', w', hr, h3, h4, _⟩ := run_append_own (P := P) w base t ty e i (.int .u8 0) 1 1 ht hi hz hs hb rfl (by decide) v n _ hown x m c (l2.map (Value.int .u8)) (by simp [hl2]) hnews
      (by intro u hu; obtain ⟨k, _, rfl⟩ := List.mem_map.1 hu; rfl) (by unfold maxLen; omega) (by omega) hbase
    have h5 : Own8 w' base e v' (n + m) (l1 ++ l2) := by unfold Own8; rw [List.map_append]; exact h3
    obtain ⟨a', c', rfl⟩ := h5.shape
    exact ⟨a', c', w', hr, h5, (Below.refl _ _).grown h4 hbase hown.lt⟩

theorem wpList_app8 {ops : Array Oper} {rest : List Oper} {o : Oper} {a : Act} {Q : Exit → Act → World → Prop} (hgd : o.guard = none) (s x : Operand) (t e : TypeId)
    (ho : o.op = .call { callee := .builtin .append, args := #[s, x], argTypes := #[t, t] }) (base : Nat)
    (ht : P.underlying t = some (.slice e)) (hinfo : (P.info? e).map (fun i => (i.zero, i.size, i.bytes)) = some (some (.int .u8 0), 1, 1))
    (v : Value) (n : Nat) (l1 : List Int) (hs : a.eval s = v) (hown : Own8 w base e v n l1) (ad : Option Addr) (m c : Nat) (l2 : List Int) (hx : a.eval x = .slice ad m c) (h2 : Row8 w ad m l2) (k : Nat) (hk : n + m = k) (l3 : List Int) (hl : l1 ++ l2 = l3) (hlen : k ≤ 100000) (hbase : base ≤ w.heap.size)
    (h : ∀ a' c' w', Own8 w' base e (.slice a' k c') k l3 → Below base w w' → wpList P ops Q rest (a.put o.dst (.slice a' k c')) w') : wpList P ops Q (o :: rest) a w := by
  subst hk hl
  refine wpList_plain hgd fun _ hK => ?_
  obtain ⟨a', c', w', hr, h3, h4⟩ := run_app8 (P := P) w base t o.type e ht hinfo v n l1 hown ad m c l2 h2 hlen hbase
  unfold Oper.wp execOp
  simp only [ho, resolve, invoke, builtin, Sem.run_bind, Sem.run_pure, Result.andThen_ok, List.map_toArray, List.map_cons, List.map_nil, hs, hx, hr]
  exact hK _ _ (h a' c' w' h3 h4)
end
end Go.Proofs.Ytbbnlkcacpbfdaa
