/- A struct of a struct of two numbers and a number, as a key. No program is named here. -/
import Derived.DeepKeys4
import Derived.Maps.Keyed
import Derived.Test.YtcabeclbdjfoaaaRowR
import Derived.Test.YtcabeclbdjfoaaaKeepA
import Derived.Test.YtcabeclbdjfoaaaRibF
namespace Go.Proofs.Ytcabeclbdjfoaaa
open Go.ChangeShapes Go.WideShapes Go.WideMaps

theorem wf_u32 {n : Int} (h0 : 0 ≤ n) (h1 : n < 4294967296) : (Lit.int .u32 n).wf = true := by
  have e1 : IntKind.u32.min = 0 := by decide
  have e2 : IntKind.u32.max = 4294967295 := by decide
  simp only [Lit.wf, e1, e2, Bool.and_eq_true, decide_eq_true_eq]
  omega
theorem wf_i64 {n : Int} (h0 : -9223372036854775808 ≤ n) (h1 : n ≤ 9223372036854775807) : (Lit.int .i64 n).wf = true := by
  have e1 : IntKind.i64.min = -9223372036854775808 := by decide
  have e2 : IntKind.i64.max = 9223372036854775807 := by decide
  simp only [Lit.wf, e1, e2, Bool.and_eq_true, decide_eq_true_eq]
  omega
theorem key_gen {P : Program} {kt pt ut it : TypeId} {f1 f2 g1 g2 : Field} (h1 : P.underlying kt = some (.struct #[f1, f2])) (h2 : P.underlying pt = some (.struct #[g1, g2])) (h3 : P.underlying ut = some (.int .u32)) (h4 : P.underlying it = some (.int .i64))
    (t1 : f1.type = pt) (o1 : f1.offset = 0) (t2 : f2.type = it) (o2 : f2.offset = 2) (s1 : g1.type = ut) (p1 : g1.offset = 0) (s2 : g2.type = it) (p2 : g2.offset = 1) (b1 : (f1.name != "_") = true) (b2 : (f2.name != "_") = true) (b3 : (g1.name != "_") = true) (b4 : (g2.name != "_") = true)
    (hk : P.keyType kt = true) (c1 : P.cellsOf kt = 3) (c2 : P.cellsOf pt = 2) (c3 : P.cellsOf ut = 1) (c4 : P.cellsOf it = 1) {n : Nat} (hn : P.types.size = n + 2) {a l d : Int} (w1 : (Lit.int .u32 a).wf = true) (w2 : (Lit.int .i64 l).wf = true) (w3 : (Lit.int .i64 d).wf = true) :
    ∃ s, keyOf P kt (.agg #[.int .u32 a, .int .i64 l, .int .i64 d]) = some s := by
  have e2 : ∀ m, P.keyLits (m + 2) pt [.int .u32 a, .int .i64 l] = some [.int .u32 a, .int .i64 l] := by
    intro m
    simp [Program.keyLits, h2, c2, s1, p1, s2, p2, b3, b4, c3, c4, h3, h4, w1, w2]
  have e1 : ∀ m, P.keyLits (m + 3) kt [.int .u32 a, .int .i64 l, .int .i64 d] = some [.int .u32 a, .int .i64 l, .int .i64 d] := by
    intro m
    have e3 : P.keyLits (m + 2) it [.int .i64 d] = some [.int .i64 d] := by simp [Program.keyLits, h4, w3]
    unfold Program.keyLits
    simp only [h1]
    simp [c1, t1, o1, t2, o2, b1, b2, c2, c4, e2 m, e3]
  have hf : (Value.agg #[.int .u32 a, .int .i64 l, .int .i64 d]).formed P kt = true := by simp [Value.formed, h1, c1]
  unfold keyOf
  rw [h1]
  simp [hk, hf, hn, Value.cells, e1 n]
end Go.Proofs.Ytcabeclbdjfoaaa
/- Maps whose keys are structs (a prefix and a number), whose elements are routes. -/
namespace Go.Proofs.Ytcabeclbdjfoaaa
open Go.RowKit Go.ChangeShapes Go.WideShapes Go.WideMaps

abbrev keyV (k : Ky) : Value := .agg #[.int .u32 k.a, .int .i64 k.l, .int .i64 k.d]
theorem laidOutK : laidOutB Try.prog = true := by kernel_rfl
theorem rowK : (67 : TypeId) < Try.prog.types.size := of_decide_eq_true (by kernel_rfl)
theorem wideK : (match Try.prog.underlying 67 with | some (.array _ _) | some (.struct _) => true | _ => false) = true := by rw [Try.underlying67]
theorem lawK : KeyLaw Try.prog 67 := deep_law_laid laidOutK (m := 3) (by omega) rowK (by kernel_rfl) wideK
structure Ky.Ok (k : Ky) : Prop where
  a0 : 0 ≤ k.a
  a1 : k.a < 4294967296
  l0 : -9223372036854775808 ≤ k.l
  l1 : k.l ≤ 9223372036854775807
  d0 : -9223372036854775808 ≤ k.d
  d1 : k.d ≤ 9223372036854775807
theorem key_ok {k : Ky} (h : k.Ok) : ∃ s, keyOf Try.prog 67 (keyV k) = some s := by
  have h2 : (67 : Nat) < Try.prog.types.size := rowK
  obtain ⟨n, hn⟩ : ∃ n, Try.prog.types.size = n + 2 := ⟨Try.prog.types.size - 2, by omega⟩
  exact key_gen Try.underlying67 Try.underlying24 Try.underlying22 Try.underlying3 rfl rfl rfl rfl rfl rfl rfl rfl (by decide) (by decide) (by decide) (by decide) (by kernel_rfl) (by kernel_rfl) (by kernel_rfl) (by kernel_rfl) (by kernel_rfl) hn (wf_u32 h.a0 h.a1) (wf_i64 h.l0 h.l1) (wf_i64 h.d0 h.d1)
end Go.Proofs.Ytcabeclbdjfoaaa
/- The map of the routes in memory, and what a look-up, a store, a delete do: in whatever world has the block. -/
namespace Go.Proofs.Ytcabeclbdjfoaaa
open Go.RowKit Go.ChangeShapes Go.WideShapes Go.WideMaps

/-- The entries are those routes, by their keys. -/
def EsOf (es : Array MapEntry) (rs : List Rt) : Prop := es.toList.map (fun e => (e.key, e.val)) = rs.map fun r => (keyV r.k, valRt r)
theorem keyV_inj {k k' : Ky} (h : keyV k = keyV k') : k = k' := by
  simp only [keyV, Value.agg.injEq] at h
  injection h with h
  simp only [List.cons.injEq, Value.int.injEq, true_and, and_true] at h
  exact ky_ext h.1 h.2.1 h.2.2
theorem Rt.Ok.ky {r : Rt} (h : r.Ok) : r.k.Ok := ⟨h.a0, h.a1, h.l0, h.l1, h.d0, h.d1⟩
theorem EsOf.len {es : Array MapEntry} {rs : List Rt} (h : EsOf es rs) : es.size = rs.length := by
  have := congrArg List.length h
  simpa using this
theorem EsOf.at {es : Array MapEntry} {rs : List Rt} (h : EsOf es rs) {j : Nat} {e : MapEntry} (he : es.toList[j]? = some e) : ∃ r, rs[j]? = some r ∧ e.key = keyV r.k ∧ e.val = valRt r := by
  have h1 := congrArg (fun l => l[j]?) h
  simp only [List.getElem?_map, he, Option.map_some] at h1
  cases hr : rs[j]? with
  | none => rw [hr] at h1; simp at h1
  | some r =>
    rw [hr] at h1
    simp only [Option.map_some, Option.some.injEq, Prod.mk.injEq] at h1
    exact ⟨r, rfl, h1.1, h1.2⟩
theorem EsOf.back {es : Array MapEntry} {rs : List Rt} (h : EsOf es rs) {j : Nat} {r : Rt} (hr : rs[j]? = some r) : ∃ e, es.toList[j]? = some e ∧ e.key = keyV r.k ∧ e.val = valRt r := by
  have hl : j < es.toList.length := by
    have := (List.getElem?_eq_some_iff.1 hr).1
    rw [Array.length_toList, h.len]; exact this
  obtain ⟨r', h1, h2, h3⟩ := h.at (List.getElem?_eq_getElem hl)
  rw [hr] at h1
  simp only [Option.some.injEq] at h1
  subst h1
  exact ⟨_, List.getElem?_eq_getElem hl, h2, h3⟩
theorem EsOf.keys {es : Array MapEntry} {rs : List Rt} (h : EsOf es rs) (hR : Rts rs) : ∀ e ∈ es.toList, ∃ l, keyOf Try.prog 67 e.key = some l := by
  intro e he
  obtain ⟨j, hj, rfl⟩ := List.getElem_of_mem he
  obtain ⟨r, h1, h2, -⟩ := h.at (List.getElem?_eq_getElem hj)
  rw [h2]
  exact key_ok (hR r (List.mem_of_getElem? h1)).ky
theorem zeroR (W : World) : (zeroValue 27).run Try.prog W = .ok (valR 0 0 0 0 0 0 0) W := by kernel_rfl
theorem uniq_at {rs : List Rt} (hn : (rs.map Rt.k).Nodup) {i j : Nat} {p q : Rt} (hp : rs[i]? = some p) (hq : rs[j]? = some q) (h : p.k = q.k) : i = j := by
  obtain ⟨hi, hpi⟩ := List.getElem?_eq_some_iff.1 hp
  obtain ⟨hj, hqj⟩ := List.getElem?_eq_some_iff.1 hq
  rw [List.Nodup, List.pairwise_iff_getElem] at hn
  rcases Nat.lt_trichotomy i j with h1 | h1 | h1
  · exact absurd (by rw [List.getElem_map, List.getElem_map, hpi, hqj]; exact h) (hn i j (by simpa using hi) (by simpa using hj) h1)
  · exact h1
  · exact absurd (by rw [List.getElem_map, List.getElem_map, hpi, hqj]; exact h.symm) (hn j i (by simpa using hj) (by simpa using hi) h1)

section
variable {es : Array MapEntry} {rs : List Rt} {b clock : Nat} {k : Ky}
theorem find_none9 (h : EsOf es rs) (hR : Rts rs) (hk : k.Ok) (hf : ∀ r ∈ rs, r.k ≠ k) (W : World) : (Instr.findKey 67 (keyV k) es.toList).run Try.prog W = .ok none W := by
  obtain ⟨s, hs⟩ := key_ok hk
  rcases lawK.find W hs es.toList (h.keys hR) with ⟨h1, -⟩ | ⟨j, e, h1, h2, h3⟩
  · exact h1
  · obtain ⟨r, g1, g2, -⟩ := h.at h2
    exact absurd (keyV_inj (g2.symm.trans h3)) (hf r (List.mem_of_getElem? g1))
theorem find_some9 (h : EsOf es rs) (hR : Rts rs) (hn : (rs.map Rt.k).Nodup) (hk : k.Ok) {j : Nat} {r : Rt} (hr : rs[j]? = some r) (he : r.k = k) (W : World) : (Instr.findKey 67 (keyV k) es.toList).run Try.prog W = .ok (some (j, valRt r)) W := by
  obtain ⟨s, hs⟩ := key_ok hk
  rcases lawK.find W hs es.toList (h.keys hR) with ⟨h1, h2⟩ | ⟨j', e, h1, h2, h3⟩
  · obtain ⟨e, g1, g2, -⟩ := h.back hr
    exact absurd (g2.trans (by rw [he])) (h2 e (List.mem_of_getElem? g1))
  · obtain ⟨r', g1, g2, g3⟩ := h.at h2
    have hk' := keyV_inj (g2.symm.trans h3)
    obtain rfl := uniq_at hn g1 hr (hk'.trans he.symm)
    rw [hr] at g1
    simp only [Option.some.injEq] at g1
    subst g1
    rw [h1, g3]
theorem look_none (h : EsOf es rs) (hR : Rts rs) (hk : k.Ok) (hf : ∀ r ∈ rs, r.k ≠ k) (W : World) (hb : W.heap[b]? = some (.map es clock)) :
    (Instr.lookup 61 (.map (some b)) (keyV k) true).run Try.prog W = .ok (.tuple #[valR 0 0 0 0 0 0 0, .bool false]) W := by
  obtain ⟨s, hs⟩ := key_ok hk
  simp [Instr.lookup, run_underlying Try.underlying61, MapKept.run_getObj_map hb, lawK.check W _ hs, find_none9 h hR hk hf W, zeroR W, Result.andThen]
theorem look_some (h : EsOf es rs) (hR : Rts rs) (hn : (rs.map Rt.k).Nodup) (hk : k.Ok) {j : Nat} {r : Rt} (hr : rs[j]? = some r) (he : r.k = k) (W : World) (hb : W.heap[b]? = some (.map es clock)) :
    (Instr.lookup 61 (.map (some b)) (keyV k) true).run Try.prog W = .ok (.tuple #[valRt r, .bool true]) W := by
  obtain ⟨s, hs⟩ := key_ok hk
  simp [Instr.lookup, run_underlying Try.underlying61, MapKept.run_getObj_map hb, lawK.check W _ hs, find_some9 h hR hn hk hr he W, Result.andThen]
theorem look_plain (h : EsOf es rs) (hR : Rts rs) (hn : (rs.map Rt.k).Nodup) (hk : k.Ok) {j : Nat} {r : Rt} (hr : rs[j]? = some r) (he : r.k = k) (W : World) (hb : W.heap[b]? = some (.map es clock)) :
    (Instr.lookup 61 (.map (some b)) (keyV k) false).run Try.prog W = .ok (valRt r) W := by
  obtain ⟨s, hs⟩ := key_ok hk
  simp [Instr.lookup, run_underlying Try.underlying61, MapKept.run_getObj_map hb, lawK.check W _ hs, find_some9 h hR hn hk hr he W, Result.andThen]
/-- The entries behind a store: anew, or in the place of an older one. -/
def pushE (es : Array MapEntry) (k : Ky) (x : Rt) (clock : Nat) : Array MapEntry := es.push ⟨keyV k, valRt x, clock⟩
def setE (es : Array MapEntry) (k : Ky) (x : Rt) (j : Nat) : Array MapEntry := es.modify j fun e' => { e' with key := keyV k, val := valRt x }
open Go.ChangeMaps (setBlock modify_eq_set map_eraseIdx)
theorem store_new (h : EsOf es rs) (hR : Rts rs) (hk : k.Ok) (hf : ∀ r ∈ rs, r.k ≠ k) (x : Rt) (W : World) (hb : W.heap[b]? = some (.map es clock)) :
    (Instr.mapUpdate 61 (.map (some b)) (keyV k) (valRt x)).run Try.prog W = .ok () (setBlock W b (.map (pushE es k x clock) (clock + 1))) := by
  obtain ⟨s, hs⟩ := key_ok hk
  simp [Instr.mapUpdate, run_underlying Try.underlying61, MapKept.run_getObj_map hb, lawK.check W false hs, find_none9 h hR hk hf W, MapKept.run_setObj_map _ hb, Result.andThen, setBlock, pushE]
theorem store_old (h : EsOf es rs) (hR : Rts rs) (hn : (rs.map Rt.k).Nodup) (hk : k.Ok) {j : Nat} {r : Rt} (hr : rs[j]? = some r) (he : r.k = k) (x : Rt) (W : World) (hb : W.heap[b]? = some (.map es clock)) :
    (Instr.mapUpdate 61 (.map (some b)) (keyV k) (valRt x)).run Try.prog W = .ok () (setBlock W b (.map (setE es k x j) clock)) := by
  obtain ⟨s, hs⟩ := key_ok hk
  obtain ⟨e0, g1, g2, -⟩ := h.back hr
  have hj : es[j]? = some e0 := by simpa using g1
  rw [he] at g2
  simp [Instr.mapUpdate, run_underlying Try.underlying61, MapKept.run_getObj_map hb, lawK.check W false hs, find_some9 h hR hn hk hr he W, hj, g2, lawK.stays W hs, MapKept.run_setObj_map _ hb, Result.andThen, setBlock, setE]
theorem drop_old (h : EsOf es rs) (hR : Rts rs) (hn : (rs.map Rt.k).Nodup) (hk : k.Ok) {j : Nat} {r : Rt} (hr : rs[j]? = some r) (he : r.k = k) (ty : TypeId) (W : World) (hb : W.heap[b]? = some (.map es clock)) :
    (Builtin.delete_ #[61, 67] ty #[.map (some b), keyV k]).run Try.prog W = .ok (.tuple #[]) (setBlock W b (.map (es.eraseIdxIfInBounds j) clock)) := by
  obtain ⟨s, hs⟩ := key_ok hk
  simp [Builtin.delete_, run_underlying Try.underlying61, MapKept.run_getObj_map hb, lawK.check W _ hs, find_some9 h hR hn hk hr he W, MapKept.run_setObj_map _ hb, Result.andThen, setBlock]
theorem EsOf.push (h : EsOf es rs) (x : Rt) (he : x.k = k) (c : Nat) : EsOf (pushE es k x c) (rs ++ [x]) := by
  unfold EsOf at *
  simp [pushE, h, he]
theorem EsOf.set (h : EsOf es rs) (x : Rt) (he : x.k = k) {j : Nat} (hj : j < rs.length) : EsOf (setE es k x j) (rs.set j x) := by
  have hl : j < es.toList.length := by rw [Array.length_toList, h.len]; exact hj
  unfold EsOf at *
  rw [setE, Array.toList_modify, modify_eq_set _ _ _ _ (List.getElem?_eq_getElem hl), List.map_set, h, List.map_set]
  simp [he]
theorem EsOf.erase (h : EsOf es rs) {j : Nat} (hj : j < rs.length) : EsOf (es.eraseIdxIfInBounds j) (rs.eraseIdx j) := by
  have hl : j < es.size := by rw [h.len]; exact hj
  unfold EsOf at *
  unfold Array.eraseIdxIfInBounds
  rw [dif_pos hl]
  simp only [Array.toList_eraseIdx]
  rw [map_eraseIdx, h, map_eraseIdx]
end
theorem esOf_nil : EsOf #[] [] := rfl
end Go.Proofs.Ytcabeclbdjfoaaa
/- len and delete of a map, as steps of a region that draws its order. -/
namespace Go.Proofs.Ytcabeclbdjfoaaa
open Go.RowKit

theorem run_lenM {b : Nat} {es : Array MapEntry} {clock : Nat} (ty : TypeId) (w : World) (hb : w.heap[b]? = some (.map es clock)) : (Builtin.len_ #[61] ty #[.map (some b)]).run Try.prog w = .ok (.int .i64 (es.size : Int)) w := by
  simp [Builtin.len_, run_underlying Try.underlying61, MapKept.run_getObj_map hb, Result.andThen, goInt]
theorem step_lenM {ops : Array Oper} {o : Oper} {a : Act} {w : World} {K : Act → World → Prop} {Q : Exit → Act → World → Prop} {E : Prop} (hgd : o.guard = none) (mo : Operand)
    (ho : o.op = .call { callee := .builtin .len, args := #[mo], argTypes := #[61] }) (b : Nat) (es : Array MapEntry) (clock : Nat) (hm : a.eval mo = .map (some b)) (hb : w.heap[b]? = some (.map es clock)) (h : K (a.put o.dst (.int .i64 (es.size : Int))) w) :
    if Region.wanted o (yielded ops a.tmps) = true then Oper.wp Try.prog o a w K Q else E := by
  have hw : Region.wanted o (yielded ops a.tmps) = true := by simp [Region.wanted, hgd]
  rw [if_pos hw]
  have hr := run_lenM o.type w hb
  unfold Oper.wp execOp
  simp only [ho, resolve, invoke, builtin, Sem.run_bind, Sem.run_pure, Result.andThen_ok, List.map_toArray, List.map_cons, List.map_nil, hm, hr]
  exact h
theorem step_delM {ops : Array Oper} {o : Oper} {a : Act} {w w' : World} {K : Act → World → Prop} {Q : Exit → Act → World → Prop} {E : Prop} (hgd : o.guard = none) (mo ko : Operand)
    (ho : o.op = .call { callee := .builtin .delete, args := #[mo, ko], argTypes := #[61, 67] }) (b : Nat) (k : Value) (hm : a.eval mo = .map (some b)) (hk : a.eval ko = k) (hr : ∀ ty, (Builtin.delete_ #[61, 67] ty #[.map (some b), k]).run Try.prog w = .ok (.tuple #[]) w') (h : K (a.put o.dst (.tuple #[])) w') :
    if Region.wanted o (yielded ops a.tmps) = true then Oper.wp Try.prog o a w K Q else E := by
  have hw : Region.wanted o (yielded ops a.tmps) = true := by simp [Region.wanted, hgd]
  rw [if_pos hw]
  have hr := hr o.type
  unfold Oper.wp execOp
  simp only [ho, resolve, invoke, builtin, Sem.run_bind, Sem.run_pure, Result.andThen_ok, List.map_toArray, List.map_cons, List.map_nil, hm, hk, hr]
  exact h
end Go.Proofs.Ytcabeclbdjfoaaa
