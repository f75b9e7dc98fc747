/- What the operations of a region that answers a part yield. -/
import Derived.Test.YtakikkigkmcffaaReg2
import Derived.Test.YtakikkigkmcffaaCD6
namespace Go.Proofs.Ytakikkigkmcffaa
open Go.RowKit

theorem ld41 {W : World} {P : Nat} {z y : Int} (p0 : W.cell? ⟨P, 0, none⟩ = some (.int .u32 z)) (p1 : W.cell? ⟨P, 1, none⟩ = some (.int .i64 y)) : Sem.run Try.prog (Instr.loadAt 41 (.pointer (some ⟨P, 0, none⟩))) W = .ok (.agg #[.int .u32 z, .int .i64 y]) W := by
  go_simp
theorem ld5 {W : World} {p : Addr} {x : Int} (h : W.cell? p = some (.int .u8 x)) : Sem.run Try.prog (Instr.loadAt 5 (.pointer (some p))) W = .ok (.int .u8 x) W := by
  go_simp
theorem ld42 {W : World} {p : Addr} {x : Int} (h : W.cell? p = some (.int .u64 x)) : Sem.run Try.prog (Instr.loadAt 42 (.pointer (some p))) W = .ok (.int .u64 x) W := by
  go_simp
theorem fa60 (W : World) (N : Nat) : Sem.run Try.prog (Instr.fieldAt 60 (.pointer (some ⟨N, 0, none⟩)) 0) W = .ok (.pointer (some ⟨N, 0, none⟩)) W := by
  go_simp
theorem fa48 (W : World) (N : Nat) : Sem.run Try.prog (Instr.fieldAt 48 (.pointer (some ⟨N, 0, none⟩)) 1) W = .ok (.pointer (some ⟨N, 1, none⟩)) W := by
  go_simp
/-- Words of values, by their places. -/
def relV (l : List (Value → Prop)) (i : Nat) (v : Value) : Prop := ((l[i]?).getD fun _ => True) v
theorem bd44s (W : World) (s z y r h : Int) : Sem.run Try.prog (Instr.build 44 #[(0, .int .i64 4), (1, .int .u16 s), (4, .agg #[.int .u32 z, .int .i64 y]), (5, .int .u64 r), (7, .int .i64 h)]) W = .ok (valT 4 s 0 0 z y r 0 h) W := by
  go_simp
theorem bd44u (W : World) (s i c z y r t : Int) : Sem.run Try.prog (Instr.build 44 #[(0, .int .i64 2), (1, .int .u16 s), (2, .int .i64 i), (3, .int .i64 c), (4, .agg #[.int .u32 z, .int .i64 y]), (5, .int .u64 r), (6, .int .u16 t)]) W = .ok (valT 2 s i c z y r t 0) W := by
  go_simp
/-- A part in a block, its cells turned one by one. -/
abbrev put9 (W : World) (M : Nat) (k s i c a l r t h : Int) : World := ((((((((W.setCell ⟨M, 0, none⟩ (.int .i64 k)).setCell ⟨M, 1, none⟩ (.int .u16 s)).setCell ⟨M, 2, none⟩ (.int .i64 i)).setCell ⟨M, 3, none⟩ (.int .i64 c)).setCell ⟨M, 4, none⟩ (.int .u32 a)).setCell ⟨M, 5, none⟩ (.int .i64 l)).setCell ⟨M, 6, none⟩ (.int .u64 r)).setCell ⟨M, 7, none⟩ (.int .u16 t)).setCell ⟨M, 8, none⟩ (.int .i64 h)
theorem st44 {W : World} {M : Nat} {p : Tlv} (hT : T9 W M 0 p) (nf : ∀ o, W.frozen? ⟨M, o, none⟩ = false) (k s i c a l r t h : Int) : Sem.run Try.prog (Instr.storeAt 44 (.pointer (some ⟨M, 0, none⟩)) (valT k s i c a l r t h)) W = .ok () (put9 W M k s i c a l r t h) := by
  obtain ⟨c0, c1, c2, c3, c4, c5, c6, c7, c8⟩ := hT.z
  go_simp
theorem put9_T {W : World} {M : Nat} {p : Tlv} (hT : T9 W M 0 p) (k s i c a l r t h : Int) : T9 (put9 W M k s i c a l r t h) M 0 ⟨k, s, i, c, a, l, r, t, h⟩ := by
  obtain ⟨c0, c1, c2, c3, c4, c5, c6, c7, c8⟩ := hT.z
  unfold T9
  simp [go_sem, c0, c1, c2, c3, c4, c5, c6, c7, c8]
theorem put9_b {w W : World} {B M : Nat} (h : Below B w W) (hM : B ≤ M) (k s i c a l r t h' : Int) : Below B w (put9 W M k s i c a l r t h') :=
  ((((((((h.setCell (p := ⟨M, 0, none⟩) hM _).setCell (p := ⟨M, 1, none⟩) hM _).setCell (p := ⟨M, 2, none⟩) hM _).setCell (p := ⟨M, 3, none⟩) hM _).setCell (p := ⟨M, 4, none⟩) hM _).setCell (p := ⟨M, 5, none⟩) hM _).setCell (p := ⟨M, 6, none⟩) hM _).setCell (p := ⟨M, 7, none⟩) hM _).setCell (p := ⟨M, 8, none⟩) hM _
theorem idx25 (W : World) (b off n cap k : Nat) (h : k < n) : Sem.run Try.prog (Instr.indexAt 25 (.slice (some ⟨b, off, none⟩) n cap) (.int .i64 (k : Int))) W = .ok (.pointer (some ⟨b, off + k, none⟩)) W := by
  have h' : (k : Int) < (n : Int) := by omega
  go_simp
theorem eq0 (W : World) (q : Nat) (x y : Operand) : Sem.run Try.prog (do eqGuard .eql 3 x y (.int .i64 (q : Int)) (.int .i64 0); binOp .eql 3 (.int .i64 (q : Int)) (.int .i64 0)) W = .ok (.bool (decide (q = 0))) W := by
  by_cases hq : q = 0
  · subst hq; go_simp
  · have e : ((q : Int) == 0) = false := by rw [beq_eq_false_iff_ne]; omega
    go_simp
theorem cv8 (W : World) {x : Int} (h0 : 0 ≤ x) (h1 : x ≤ 65535) : Sem.run Try.prog (convert 5 3 (.int .u8 x)) W = .ok (.int .i64 x) W := by
  have e : IntKind.i64.wrap x = x := wrap_in (by omega) (by omega)
  go_simp
theorem cv16 (W : World) {x : Int} (h0 : 0 ≤ x) (h1 : x ≤ 65535) : Sem.run Try.prog (convert 39 3 (.int .u16 x)) W = .ok (.int .i64 x) W := by
  have e : IntKind.i64.wrap x = x := wrap_in (by omega) (by omega)
  go_simp
section
variable {R : Nat → Value → Prop} {a : Act} {W : World} {o : Oper} {i : Nat} {pre : Bool} {Q : Exit → Act → World → Prop}
theorem sv_len (d : Tmp) (ra : Option Addr) (q c : Nat) (ho : o.op = .call { callee := .builtin .len, args := #[.tmp d], argTypes := #[25] }) (hv : a.tmps[d]?.getD undef = .slice ra q c) (hR : R i (.int .i64 (q : Int))) : o.wp Try.prog a W (NxtS R pre i o a W) Q := by
  refine wp_value (.int .i64 (q : Int)) W ?_ ⟨_, rfl, hR, .inl rfl⟩
  unfold execOp
  simp [ho, hv, resolve, invoke, go_sem]
end
/-- Two answers: a part in a block, and a bool. -/
theorem res_two {fn : Func} {A : Act} {c s : Nat} {W : World} {M : Nat} {k sq i co a l r t h : Int} {v : Bool} (hr : fn.results = #[.cell c 44, .tmp s]) (hc : A.tmps[c]?.getD undef = .pointer (some ⟨M, 0, none⟩)) (hcs : s ≠ c) (hs : s < A.tmps.size) (hT : T9 W M 0 ⟨k, sq, i, co, a, l, r, t, h⟩) :
    (results fn (A.put (some s) (.bool v)).tmps).run Try.prog W = .ok (.tuple #[valT k sq i co a l r t h, .bool v]) W := by
  obtain ⟨c0, c1, c2, c3, c4, c5, c6, c7, c8⟩ := hT.z
  have h1 : (A.put (some s) (.bool v)).tmps[c]?.getD undef = .pointer (some ⟨M, 0, none⟩) := by
    unfold Act.put
    simp only [Array.getElem?_setIfInBounds_ne hcs]
    exact hc
  have h2 : (A.put (some s) (.bool v)).tmps[s]?.getD undef = .bool v := by
    unfold Act.put
    simp [hs]
  generalize (A.put (some s) (.bool v)).tmps = T at h1 h2 ⊢
  unfold results
  simp [hr, h1, h2, go_sem, c0, c1, c2, c3, c4, c5, c6, c7, c8]
end Go.Proofs.Ytakikkigkmcffaa
