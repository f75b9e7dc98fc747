/- Contract of the program's Better. -/
import Derived.Test.YtcabeclbdjfoaaaProL
namespace Go.Proofs.Ytcabeclbdjfoaaa
open Go.RowKit

theorem wrap_in {x : Int} (h0 : -9223372036854775808 ≤ x) (h1 : x ≤ 9223372036854775807) : IntKind.i64.wrap x = x := by
  simp [IntKind.wrap, IntKind.signed, IntKind.bits]; omega
theorem size_al (W : World) (o : Obj) : W.heap.size < (W.alloc o).heap.size := by simp
theorem six_at (W : World) (g : Nat) (hg : g = W.heap.size) (T : TypeId) (a0 b0 a1 b1 a2 b2 a3 b3 a4 b4 a5 b5 : Int) :
    ∀ i x, [(a0, b0), (a1, b1), (a2, b2), (a3, b3), (a4, b4), (a5, b5)][i]? = some x →
      (W.alloc (.cells #[.int .i64 a0, .int .i64 b0, .int .i64 a1, .int .i64 b1, .int .i64 a2, .int .i64 b2, .int .i64 a3, .int .i64 b3, .int .i64 a4, .int .i64 b4, .int .i64 a5, .int .i64 b5] T)).drew.cell? ⟨g, i * 2, none⟩ = some (.int .i64 x.1) ∧
      (W.alloc (.cells #[.int .i64 a0, .int .i64 b0, .int .i64 a1, .int .i64 b1, .int .i64 a2, .int .i64 b2, .int .i64 a3, .int .i64 b3, .int .i64 a4, .int .i64 b4, .int .i64 a5, .int .i64 b5] T)).drew.cell? ⟨g, i * 2 + 1, none⟩ = some (.int .i64 x.2) := by
  subst hg; exact six_cells W T a0 b0 a1 b1 a2 b2 a3 b3 a4 b4 a5 b5
set_option maxHeartbeats 4000000 in
theorem better_any (a l d s m n a' l' d' s' m' n' : Int) (t t' : Nat) (w : World) (ht : t < 65536) (ht' : t' < 65536) {v : Bool} (hv : bet ⟨a, l, d, s, m, n, t⟩ ⟨a', l', d', s', m', n', t'⟩ = v) :
    Calls Try.prog 13 #[valR a l d s m n t, valR a' l' d' s' m' n' t'] w fun e w' => e = .returned (.bool v) ∧ Below w.heap.size w w' := by
  obtain ⟨u, hu⟩ : ∃ u, u = dep t := ⟨_, rfl⟩
  obtain ⟨u', hu'⟩ : ∃ u, u = dep t' := ⟨_, rfl⟩
  have HV : Hid (lsP [((u : Int), (u' : Int)), (s, s'), (m, m'), (d, d'), (n, n'), ((t : Int), (t' : Int))] = v) := by
    unfold Hid; rw [← hv, hu, hu']; exact bet_six
  have c1 := depth_any t
  have c2 := depth_any t'
  rw [← hu] at c1
  rw [← hu'] at c2
  clear hv hu hu'
  obtain ⟨⟨x0, x1, x2, x3, x4, x5, x6⟩, ⟨y0, y1, y2, y3, y4, y5, y6⟩, hB⟩ := two_R w a l d s m n t a' l' d' s' m' n' t' (Below.refl _ _)
  simp only [Nat.zero_add] at x0 x1 x2 x3 x4 x5 x6 y0 y1 y2 y3 y4 y5 y6
  have HF : Hid (∀ w', Below (w2R w a l d s m n t a' l' d' s' m' n' t').heap.size (w2R w a l d s m n t a' l' d' s' m' n' t') w' → w'.cell? ⟨w.heap.size, 2, none⟩ = some (.int .i64 d) ∧ w'.cell? ⟨w.heap.size, 3, none⟩ = some (.int .i64 s) ∧ w'.cell? ⟨w.heap.size, 4, none⟩ = some (.int .i64 m) ∧ w'.cell? ⟨w.heap.size, 5, none⟩ = some (.int .i64 n) ∧ w'.cell? ⟨w.heap.size, 6, none⟩ = some (.int .u16 t) ∧
      w'.cell? ⟨w.heap.size + 1, 2, none⟩ = some (.int .i64 d') ∧ w'.cell? ⟨w.heap.size + 1, 3, none⟩ = some (.int .i64 s') ∧ w'.cell? ⟨w.heap.size + 1, 4, none⟩ = some (.int .i64 m') ∧ w'.cell? ⟨w.heap.size + 1, 5, none⟩ = some (.int .i64 n') ∧ w'.cell? ⟨w.heap.size + 1, 6, none⟩ = some (.int .u16 t')) := fun w' hb => ⟨cell_later hb x2, cell_later hb x3, cell_later hb x4, cell_later hb x5, cell_later hb x6, cell_later hb y2, cell_later hb y3, cell_later hb y4, cell_later hb y5, cell_later hb y6⟩
  have HG : Hid (w.heap.size + 1 + 1 = (w2R w a l d s m n t a' l' d' s' m' n' t').heap.size) := by unfold Hid; simp
  have h6 : 6 ≤ 100 := by omega
  have ew : IntKind.i64.wrap (t : Int) = (t : Int) := wrap_in (by omega) (by omega)
  have ew' : IntKind.i64.wrap (t' : Int) = (t' : Int) := wrap_in (by omega) (by omega)
  go_enter Try.func13, Try.ntmps13
  go_wp2
  go_region_held3 (fun w' => w'.cell? ⟨w.heap.size, 2, none⟩ = some (.int .i64 d) ∧ w'.cell? ⟨w.heap.size, 3, none⟩ = some (.int .i64 s) ∧ w'.cell? ⟨w.heap.size, 4, none⟩ = some (.int .i64 m) ∧ w'.cell? ⟨w.heap.size, 5, none⟩ = some (.int .i64 n) ∧ w'.cell? ⟨w.heap.size, 6, none⟩ = some (.int .u16 t) ∧
      w'.cell? ⟨w.heap.size + 1, 2, none⟩ = some (.int .i64 d') ∧ w'.cell? ⟨w.heap.size + 1, 3, none⟩ = some (.int .i64 s') ∧ w'.cell? ⟨w.heap.size + 1, 4, none⟩ = some (.int .i64 m') ∧ w'.cell? ⟨w.heap.size + 1, 5, none⟩ = some (.int .i64 n') ∧ w'.cell? ⟨w.heap.size + 1, 6, none⟩ = some (.int .u16 t'))
    (first | go_keep | exact HF.out _ ((below1 (w2R w a l d s m n t a' l' d' s' m' n' t') _).drew.trans (hb.mono (Nat.le_of_lt (size_al _ _)))))
    (first
      | (go_at_call_of 29 (Value.int .u16 (t : Int)); refine (c1 _ ht).mono ?_; rintro e w' ⟨rfl, rfl⟩)
      | (go_at_call_of 29 (Value.int .u16 (t' : Int)); refine (c2 _ ht').mono ?_; rintro e w' ⟨rfl, rfl⟩)
      | (go_at_call 31; refine (isLess_any _ 6 _ [((u : Int), (u' : Int)), (s, s'), (m, m'), (d, d'), (n, n'), ((t : Int), (t' : Int))] _ rfl (six_at (w2R w a l d s m n t a' l' d' s' m' n' t') _ HG.out _ _ _ _ _ _ _ _ _ _ _ _ _) h6).mono ?_; rintro e w' ⟨rfl, hb⟩))
  go_wp2
  go_ret
  exact ⟨ret_bool HV.out, (below3 _ _ _ _).drew.trans (hb.mono (by simp; omega))⟩
end Go.Proofs.Ytcabeclbdjfoaaa
