/- The walk of the law MetricOrder. -/
import Derived.Test.YtienmcfmaegenaaMatb
namespace Go.Proofs.Ytienmcfmaegenaa
open Go.RowKit

theorem keepS {w W w' : World} {b d h b' d' h' b'' d'' h'' : Int} (hb : Below W.heap.size W w') (hS : W.cell? ⟨w.heap.size, 0, none⟩ = some (.int .i64 b) ∧ W.cell? ⟨w.heap.size, 1, none⟩ = some (.int .i64 d) ∧ W.cell? ⟨w.heap.size, 2, none⟩ = some (.int .i64 h) ∧ W.cell? ⟨w.heap.size + 1, 0, none⟩ = some (.int .i64 b') ∧ W.cell? ⟨w.heap.size + 1, 1, none⟩ = some (.int .i64 d') ∧ W.cell? ⟨w.heap.size + 1, 2, none⟩ = some (.int .i64 h') ∧ W.cell? ⟨w.heap.size + 1 + 1, 0, none⟩ = some (.int .i64 b'') ∧ W.cell? ⟨w.heap.size + 1 + 1, 1, none⟩ = some (.int .i64 d'') ∧ W.cell? ⟨w.heap.size + 1 + 1, 2, none⟩ = some (.int .i64 h'') ∧ w.heap.size + 1 + 1 < W.heap.size) : w'.cell? ⟨w.heap.size, 0, none⟩ = some (.int .i64 b) ∧ w'.cell? ⟨w.heap.size, 1, none⟩ = some (.int .i64 d) ∧ w'.cell? ⟨w.heap.size, 2, none⟩ = some (.int .i64 h) ∧ w'.cell? ⟨w.heap.size + 1, 0, none⟩ = some (.int .i64 b') ∧ w'.cell? ⟨w.heap.size + 1, 1, none⟩ = some (.int .i64 d') ∧ w'.cell? ⟨w.heap.size + 1, 2, none⟩ = some (.int .i64 h') ∧ w'.cell? ⟨w.heap.size + 1 + 1, 0, none⟩ = some (.int .i64 b'') ∧ w'.cell? ⟨w.heap.size + 1 + 1, 1, none⟩ = some (.int .i64 d'') ∧ w'.cell? ⟨w.heap.size + 1 + 1, 2, none⟩ = some (.int .i64 h'') ∧ w.heap.size + 1 + 1 < w'.heap.size := by
  obtain ⟨a0, a1, a2, a3, a4, a5, a6, a7, a8, z⟩ := hS
  exact ⟨(hb.cell (show w.heap.size < _ by omega)).trans a0, (hb.cell (show w.heap.size < _ by omega)).trans a1, (hb.cell (show w.heap.size < _ by omega)).trans a2, (hb.cell (show w.heap.size + 1 < _ by omega)).trans a3, (hb.cell (show w.heap.size + 1 < _ by omega)).trans a4, (hb.cell (show w.heap.size + 1 < _ by omega)).trans a5, (hb.cell z).trans a6, (hb.cell z).trans a7, (hb.cell z).trans a8, Nat.lt_of_lt_of_le z hb.size⟩

theorem keepSet {w W : World} {N : Nat} {x y z : Value} {b d h b' d' h' b'' d'' h'' : Int} (hN : w.heap.size + 1 + 1 < N) (hS : W.cell? ⟨w.heap.size, 0, none⟩ = some (.int .i64 b) ∧ W.cell? ⟨w.heap.size, 1, none⟩ = some (.int .i64 d) ∧ W.cell? ⟨w.heap.size, 2, none⟩ = some (.int .i64 h) ∧ W.cell? ⟨w.heap.size + 1, 0, none⟩ = some (.int .i64 b') ∧ W.cell? ⟨w.heap.size + 1, 1, none⟩ = some (.int .i64 d') ∧ W.cell? ⟨w.heap.size + 1, 2, none⟩ = some (.int .i64 h') ∧ W.cell? ⟨w.heap.size + 1 + 1, 0, none⟩ = some (.int .i64 b'') ∧ W.cell? ⟨w.heap.size + 1 + 1, 1, none⟩ = some (.int .i64 d'') ∧ W.cell? ⟨w.heap.size + 1 + 1, 2, none⟩ = some (.int .i64 h'') ∧ w.heap.size + 1 + 1 < W.heap.size) :
    (((W.setCell ⟨N, 0, none⟩ x).setCell ⟨N, 1, none⟩ y).setCell ⟨N, 2, none⟩ z).cell? ⟨w.heap.size, 0, none⟩ = some (.int .i64 b) ∧ (((W.setCell ⟨N, 0, none⟩ x).setCell ⟨N, 1, none⟩ y).setCell ⟨N, 2, none⟩ z).cell? ⟨w.heap.size, 1, none⟩ = some (.int .i64 d) ∧ (((W.setCell ⟨N, 0, none⟩ x).setCell ⟨N, 1, none⟩ y).setCell ⟨N, 2, none⟩ z).cell? ⟨w.heap.size, 2, none⟩ = some (.int .i64 h) ∧ (((W.setCell ⟨N, 0, none⟩ x).setCell ⟨N, 1, none⟩ y).setCell ⟨N, 2, none⟩ z).cell? ⟨w.heap.size + 1, 0, none⟩ = some (.int .i64 b') ∧ (((W.setCell ⟨N, 0, none⟩ x).setCell ⟨N, 1, none⟩ y).setCell ⟨N, 2, none⟩ z).cell? ⟨w.heap.size + 1, 1, none⟩ = some (.int .i64 d') ∧ (((W.setCell ⟨N, 0, none⟩ x).setCell ⟨N, 1, none⟩ y).setCell ⟨N, 2, none⟩ z).cell? ⟨w.heap.size + 1, 2, none⟩ = some (.int .i64 h') ∧ (((W.setCell ⟨N, 0, none⟩ x).setCell ⟨N, 1, none⟩ y).setCell ⟨N, 2, none⟩ z).cell? ⟨w.heap.size + 1 + 1, 0, none⟩ = some (.int .i64 b'') ∧ (((W.setCell ⟨N, 0, none⟩ x).setCell ⟨N, 1, none⟩ y).setCell ⟨N, 2, none⟩ z).cell? ⟨w.heap.size + 1 + 1, 1, none⟩ = some (.int .i64 d'') ∧ (((W.setCell ⟨N, 0, none⟩ x).setCell ⟨N, 1, none⟩ y).setCell ⟨N, 2, none⟩ z).cell? ⟨w.heap.size + 1 + 1, 2, none⟩ = some (.int .i64 h'') ∧ w.heap.size + 1 + 1 < (((W.setCell ⟨N, 0, none⟩ x).setCell ⟨N, 1, none⟩ y).setCell ⟨N, 2, none⟩ z).heap.size := by
  obtain ⟨a0, a1, a2, a3, a4, a5, a6, a7, a8, z⟩ := hS
  have n0 : N ≠ w.heap.size := by omega
  have n1 : N ≠ w.heap.size + 1 := by omega
  have n2 : N ≠ w.heap.size + 1 + 1 := by omega
  refine ⟨?_, ?_, ?_, ?_, ?_, ?_, ?_, ?_, ?_, ?_⟩
  all_goals simp [go_sem, *]

theorem size_drew (w : World) : w.drew.heap.size = w.heap.size := rfl
theorem newf {W w' : World} (hb : Below (W.alloc (.cells #[.int .i64 0, .int .i64 0, .int .i64 0] 23)).heap.size (W.alloc (.cells #[.int .i64 0, .int .i64 0, .int .i64 0] 23)) w') :
    w'.frozen? ⟨W.heap.size, 0, none⟩ = false ∧ w'.frozen? ⟨W.heap.size, 1, none⟩ = false ∧ w'.frozen? ⟨W.heap.size, 2, none⟩ = false ∧ w'.cell? ⟨W.heap.size, 0, none⟩ = some (.int .i64 0) ∧ w'.cell? ⟨W.heap.size, 1, none⟩ = some (.int .i64 0) ∧ w'.cell? ⟨W.heap.size, 2, none⟩ = some (.int .i64 0) ∧ W.heap.size < w'.heap.size :=
  ⟨by rw [hb.frozen (by simp)]; simp [go_sem], by rw [hb.frozen (by simp)]; simp [go_sem], by rw [hb.frozen (by simp)]; simp [go_sem], by rw [hb.cell (by simp)]; simp [go_sem], by rw [hb.cell (by simp)]; simp [go_sem], by rw [hb.cell (by simp)]; simp [go_sem], by have := hb.size; simp at this; omega⟩
theorem laterf {W w' : World} {N : Nat} (hb : Below W.heap.size W w') (h : W.frozen? ⟨N, 0, none⟩ = false ∧ W.frozen? ⟨N, 1, none⟩ = false ∧ W.frozen? ⟨N, 2, none⟩ = false ∧ W.cell? ⟨N, 0, none⟩ = some (.int .i64 0) ∧ W.cell? ⟨N, 1, none⟩ = some (.int .i64 0) ∧ W.cell? ⟨N, 2, none⟩ = some (.int .i64 0) ∧ N < W.heap.size) :
    w'.frozen? ⟨N, 0, none⟩ = false ∧ w'.frozen? ⟨N, 1, none⟩ = false ∧ w'.frozen? ⟨N, 2, none⟩ = false ∧ w'.cell? ⟨N, 0, none⟩ = some (.int .i64 0) ∧ w'.cell? ⟨N, 1, none⟩ = some (.int .i64 0) ∧ w'.cell? ⟨N, 2, none⟩ = some (.int .i64 0) ∧ N < w'.heap.size := by
  obtain ⟨a0, a1, a2, a3, a4, a5, z⟩ := h
  exact ⟨(hb.frozen z).trans a0, (hb.frozen z).trans a1, (hb.frozen z).trans a2, (hb.cell z).trans a3, (hb.cell z).trans a4, (hb.cell z).trans a5, Nat.lt_of_lt_of_le z hb.size⟩

theorem newfd {W w' : World} (hb : Below (W.alloc (.cells #[.int .i64 0, .int .i64 0, .int .i64 0] 23)).drew.heap.size (W.alloc (.cells #[.int .i64 0, .int .i64 0, .int .i64 0] 23)).drew w') :
    w'.frozen? ⟨W.heap.size, 0, none⟩ = false ∧ w'.frozen? ⟨W.heap.size, 1, none⟩ = false ∧ w'.frozen? ⟨W.heap.size, 2, none⟩ = false ∧ w'.cell? ⟨W.heap.size, 0, none⟩ = some (.int .i64 0) ∧ w'.cell? ⟨W.heap.size, 1, none⟩ = some (.int .i64 0) ∧ w'.cell? ⟨W.heap.size, 2, none⟩ = some (.int .i64 0) ∧ W.heap.size < w'.heap.size := newf ((Below.refl _ _).drew.trans hb)

/-- What a statement 'x := Join(Join(..), ..)' leaves: a vector in a block of its own; of what was there nothing has turned. -/
def Rel (W : World) (X0 X1 X2 : Int) (s : Value) (wx : World) : Prop :=
  ∃ N, s = .pointer (some ⟨N, 0, none⟩) ∧ (wx.cell? ⟨N, 0, none⟩ = some (.int .i64 X0) ∧ wx.cell? ⟨N, 1, none⟩ = some (.int .i64 X1) ∧ wx.cell? ⟨N, 2, none⟩ = some (.int .i64 X2) ∧ N < wx.heap.size) ∧ Below W.heap.size W wx
theorem undrew {W w' : World} (h : Below W.drew.heap.size W.drew w') : Below W.heap.size W w' := (Below.refl _ _).drew.trans h
theorem end1 {W w' w'' : World} {X0 X1 X2 : Int} (hA : Below W.drew.heap.size W.drew w') (hB : Below w'.heap.size w' w'') : Rel W X0 X1 X2 (.pointer (some ⟨w''.heap.size, 0, none⟩)) (w''.alloc (.cells #[.int .i64 X0, .int .i64 X1, .int .i64 X2] 23)) :=
  ⟨_, rfl, new3 w'' _ _ _ 23, stp (stp (undrew hA) hB) (below1 _ _)⟩
theorem set_end {W w'' : World} {N : Nat} {X0 X1 X2 : Int} (h : w''.frozen? ⟨N, 0, none⟩ = false ∧ w''.frozen? ⟨N, 1, none⟩ = false ∧ w''.frozen? ⟨N, 2, none⟩ = false ∧ w''.cell? ⟨N, 0, none⟩ = some (.int .i64 0) ∧ w''.cell? ⟨N, 1, none⟩ = some (.int .i64 0) ∧ w''.cell? ⟨N, 2, none⟩ = some (.int .i64 0) ∧ N < w''.heap.size) (hb : Below W.heap.size W w'') (hN : W.heap.size ≤ N) : Rel W X0 X1 X2 (.pointer (some ⟨N, 0, none⟩)) (((w''.setCell ⟨N, 0, none⟩ (.int .i64 X0)).setCell ⟨N, 1, none⟩ (.int .i64 X1)).setCell ⟨N, 2, none⟩ (.int .i64 X2)) := by
  obtain ⟨a0, a1, a2, a3, a4, a5, z⟩ := h
  refine ⟨_, rfl, ⟨?_, ?_, ?_, ?_⟩, ((hb.setCell hN _).setCell hN _).setCell hN _⟩
  all_goals simp [go_sem, *]
theorem end2 {W w' w'' : World} {X0 X1 X2 : Int} (hA : Below W.drew.heap.size W.drew w') (hB : Below (w'.alloc (.cells #[.int .i64 0, .int .i64 0, .int .i64 0] 23)).heap.size (w'.alloc (.cells #[.int .i64 0, .int .i64 0, .int .i64 0] 23)) w'') : Rel W X0 X1 X2 (.pointer (some ⟨w'.heap.size, 0, none⟩)) (((w''.setCell ⟨w'.heap.size, 0, none⟩ (.int .i64 X0)).setCell ⟨w'.heap.size, 1, none⟩ (.int .i64 X1)).setCell ⟨w'.heap.size, 2, none⟩ (.int .i64 X2)) :=
  set_end (newf hB) (stp1 (undrew hA) hB) (undrew hA).size
theorem end3 {W w' w'' : World} {X0 X1 X2 : Int} (hA : Below (W.alloc (.cells #[.int .i64 0, .int .i64 0, .int .i64 0] 23)).drew.heap.size (W.alloc (.cells #[.int .i64 0, .int .i64 0, .int .i64 0] 23)).drew w') (hB : Below w'.heap.size w' w'') : Rel W X0 X1 X2 (.pointer (some ⟨W.heap.size, 0, none⟩)) (((w''.setCell ⟨W.heap.size, 0, none⟩ (.int .i64 X0)).setCell ⟨W.heap.size, 1, none⟩ (.int .i64 X1)).setCell ⟨W.heap.size, 2, none⟩ (.int .i64 X2)) :=
  set_end (laterf hB (newfd hA)) (stp (stp1 (Below.refl _ _) (undrew hA)) hB) (Nat.le_refl _)

set_option maxHeartbeats 2000000 in
theorem order_in (b d h b' d' h' b'' d'' h'' B1 D1 H1 B2 D2 H2 B3 D3 H3 X0 X1 X2 : Int) (w : World) (p0 : -9223372036854775808 ≤ d) (p1 : d ≤ 9223372036854775807) (q0 : -9223372036854775808 ≤ h) (q1 : h ≤ 9223372036854775807) (r0 : -9223372036854775808 ≤ d') (r1 : d' ≤ 9223372036854775807) (s0 : -9223372036854775808 ≤ h') (s1 : h' ≤ 9223372036854775807) (t0 : -9223372036854775808 ≤ d'') (t1 : d'' ≤ 9223372036854775807) (u0 : -9223372036854775808 ≤ h'') (u1 : h'' ≤ 9223372036854775807) (i0 : -9223372036854775808 ≤ D1) (i1 : D1 ≤ 9223372036854775807) (j0 : -9223372036854775808 ≤ H1) (j1 : H1 ≤ 9223372036854775807) (k0 : -9223372036854775808 ≤ D2) (k1 : D2 ≤ 9223372036854775807) (l0 : -9223372036854775808 ≤ H2) (l1 : H2 ≤ 9223372036854775807) (m0 : -9223372036854775808 ≤ D3) (m1 : D3 ≤ 9223372036854775807) (n0 : -9223372036854775808 ≤ H3) (n1 : H3 ≤ 9223372036854775807)
    (m : mayB b d h = true) (m' : mayB b' d' h' = true) (m'' : mayB b'' d'' h'' = true)
    (J1 : Hid (min b b' = B1 ∧ addI d d' 16777216 = D1 ∧ addI h h' 100 = H1)) (K1 : Hid (min B1 b'' = X0 ∧ addI D1 d'' 16777216 = X1 ∧ addI H1 h'' 100 = X2))
    (J2 : Hid (min b b'' = B2 ∧ addI d d'' 16777216 = D2 ∧ addI h h'' 100 = H2)) (K2 : Hid (min B2 b' = X0 ∧ addI D2 d' 16777216 = X1 ∧ addI H2 h' 100 = X2))
    (J3 : Hid (min b' b'' = B3 ∧ addI d' d'' 16777216 = D3 ∧ addI h' h'' 100 = H3)) (K3 : Hid (min b B3 = X0 ∧ addI d D3 16777216 = X1 ∧ addI h H3 100 = X2)) :
    Calls Try.prog 7 #[.agg #[.int .i64 b, .int .i64 d, .int .i64 h], .agg #[.int .i64 b', .int .i64 d', .int .i64 h'], .agg #[.int .i64 b'', .int .i64 d'', .int .i64 h'']] w fun e w' => e = .returned (.bool true) ∧ Below w.heap.size w w' := by
  go_enter Try.func7, Try.ntmps7
  go_wp2_with (first
    | (go_at_call 11; refine (awake_any _).mono ?_; rintro e w1 ⟨rfl, hb⟩; obtain ⟨⟨c0, c1, c2, z0⟩, ⟨c3, c4, c5, z1⟩, ⟨c6, c7, c8, z2⟩⟩ := box3 hb; have hB := Below.out3 hb; clear hb)
    | (go_at_call 14; refine (may_any _ _ _ _ (by assumption)).mono ?_; rintro e w2 ⟨rfl, hb⟩; obtain ⟨c0, c1, c2, z0⟩ := later3 ⟨c0, c1, c2, z0⟩ hb; obtain ⟨c3, c4, c5, z1⟩ := later3 ⟨c3, c4, c5, z1⟩ hb; obtain ⟨c6, c7, c8, z2⟩ := later3 ⟨c6, c7, c8, z2⟩ hb; have hB := stp hB hb; clear hb))
  have z2d : w.heap.size + 1 + 1 < w2.drew.heap.size := z2
  go_cut [8] from 26 (fun s wx => Rel w2 X0 X1 X2 s wx)
  case first =>
    go_region_held3 (fun w' => w'.cell? ⟨w.heap.size, 0, none⟩ = some (.int .i64 b) ∧ w'.cell? ⟨w.heap.size, 1, none⟩ = some (.int .i64 d) ∧ w'.cell? ⟨w.heap.size, 2, none⟩ = some (.int .i64 h) ∧ w'.cell? ⟨w.heap.size + 1, 0, none⟩ = some (.int .i64 b') ∧ w'.cell? ⟨w.heap.size + 1, 1, none⟩ = some (.int .i64 d') ∧ w'.cell? ⟨w.heap.size + 1, 2, none⟩ = some (.int .i64 h') ∧ w'.cell? ⟨w.heap.size + 1 + 1, 0, none⟩ = some (.int .i64 b'') ∧ w'.cell? ⟨w.heap.size + 1 + 1, 1, none⟩ = some (.int .i64 d'') ∧ w'.cell? ⟨w.heap.size + 1 + 1, 2, none⟩ = some (.int .i64 h'') ∧ w.heap.size + 1 + 1 < w'.heap.size)
        (first | with_reducible exact keepS hbB (by assumption) | with_reducible exact keepS hbA (by assumption) | with_reducible exact keepS (below1 _ _) (by assumption) | with_reducible exact keepS (below1 _ _) (keepS hbB kA) | with_reducible exact keepSet (by assumption) (by assumption) | go_keep)
        (first
          | (go_at_call_of 12 (Value.agg #[Value.int IntKind.i64 b', Value.int IntKind.i64 d', Value.int IntKind.i64 h']); refine (join_any b d h b' d' h' _ p0 p1 q0 q1 r0 r1 s0 s1 J1.out.1 J1.out.2.1 J1.out.2.2).mono ?_; rintro e w' ⟨rfl, hbA⟩; have kA := keepS hbA (by assumption); have zA := kA.2.2.2.2.2.2.2.2.2; (try (have nfA := newf hbA; obtain ⟨v0A, v1A, v2A, v3A, v4A, v5A, v6A⟩ := nfA)); (try (have nfA := newfd hbA; obtain ⟨v0A, v1A, v2A, v3A, v4A, v5A, v6A⟩ := nfA)); (try (have nfA := laterf hbA ⟨v0A, v1A, v2A, v3A, v4A, v5A, v6A⟩; obtain ⟨v0A, v1A, v2A, v3A, v4A, v5A, v6A⟩ := nfA)))
          | (go_at_call_of 12 (Value.agg #[Value.int IntKind.i64 b'', Value.int IntKind.i64 d'', Value.int IntKind.i64 h'']); refine (join_any B1 D1 H1 b'' d'' h'' _ i0 i1 j0 j1 t0 t1 u0 u1 K1.out.1 K1.out.2.1 K1.out.2.2).mono ?_; rintro e w' ⟨rfl, hbB⟩; have kB := keepS hbB (by assumption); have zB := kB.2.2.2.2.2.2.2.2.2; (try (have nfB := newf hbB; obtain ⟨v0A, v1A, v2A, v3A, v4A, v5A, v6A⟩ := nfB)); (try (have nfB := newfd hbB; obtain ⟨v0A, v1A, v2A, v3A, v4A, v5A, v6A⟩ := nfB)); (try (have nfB := laterf hbB ⟨v0A, v1A, v2A, v3A, v4A, v5A, v6A⟩; obtain ⟨v0A, v1A, v2A, v3A, v4A, v5A, v6A⟩ := nfB))))
    all_goals
      go_wp2_with fail
      go_meet
      first | with_reducible exact end1 hbA hbB | with_reducible exact end2 hbA hbB | with_reducible exact end3 hbA hbB
  case rest =>
    obtain ⟨N8, rfl, p8, hb8⟩ := hcut
    obtain ⟨c0, c1, c2, c3, c4, c5, c6, c7, c8, z2⟩ := keepS hb8 ⟨c0, c1, c2, c3, c4, c5, c6, c7, c8, z2⟩
    have hB := stp hB hb8
    have z2d : w.heap.size + 1 + 1 < wc.drew.heap.size := z2
    go_wp2
    go_cut [9] from 31 (fun s wx => Rel wc X0 X1 X2 s wx)
    case first =>
      go_region_held3 (fun w' => w'.cell? ⟨w.heap.size, 0, none⟩ = some (.int .i64 b) ∧ w'.cell? ⟨w.heap.size, 1, none⟩ = some (.int .i64 d) ∧ w'.cell? ⟨w.heap.size, 2, none⟩ = some (.int .i64 h) ∧ w'.cell? ⟨w.heap.size + 1, 0, none⟩ = some (.int .i64 b') ∧ w'.cell? ⟨w.heap.size + 1, 1, none⟩ = some (.int .i64 d') ∧ w'.cell? ⟨w.heap.size + 1, 2, none⟩ = some (.int .i64 h') ∧ w'.cell? ⟨w.heap.size + 1 + 1, 0, none⟩ = some (.int .i64 b'') ∧ w'.cell? ⟨w.heap.size + 1 + 1, 1, none⟩ = some (.int .i64 d'') ∧ w'.cell? ⟨w.heap.size + 1 + 1, 2, none⟩ = some (.int .i64 h'') ∧ w.heap.size + 1 + 1 < w'.heap.size)
          (first | with_reducible exact keepS hbB (by assumption) | with_reducible exact keepS hbA (by assumption) | with_reducible exact keepS (below1 _ _) (by assumption) | with_reducible exact keepS (below1 _ _) (keepS hbB kA) | with_reducible exact keepSet (by assumption) (by assumption) | go_keep)
          (first
            | (go_at_call_of 12 (Value.agg #[Value.int IntKind.i64 b'', Value.int IntKind.i64 d'', Value.int IntKind.i64 h'']); refine (join_any b d h b'' d'' h'' _ p0 p1 q0 q1 t0 t1 u0 u1 J2.out.1 J2.out.2.1 J2.out.2.2).mono ?_; rintro e w' ⟨rfl, hbA⟩; have kA := keepS hbA (by assumption); have zA := kA.2.2.2.2.2.2.2.2.2; (try (have nfA := newf hbA; obtain ⟨v0A, v1A, v2A, v3A, v4A, v5A, v6A⟩ := nfA)); (try (have nfA := newfd hbA; obtain ⟨v0A, v1A, v2A, v3A, v4A, v5A, v6A⟩ := nfA)); (try (have nfA := laterf hbA ⟨v0A, v1A, v2A, v3A, v4A, v5A, v6A⟩; obtain ⟨v0A, v1A, v2A, v3A, v4A, v5A, v6A⟩ := nfA)))
            | (go_at_call_of 12 (Value.agg #[Value.int IntKind.i64 b', Value.int IntKind.i64 d', Value.int IntKind.i64 h']); refine (join_any B2 D2 H2 b' d' h' _ k0 k1 l0 l1 r0 r1 s0 s1 K2.out.1 K2.out.2.1 K2.out.2.2).mono ?_; rintro e w' ⟨rfl, hbB⟩; have kB := keepS hbB (by assumption); have zB := kB.2.2.2.2.2.2.2.2.2; (try (have nfB := newf hbB; obtain ⟨v0A, v1A, v2A, v3A, v4A, v5A, v6A⟩ := nfB)); (try (have nfB := newfd hbB; obtain ⟨v0A, v1A, v2A, v3A, v4A, v5A, v6A⟩ := nfB)); (try (have nfB := laterf hbB ⟨v0A, v1A, v2A, v3A, v4A, v5A, v6A⟩; obtain ⟨v0A, v1A, v2A, v3A, v4A, v5A, v6A⟩ := nfB))))
      all_goals
        go_wp2_with fail
        go_meet
        first | with_reducible exact end1 hbA hbB | with_reducible exact end2 hbA hbB | with_reducible exact end3 hbA hbB
    case rest =>
      obtain ⟨N9, rfl, p9, hb9⟩ := hcut
      obtain ⟨c0, c1, c2, c3, c4, c5, c6, c7, c8, z2⟩ := keepS hb9 ⟨c0, c1, c2, c3, c4, c5, c6, c7, c8, z2⟩
      have hB := stp hB hb9
      have z2d : w.heap.size + 1 + 1 < wc.drew.heap.size := z2
    
      have p8 := later3 p8 hb9
      go_wp2
      go_cut [10] from 36 (fun s wx => Rel wc X0 X1 X2 s wx)
      case first =>
        go_region_held3 (fun w' => w'.cell? ⟨w.heap.size, 0, none⟩ = some (.int .i64 b) ∧ w'.cell? ⟨w.heap.size, 1, none⟩ = some (.int .i64 d) ∧ w'.cell? ⟨w.heap.size, 2, none⟩ = some (.int .i64 h) ∧ w'.cell? ⟨w.heap.size + 1, 0, none⟩ = some (.int .i64 b') ∧ w'.cell? ⟨w.heap.size + 1, 1, none⟩ = some (.int .i64 d') ∧ w'.cell? ⟨w.heap.size + 1, 2, none⟩ = some (.int .i64 h') ∧ w'.cell? ⟨w.heap.size + 1 + 1, 0, none⟩ = some (.int .i64 b'') ∧ w'.cell? ⟨w.heap.size + 1 + 1, 1, none⟩ = some (.int .i64 d'') ∧ w'.cell? ⟨w.heap.size + 1 + 1, 2, none⟩ = some (.int .i64 h'') ∧ w.heap.size + 1 + 1 < w'.heap.size)
            (first | with_reducible exact keepS hbB (by assumption) | with_reducible exact keepS hbA (by assumption) | with_reducible exact keepS (below1 _ _) (by assumption) | with_reducible exact keepS (below1 _ _) (keepS hbB kA) | with_reducible exact keepSet (by assumption) (by assumption) | go_keep)
            (first
              | (go_at_call_of 12 (Value.agg #[Value.int IntKind.i64 b', Value.int IntKind.i64 d', Value.int IntKind.i64 h']); refine (join_any b' d' h' b'' d'' h'' _ r0 r1 s0 s1 t0 t1 u0 u1 J3.out.1 J3.out.2.1 J3.out.2.2).mono ?_; rintro e w' ⟨rfl, hbA⟩; have kA := keepS hbA (by assumption); have zA := kA.2.2.2.2.2.2.2.2.2; (try (have nfA := newf hbA; obtain ⟨v0A, v1A, v2A, v3A, v4A, v5A, v6A⟩ := nfA)); (try (have nfA := newfd hbA; obtain ⟨v0A, v1A, v2A, v3A, v4A, v5A, v6A⟩ := nfA)); (try (have nfA := laterf hbA ⟨v0A, v1A, v2A, v3A, v4A, v5A, v6A⟩; obtain ⟨v0A, v1A, v2A, v3A, v4A, v5A, v6A⟩ := nfA)))
              | (go_at_call_of 12 (Value.agg #[Value.int IntKind.i64 b, Value.int IntKind.i64 d, Value.int IntKind.i64 h]); refine (join_any b d h B3 D3 H3 _ p0 p1 q0 q1 m0 m1 n0 n1 K3.out.1 K3.out.2.1 K3.out.2.2).mono ?_; rintro e w' ⟨rfl, hbB⟩; have kB := keepS hbB (by assumption); have zB := kB.2.2.2.2.2.2.2.2.2; (try (have nfB := newf hbB; obtain ⟨v0A, v1A, v2A, v3A, v4A, v5A, v6A⟩ := nfB)); (try (have nfB := newfd hbB; obtain ⟨v0A, v1A, v2A, v3A, v4A, v5A, v6A⟩ := nfB)); (try (have nfB := laterf hbB ⟨v0A, v1A, v2A, v3A, v4A, v5A, v6A⟩; obtain ⟨v0A, v1A, v2A, v3A, v4A, v5A, v6A⟩ := nfB))))
        all_goals
          go_wp2_with fail
          go_meet
          first | with_reducible exact end1 hbA hbB | with_reducible exact end2 hbA hbB | with_reducible exact end3 hbA hbB
      case rest =>
        obtain ⟨N10, rfl, p10, hb10⟩ := hcut
        obtain ⟨c0, c1, c2, c3, c4, c5, c6, c7, c8, z2⟩ := keepS hb10 ⟨c0, c1, c2, c3, c4, c5, c6, c7, c8, z2⟩
        have hB := stp hB hb10
        have z2d : w.heap.size + 1 + 1 < wc.drew.heap.size := z2
      
        obtain ⟨e0, e1, e2, y0⟩ := later3 p8 hb10
        obtain ⟨e3, e4, e5, y1⟩ := later3 p9 hb10
        obtain ⟨e6, e7, e8, y2⟩ := p10
        go_wp2
        go_ret
        exact ⟨rfl, hB⟩
set_option maxHeartbeats 1000000 in
theorem law_order (b d h b' d' h' b'' d'' h'' : Int) (w : World) :
    Calls Try.prog 7 #[.agg #[.int .i64 b, .int .i64 d, .int .i64 h], .agg #[.int .i64 b', .int .i64 d', .int .i64 h'], .agg #[.int .i64 b'', .int .i64 d'', .int .i64 h'']] w fun e w' => e = .returned (.bool true) ∧ Below w.heap.size w w' := by
  have hc : mayB b d h = false ∨ (mayB b d h = true ∧ mayB b' d' h' = false) ∨ (mayB b d h = true ∧ mayB b' d' h' = true ∧ mayB b'' d'' h'' = false) ∨ (mayB b d h = true ∧ mayB b' d' h' = true ∧ mayB b'' d'' h'' = true) := by
    cases mayB b d h <;> cases mayB b' d' h' <;> cases mayB b'' d'' h'' <;> simp
  rcases hc with m | ⟨m, m'⟩ | ⟨m, m', n⟩ | ⟨m, m', n⟩
  case inr.inr.inr =>
    have q := may_iff.1 m
    have q' := may_iff.1 m'
    have q'' := may_iff.1 n
    have i1 := may_iff.1 (join_may m m')
    have i2 := may_iff.1 (join_may m n)
    have i3 := may_iff.1 (join_may m' n)
    obtain ⟨o0, o1⟩ := order_min b b' b''
    obtain ⟨o2, o3⟩ := order_add (a := d) (b := d') (c := d'') (m := 16777216) (by omega) (by omega) (by omega) (by omega)
    obtain ⟨o4, o5⟩ := order_add (a := h) (b := h') (c := h'') (m := 100) (by omega) (by omega) (by omega) (by omega)
    exact order_in b d h b' d' h' b'' d'' h'' _ _ _ _ _ _ _ _ _ _ _ _ w (by omega) (by omega) (by omega) (by omega) (by omega) (by omega) (by omega) (by omega) (by omega) (by omega) (by omega) (by omega) (by omega) (by omega) (by omega) (by omega) (by omega) (by omega) (by omega) (by omega) (by omega) (by omega) (by omega) (by omega) m m' n ⟨rfl, rfl, rfl⟩ ⟨rfl, rfl, rfl⟩ ⟨rfl, rfl, rfl⟩ ⟨o0.symm, o2.symm, o4.symm⟩ ⟨rfl, rfl, rfl⟩ ⟨o1.symm, o3.symm, o5.symm⟩
  all_goals
    go_enter Try.func7, Try.ntmps7
    go_wp2_with (first
      | (go_at_call 11; refine (awake_any _).mono ?_; rintro e w1 ⟨rfl, hb⟩; obtain ⟨⟨c0, c1, c2, z0⟩, ⟨c3, c4, c5, z1⟩, ⟨c6, c7, c8, z2⟩⟩ := box3 hb; have hB := Below.out3 hb; clear hb)
      | (go_at_call 14; refine (may_any _ _ _ _ (by assumption)).mono ?_; rintro e w2 ⟨rfl, hb⟩; obtain ⟨c0, c1, c2, z0⟩ := later3 ⟨c0, c1, c2, z0⟩ hb; obtain ⟨c3, c4, c5, z1⟩ := later3 ⟨c3, c4, c5, z1⟩ hb; obtain ⟨c6, c7, c8, z2⟩ := later3 ⟨c6, c7, c8, z2⟩ hb; have hB := stp hB hb; clear hb))
    go_ret
    exact ⟨rfl, hB⟩
end Go.Proofs.Ytienmcfmaegenaa
