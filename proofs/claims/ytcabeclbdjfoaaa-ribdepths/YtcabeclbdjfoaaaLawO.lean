/- The laws RibDepths and RibOrder over what is asked of the program's table. -/
import Derived.Test.YtcabeclbdjfoaaaLawS
namespace Go.Proofs.Ytcabeclbdjfoaaa
open Go.RowKit

section
variable {RB : World → (Nat → Prop) → Addr → Int → List Rt → Int → Nat → Prop}
set_option maxHeartbeats 2000000 in
theorem law_depths (C : RibC RB) (x y : Rt) (w : World) (hx : x.Ok) (hy : y.Ok) :
    Calls Try.prog 8 #[valRt x, valRt y] w fun e w' => e = .returned (.bool true) ∧ Below w.heap.size w w' := by
  have HC : Hid (RibC RB) := C
  have HX : Hid (x.Ok) := hx
  have HY : Hid (y.Ok) := hy
  obtain ⟨T, hT, hT1⟩ := ok_nat hx
  obtain ⟨U, hU, hU1⟩ := ok_nat hy
  obtain ⟨a, l, d, s, m, n, t⟩ := x
  obtain ⟨a', l', d', s', m', n', t'⟩ := y
  simp only at hT hU
  subst hT hU
  have H0 : Hid (Two9 w ⟨a, l, d, s, m, n, T⟩ ⟨a', l', d', s', m', n', U⟩ ((w.alloc (objR a l d s m n T)).alloc (objR a' l' d' s' m' n' U))) := Two9.new w a l d s m n T a' l' d' s' m' n' U
  have HB : Hid (dep T < dep U → bet ⟨a, l, d, s, m, n, T⟩ ⟨a', l', d', s', m', n', U⟩ = true ∧ bet ⟨a', l', d', s', m', n', U⟩ ⟨a, l, d, s, m, n, T⟩ = false) := fun h => by
    have h1 : (⟨a, l, d, s, m, n, T⟩ : Rt).lt ⟨a', l', d', s', m', n', U⟩ := Rt.lt_dep (by simpa [dpt_nat] using h)
    exact ⟨bet_iff.2 h1, bet_false.2 (Rt.lt_asym h1)⟩
  have c1 := fun W => depth_any T W hT1
  have c2 := fun W => depth_any U W hU1
  obtain ⟨dT, hdT⟩ : ∃ k, dep T = k := ⟨_, rfl⟩
  obtain ⟨dU, hdU⟩ : ∃ k, dep U = k := ⟨_, rfl⟩
  rw [hdT] at c1
  rw [hdU] at c2
  rw [hdT, hdU] at HB
  have HMk : Hid True := trivial
  clear C hx hy hdT hdU
  by_cases hlt : dT < dU
  · have ht : ((dT : Int) ≥ (dU : Int)) = False := by simp; omega
    have ht' : ¬ (dT : Int) ≥ (dU : Int) := by omega
    have HBB := HB.out hlt
    have HB1 : Hid (_) := HBB.1
    have HB2 : Hid (_) := HBB.2
    clear HBB HB
    go_enter Try.func8, Try.ntmps8
    go_wp2_with (go_at_call 11; refine (awake_any HC.out _).mono ?_; rintro e W1 ⟨rfl, hb1⟩; have H1 := H0.out.later hb1; obtain ⟨x0, x1, x2, x3, x4, x5, x6⟩ := H1.1.z; obtain ⟨y0, y1, y2, y3, y4, y5, y6⟩ := H1.2.1.z)
    go_quiet ((first | (go_at_call_of 29 (Value.int IntKind.u16 (T : Int)); exact Calls.quiet_of_same (c1 _)) | (go_at_call_of 29 (Value.int IntKind.u16 (U : Int)); exact Calls.quiet_of_same (c2 _))))
    have H2 := H1.later (below_drewN (Below.refl _ _) nq)
    go_wp2_with (first
      | (go_at_call 13; have HMk' := HMk; clear HMk HMk'; refine (HC.out.better ⟨a, l, d, s, m, n, T⟩ ⟨a', l', d', s', m', n', U⟩ _ HX.out HY.out).mono ?_; rw [HB1.out]; rintro e W4 ⟨rfl, hb4⟩; have H4 := H2.later hb4; obtain ⟨x0, x1, x2, x3, x4, x5, x6⟩ := H4.1.z; obtain ⟨y0, y1, y2, y3, y4, y5, y6⟩ := H4.2.1.z)
      | (go_at_call 13; refine (HC.out.better ⟨a', l', d', s', m', n', U⟩ ⟨a, l, d, s, m, n, T⟩ _ HY.out HX.out).mono ?_; rw [HB2.out]; rintro e W5 ⟨rfl, hb5⟩; have H5 := H4.later hb5))
    go_ret
    exact ⟨rfl, H5.2.2⟩
  · have ht' : (dT : Int) ≥ (dU : Int) := by omega
    go_enter Try.func8, Try.ntmps8
    go_wp2_with (go_at_call 11; refine (awake_any HC.out _).mono ?_; rintro e W1 ⟨rfl, hb1⟩; have H1 := H0.out.later hb1; obtain ⟨x0, x1, x2, x3, x4, x5, x6⟩ := H1.1.z; obtain ⟨y0, y1, y2, y3, y4, y5, y6⟩ := H1.2.1.z)
    go_quiet ((first | (go_at_call_of 29 (Value.int IntKind.u16 (T : Int)); exact Calls.quiet_of_same (c1 _)) | (go_at_call_of 29 (Value.int IntKind.u16 (U : Int)); exact Calls.quiet_of_same (c2 _))))
    go_wp2
    go_ret
    exact ⟨rfl, below_drewN H1.2.2 _⟩
/-- Three routes in boxes. -/
structure Three9 (w : World) (x y z : Rt) (W : World) : Prop where
  x : R7 W w.heap.size 0 x
  y : R7 W (w.heap.size + 1) 0 y
  z : R7 W (w.heap.size + 2) 0 z
  fy : ∀ o, W.frozen? ⟨w.heap.size + 1, o, none⟩ = false
  fz : ∀ o, W.frozen? ⟨w.heap.size + 2, o, none⟩ = false
  s : w.heap.size + 3 ≤ W.heap.size
  b : Below w.heap.size w W
theorem Three9.new (w : World) (a l d s m n t a' l' d' s' m' n' t' a2 l2 d2 s2 m2 n2 t2 : Int) : Three9 w ⟨a, l, d, s, m, n, t⟩ ⟨a', l', d', s', m', n', t'⟩ ⟨a2, l2, d2, s2, m2, n2, t2⟩ (((w.alloc (objR a l d s m n t)).alloc (objR a' l' d' s' m' n' t')).alloc (objR a2 l2 d2 s2 m2 n2 t2)) :=
  ⟨((R7.new w a l d s m n t).later (below1 _ _)).later (below1 _ _), ((R7.newAt (w.alloc (objR a l d s m n t)) (w.heap.size + 1) (by simp) a' l' d' s' m' n' t')).later (below1 _ _), R7.newAt ((w.alloc (objR a l d s m n t)).alloc (objR a' l' d' s' m' n' t')) (w.heap.size + 2) (by simp) a2 l2 d2 s2 m2 n2 t2, fun o => by simp [go_sem], fun o => by simp [go_sem], by simp, below3 _ _ _ _⟩
theorem Three9.later {w : World} {x y z : Rt} {W W' : World} (h : Three9 w x y z W) (hb : Below W.heap.size W W') : Three9 w x y z W' :=
  ⟨h.x.later hb, h.y.later hb, h.z.later hb, fun o => (hb.frozen (p := ⟨w.heap.size + 1, o, none⟩) (by have := h.s; show w.heap.size + 1 < _; omega)).trans (h.fy o), fun o => (hb.frozen (p := ⟨w.heap.size + 2, o, none⟩) (by have := h.s; show w.heap.size + 2 < _; omega)).trans (h.fz o), Nat.le_trans h.s hb.size, stp h.b hb⟩
theorem R7.set01 {W : World} {b : Nat} {a l d s m n t : Int} (h : R7 W b 0 ⟨a, l, d, s, m, n, t⟩) (a' l' : Int) : R7 ((W.setCell ⟨b, 0, none⟩ (.int .u32 a')).setCell ⟨b, 1, none⟩ (.int .i64 l')) b 0 ⟨a', l', d, s, m, n, t⟩ := by
  obtain ⟨h0, h1, h2, h3, h4, h5, h6⟩ := h.z
  have g1 : (W.setCell ⟨b, 0, none⟩ (.int .u32 a')).cell? ⟨b, 1, none⟩ = some (.int .i64 l) := (World.cell?_setCell_other _ _ _ _ (by simp)).trans h1
  refine ⟨?_, ?_, ?_, ?_, ?_, ?_, ?_⟩
  · exact (World.cell?_setCell_other _ _ _ _ (by simp)).trans (World.cell?_setCell_same _ _ _ h0)
  · exact World.cell?_setCell_same _ _ _ g1
  · exact (World.cell?_setCell_other _ _ _ _ (by simp)).trans ((World.cell?_setCell_other _ _ _ _ (by simp)).trans h2)
  · exact (World.cell?_setCell_other _ _ _ _ (by simp)).trans ((World.cell?_setCell_other _ _ _ _ (by simp)).trans h3)
  · exact (World.cell?_setCell_other _ _ _ _ (by simp)).trans ((World.cell?_setCell_other _ _ _ _ (by simp)).trans h4)
  · exact (World.cell?_setCell_other _ _ _ _ (by simp)).trans ((World.cell?_setCell_other _ _ _ _ (by simp)).trans h5)
  · exact (World.cell?_setCell_other _ _ _ _ (by simp)).trans ((World.cell?_setCell_other _ _ _ _ (by simp)).trans h6)
theorem R7.off {W : World} {b c : Nat} {x : Rt} (h : R7 W b 0 x) (hc : b ≠ c) (u v : Value) : R7 ((W.setCell ⟨c, 0, none⟩ u).setCell ⟨c, 1, none⟩ v) b 0 x :=
  h.far fun o => (World.cell?_setCell_other _ _ _ _ (by simp <;> omega)).trans (World.cell?_setCell_other _ _ _ _ (by simp <;> omega))
theorem Three9.setY {w : World} {x z : Rt} {a l d s m n t : Int} {W : World} (h : Three9 w x ⟨a, l, d, s, m, n, t⟩ z W) (a' l' : Int) : Three9 w x ⟨a', l', d, s, m, n, t⟩ z ((W.setCell ⟨w.heap.size + 1, 0, none⟩ (.int .u32 a')).setCell ⟨w.heap.size + 1, 1, none⟩ (.int .i64 l')) :=
  ⟨h.x.off (by omega) _ _, h.y.set01 a' l', h.z.off (by omega) _ _, fun o => by rw [World.frozen?_setCell, World.frozen?_setCell]; exact h.fy o, fun o => by rw [World.frozen?_setCell, World.frozen?_setCell]; exact h.fz o, by simpa [World.setCell] using h.s, (h.b.setCell (p := ⟨w.heap.size + 1, 0, none⟩) (Nat.le_succ _) _).setCell (p := ⟨w.heap.size + 1, 1, none⟩) (Nat.le_succ _) _⟩
theorem Three9.setZ {w : World} {x y : Rt} {a l d s m n t : Int} {W : World} (h : Three9 w x y ⟨a, l, d, s, m, n, t⟩ W) (a' l' : Int) : Three9 w x y ⟨a', l', d, s, m, n, t⟩ ((W.setCell ⟨w.heap.size + 2, 0, none⟩ (.int .u32 a')).setCell ⟨w.heap.size + 2, 1, none⟩ (.int .i64 l')) :=
  ⟨h.x.off (by omega) _ _, h.y.off (by omega) _ _, h.z.set01 a' l', fun o => by rw [World.frozen?_setCell, World.frozen?_setCell]; exact h.fy o, fun o => by rw [World.frozen?_setCell, World.frozen?_setCell]; exact h.fz o, by simpa [World.setCell] using h.s, (h.b.setCell (p := ⟨w.heap.size + 2, 0, none⟩) (by show w.heap.size ≤ w.heap.size + 2; omega) _).setCell (p := ⟨w.heap.size + 2, 1, none⟩) (by show w.heap.size ≤ w.heap.size + 2; omega) _⟩
set_option maxHeartbeats 4000000 in
theorem law_order (C : RibC RB) (x y z : Rt) (w : World) (hx : x.Ok) (hy : y.Ok) (hz : z.Ok) :
    Calls Try.prog 5 #[valRt x, valRt y, valRt z] w fun e w' => e = .returned (.bool true) ∧ Below w.heap.size w w' := by
  have HC : Hid (RibC RB) := C
  have HX : Hid (x.Ok) := hx
  have HY : Hid (y.Ok) := hy
  have HZ : Hid (z.Ok) := hz
  obtain ⟨T, hT, hT1⟩ := ok_nat hx
  obtain ⟨U, hU, hU1⟩ := ok_nat hy
  obtain ⟨V, hV, hV1⟩ := ok_nat hz
  obtain ⟨a, l, d, s, m, n, t⟩ := x
  obtain ⟨a', l', d', s', m', n', t'⟩ := y
  obtain ⟨a2, l2, d2, s2, m2, n2, t2⟩ := z
  simp only at hT hU hV
  subst hT hU hV
  have H0 : Hid (Three9 w ⟨a, l, d, s, m, n, T⟩ ⟨a', l', d', s', m', n', U⟩ ⟨a2, l2, d2, s2, m2, n2, V⟩ (((w.alloc (objR a l d s m n T)).alloc (objR a' l' d' s' m' n' U)).alloc (objR a2 l2 d2 s2 m2 n2 V))) := Three9.new w a l d s m n T a' l' d' s' m' n' U a2 l2 d2 s2 m2 n2 V
  have HY4 : Hid (Rt.Ok ⟨a, l, d', s', m', n', U⟩) := ⟨hx.a0, hx.a1, hx.l0, hx.l1, hy.d0, hy.d1, hy.s0, hy.s1, hy.m0, hy.m1, hy.n0, hy.n1, hy.t0, hy.t1⟩
  have HZ4 : Hid (Rt.Ok ⟨a, l, d2, s2, m2, n2, V⟩) := ⟨hx.a0, hx.a1, hx.l0, hx.l1, hz.d0, hz.d1, hz.s0, hz.s1, hz.m0, hz.m1, hz.n0, hz.n1, hz.t0, hz.t1⟩
  obtain ⟨p, hp⟩ : ∃ p, bet ⟨a, l, d, s, m, n, T⟩ ⟨a, l, d', s', m', n', U⟩ = p := ⟨_, rfl⟩
  obtain ⟨p', hp'⟩ : ∃ p, bet ⟨a, l, d', s', m', n', U⟩ ⟨a, l, d, s, m, n, T⟩ = p := ⟨_, rfl⟩
  obtain ⟨q, hq⟩ : ∃ p, bet ⟨a, l, d', s', m', n', U⟩ ⟨a, l, d2, s2, m2, n2, V⟩ = p := ⟨_, rfl⟩
  obtain ⟨r, hr⟩ : ∃ p, bet ⟨a, l, d, s, m, n, T⟩ ⟨a, l, d2, s2, m2, n2, V⟩ = p := ⟨_, rfl⟩
  obtain ⟨k, hk⟩ : ∃ k, decide ((⟨a, l, d, s, m, n, T⟩ : Rt) = ⟨a, l, d', s', m', n', U⟩) = k := ⟨_, rfl⟩
  have HL : Hid ((k = true → p = false ∧ p' = false) ∧ (k = false → p' = !p ∧ (p = true → q = true → r = true))) := by
    refine ⟨fun e => ?_, fun e => ⟨?_, fun e1 e2 => ?_⟩⟩
    · rw [e, decide_eq_true_iff] at hk
      rw [← hk] at hp hp'
      rw [← hp, ← hp', bet_false.2 (Rt.lt_irrefl _)]
      exact ⟨rfl, rfl⟩
    · rw [e, decide_eq_false_iff_not] at hk
      rw [← hp', ← hp]
      cases hb : bet ⟨a, l, d, s, m, n, T⟩ ⟨a, l, d', s', m', n', U⟩
      · rw [bet_false] at hb
        rw [bet_iff.2 (Rt.lt_tri (x := ⟨a, l, d, s, m, n, T⟩) (y := ⟨a, l, d', s', m', n', U⟩) rfl rfl hb hk)]; rfl
      · rw [bet_iff] at hb
        rw [bet_false.2 (Rt.lt_asym hb)]; rfl
    · rw [e1, bet_iff] at hp
      rw [e2, bet_iff] at hq
      rw [← hr]
      exact bet_iff.2 (Rt.lt_trans hp hq)
  have HP : Hid (bet ⟨a, l, d, s, m, n, T⟩ ⟨a, l, d', s', m', n', U⟩ = p) := hp
  have HP' : Hid (bet ⟨a, l, d', s', m', n', U⟩ ⟨a, l, d, s, m, n, T⟩ = p') := hp'
  have HQ : Hid (bet ⟨a, l, d', s', m', n', U⟩ ⟨a, l, d2, s2, m2, n2, V⟩ = q) := hq
  have HR : Hid (bet ⟨a, l, d, s, m, n, T⟩ ⟨a, l, d2, s2, m2, n2, V⟩ = r) := hr
  have eqk := run_eqR ⟨a, l, d, s, m, n, T⟩ ⟨a, l, d', s', m', n', U⟩ k hk
  simp only at eqk
  obtain ⟨u1, hu1⟩ : ∃ u, mayR ⟨a, l, d, s, m, n, T⟩ = u := ⟨_, rfl⟩
  obtain ⟨u2, hu2⟩ : ∃ u, mayR ⟨a', l', d', s', m', n', U⟩ = u := ⟨_, rfl⟩
  obtain ⟨u3, hu3⟩ : ∃ u, mayR ⟨a2, l2, d2, s2, m2, n2, V⟩ = u := ⟨_, rfl⟩
  have HU1 : Hid (mayR ⟨a, l, d, s, m, n, T⟩ = u1) := hu1
  have HU2 : Hid (mayR ⟨a', l', d', s', m', n', U⟩ = u2) := hu2
  have HU3 : Hid (mayR ⟨a2, l2, d2, s2, m2, n2, V⟩ = u3) := hu3
  have HM1 : Hid True := trivial
  have HM2 : Hid True := trivial
  have HM3 : Hid True := trivial
  have HM4 : Hid True := trivial
  have HM5 : Hid True := trivial
  clear C hx hy hz hp hp' hq hr hk hu1 hu2 hu3
  have cases3 : (u1 = true ∧ u2 = true ∧ u3 = true) ∨ (u1 = false ∨ u1 = true ∧ u2 = false ∨ u1 = true ∧ u2 = true ∧ u3 = false) := by cases u1 <;> cases u2 <;> cases u3 <;> simp
  rcases cases3 with ⟨rfl, rfl, rfl⟩ | cases3
  case inr =>
    rcases cases3 with rfl | ⟨rfl, rfl⟩ | ⟨rfl, rfl, rfl⟩
    case' inl => cases u2 <;> cases u3
    case' inr.inl => cases u3
    all_goals
      go_enter Try.func5, Try.ntmps5
      go_wp2_with (first
        | (go_at_call 11; refine (awake_any HC.out _).mono ?_; rintro e W1 ⟨rfl, hb1⟩; have H1 := H0.out.later hb1; obtain ⟨x0, x1, x2, x3, x4, x5, x6⟩ := H1.x.z; obtain ⟨y0, y1, y2, y3, y4, y5, y6⟩ := H1.y.z; obtain ⟨z0, z1, z2, z3, z4, z5, z6⟩ := H1.z.z)
        | (go_at_call 12; have HM1' := HM1; clear HM1 HM1'; refine (refMayR_any a l d s m n T _ HX.out HU1.out).mono ?_; rintro e W2 ⟨rfl, hb2⟩; have H2 := H1.later hb2; obtain ⟨x0, x1, x2, x3, x4, x5, x6⟩ := H2.x.z; obtain ⟨y0, y1, y2, y3, y4, y5, y6⟩ := H2.y.z; obtain ⟨z0, z1, z2, z3, z4, z5, z6⟩ := H2.z.z)
        | (go_at_call 12; have HM2' := HM2; clear HM2 HM2'; refine (refMayR_any a' l' d' s' m' n' U _ HY.out HU2.out).mono ?_; rintro e W3 ⟨rfl, hb3⟩; have H3 := H2.later hb3; obtain ⟨x0, x1, x2, x3, x4, x5, x6⟩ := H3.x.z; obtain ⟨y0, y1, y2, y3, y4, y5, y6⟩ := H3.y.z; obtain ⟨z0, z1, z2, z3, z4, z5, z6⟩ := H3.z.z)
        | (go_at_call 12; refine (refMayR_any a2 l2 d2 s2 m2 n2 V _ HZ.out HU3.out).mono ?_; rintro e W4 ⟨rfl, hb4⟩; have H4 := H3.later hb4; obtain ⟨x0, x1, x2, x3, x4, x5, x6⟩ := H4.x.z; obtain ⟨y0, y1, y2, y3, y4, y5, y6⟩ := H4.y.z; obtain ⟨z0, z1, z2, z3, z4, z5, z6⟩ := H4.z.z; have fy := H4.fy; have fz := H4.fz))
      go_ret
      exact ⟨rfl, H4.b⟩
  case inl =>
    cases k
    case true =>
      obtain ⟨rfl, rfl⟩ := HL.out.1 rfl
      go_enter Try.func5, Try.ntmps5
      go_wp2_with (first
        | (go_at_call 11; refine (awake_any HC.out _).mono ?_; rintro e W1 ⟨rfl, hb1⟩; have H1 := H0.out.later hb1; obtain ⟨x0, x1, x2, x3, x4, x5, x6⟩ := H1.x.z; obtain ⟨y0, y1, y2, y3, y4, y5, y6⟩ := H1.y.z; obtain ⟨z0, z1, z2, z3, z4, z5, z6⟩ := H1.z.z)
        | (go_at_call 12; have HM1' := HM1; clear HM1 HM1'; refine (refMayR_any a l d s m n T _ HX.out HU1.out).mono ?_; rintro e W2 ⟨rfl, hb2⟩; have H2 := H1.later hb2; obtain ⟨x0, x1, x2, x3, x4, x5, x6⟩ := H2.x.z; obtain ⟨y0, y1, y2, y3, y4, y5, y6⟩ := H2.y.z; obtain ⟨z0, z1, z2, z3, z4, z5, z6⟩ := H2.z.z)
        | (go_at_call 12; have HM2' := HM2; clear HM2 HM2'; refine (refMayR_any a' l' d' s' m' n' U _ HY.out HU2.out).mono ?_; rintro e W3 ⟨rfl, hb3⟩; have H3 := H2.later hb3; obtain ⟨x0, x1, x2, x3, x4, x5, x6⟩ := H3.x.z; obtain ⟨y0, y1, y2, y3, y4, y5, y6⟩ := H3.y.z; obtain ⟨z0, z1, z2, z3, z4, z5, z6⟩ := H3.z.z)
        | (go_at_call 12; refine (refMayR_any a2 l2 d2 s2 m2 n2 V _ HZ.out HU3.out).mono ?_; rintro e W4 ⟨rfl, hb4⟩; have H4 := H3.later hb4; obtain ⟨x0, x1, x2, x3, x4, x5, x6⟩ := H4.x.z; obtain ⟨y0, y1, y2, y3, y4, y5, y6⟩ := H4.y.z; obtain ⟨z0, z1, z2, z3, z4, z5, z6⟩ := H4.z.z; have fy := H4.fy; have fz := H4.fz)
        | (go_at_call 13; have HM3' := HM3; clear HM3 HM3'; refine (HC.out.better ⟨a, l, d, s, m, n, T⟩ ⟨a, l, d', s', m', n', U⟩ _ HX.out HY4.out).mono ?_; rw [HP.out]; rintro e W5 ⟨rfl, hb5⟩; have H5 := ((H4.setY a l).setZ a l).later hb5; obtain ⟨x0, x1, x2, x3, x4, x5, x6⟩ := H5.x.z; obtain ⟨y0, y1, y2, y3, y4, y5, y6⟩ := H5.y.z; obtain ⟨z0, z1, z2, z3, z4, z5, z6⟩ := H5.z.z)
        | (go_at_call 13; have HM4' := HM4; clear HM4 HM4'; refine (HC.out.better ⟨a, l, d', s', m', n', U⟩ ⟨a, l, d2, s2, m2, n2, V⟩ _ HY4.out HZ4.out).mono ?_; rw [HQ.out]; rintro e W6 ⟨rfl, hb6⟩; have H6 := H5.later hb6; obtain ⟨x0, x1, x2, x3, x4, x5, x6⟩ := H6.x.z; obtain ⟨y0, y1, y2, y3, y4, y5, y6⟩ := H6.y.z; obtain ⟨z0, z1, z2, z3, z4, z5, z6⟩ := H6.z.z)
        | (go_at_call 13; have HM5' := HM5; clear HM5 HM5'; refine (HC.out.better ⟨a, l, d', s', m', n', U⟩ ⟨a, l, d, s, m, n, T⟩ _ HY4.out HX.out).mono ?_; rw [HP'.out]; rintro e W7 ⟨rfl, hb7⟩; have H7 := H6.later hb7; obtain ⟨x0, x1, x2, x3, x4, x5, x6⟩ := H7.x.z; obtain ⟨y0, y1, y2, y3, y4, y5, y6⟩ := H7.y.z; obtain ⟨z0, z1, z2, z3, z4, z5, z6⟩ := H7.z.z)
        | (go_at_call 13; refine (HC.out.better ⟨a, l, d, s, m, n, T⟩ ⟨a, l, d2, s2, m2, n2, V⟩ _ HX.out HZ4.out).mono ?_; rw [HR.out]; rintro e W8 ⟨rfl, hb8⟩; have H8 := H7.later hb8))
      go_ret
      exact ⟨rfl, H7.b⟩
    case false =>
      obtain ⟨rfl, hr⟩ := HL.out.2 rfl
      cases p
      case false =>
        go_enter Try.func5, Try.ntmps5
        go_wp2_with (first
          | (go_at_call 11; refine (awake_any HC.out _).mono ?_; rintro e W1 ⟨rfl, hb1⟩; have H1 := H0.out.later hb1; obtain ⟨x0, x1, x2, x3, x4, x5, x6⟩ := H1.x.z; obtain ⟨y0, y1, y2, y3, y4, y5, y6⟩ := H1.y.z; obtain ⟨z0, z1, z2, z3, z4, z5, z6⟩ := H1.z.z)
          | (go_at_call 12; have HM1' := HM1; clear HM1 HM1'; refine (refMayR_any a l d s m n T _ HX.out HU1.out).mono ?_; rintro e W2 ⟨rfl, hb2⟩; have H2 := H1.later hb2; obtain ⟨x0, x1, x2, x3, x4, x5, x6⟩ := H2.x.z; obtain ⟨y0, y1, y2, y3, y4, y5, y6⟩ := H2.y.z; obtain ⟨z0, z1, z2, z3, z4, z5, z6⟩ := H2.z.z)
          | (go_at_call 12; have HM2' := HM2; clear HM2 HM2'; refine (refMayR_any a' l' d' s' m' n' U _ HY.out HU2.out).mono ?_; rintro e W3 ⟨rfl, hb3⟩; have H3 := H2.later hb3; obtain ⟨x0, x1, x2, x3, x4, x5, x6⟩ := H3.x.z; obtain ⟨y0, y1, y2, y3, y4, y5, y6⟩ := H3.y.z; obtain ⟨z0, z1, z2, z3, z4, z5, z6⟩ := H3.z.z)
          | (go_at_call 12; refine (refMayR_any a2 l2 d2 s2 m2 n2 V _ HZ.out HU3.out).mono ?_; rintro e W4 ⟨rfl, hb4⟩; have H4 := H3.later hb4; obtain ⟨x0, x1, x2, x3, x4, x5, x6⟩ := H4.x.z; obtain ⟨y0, y1, y2, y3, y4, y5, y6⟩ := H4.y.z; obtain ⟨z0, z1, z2, z3, z4, z5, z6⟩ := H4.z.z; have fy := H4.fy; have fz := H4.fz)
          | (go_at_call 13; have HM3' := HM3; clear HM3 HM3'; refine (HC.out.better ⟨a, l, d, s, m, n, T⟩ ⟨a, l, d', s', m', n', U⟩ _ HX.out HY4.out).mono ?_; rw [HP.out]; rintro e W5 ⟨rfl, hb5⟩; have H5 := ((H4.setY a l).setZ a l).later hb5; obtain ⟨x0, x1, x2, x3, x4, x5, x6⟩ := H5.x.z; obtain ⟨y0, y1, y2, y3, y4, y5, y6⟩ := H5.y.z; obtain ⟨z0, z1, z2, z3, z4, z5, z6⟩ := H5.z.z)
          | (go_at_call 13; have HM4' := HM4; clear HM4 HM4'; refine (HC.out.better ⟨a, l, d', s', m', n', U⟩ ⟨a, l, d2, s2, m2, n2, V⟩ _ HY4.out HZ4.out).mono ?_; rw [HQ.out]; rintro e W6 ⟨rfl, hb6⟩; have H6 := H5.later hb6; obtain ⟨x0, x1, x2, x3, x4, x5, x6⟩ := H6.x.z; obtain ⟨y0, y1, y2, y3, y4, y5, y6⟩ := H6.y.z; obtain ⟨z0, z1, z2, z3, z4, z5, z6⟩ := H6.z.z)
          | (go_at_call 13; have HM5' := HM5; clear HM5 HM5'; refine (HC.out.better ⟨a, l, d', s', m', n', U⟩ ⟨a, l, d, s, m, n, T⟩ _ HY4.out HX.out).mono ?_; rw [HP'.out]; rintro e W7 ⟨rfl, hb7⟩; have H7 := H6.later hb7; obtain ⟨x0, x1, x2, x3, x4, x5, x6⟩ := H7.x.z; obtain ⟨y0, y1, y2, y3, y4, y5, y6⟩ := H7.y.z; obtain ⟨z0, z1, z2, z3, z4, z5, z6⟩ := H7.z.z)
          | (go_at_call 13; refine (HC.out.better ⟨a, l, d, s, m, n, T⟩ ⟨a, l, d2, s2, m2, n2, V⟩ _ HX.out HZ4.out).mono ?_; rw [HR.out]; rintro e W8 ⟨rfl, hb8⟩; have H8 := H7.later hb8))
        go_ret
        exact ⟨rfl, H7.b⟩
      case true =>
        cases q
        case false =>
          go_enter Try.func5, Try.ntmps5
          go_wp2_with (first
            | (go_at_call 11; refine (awake_any HC.out _).mono ?_; rintro e W1 ⟨rfl, hb1⟩; have H1 := H0.out.later hb1; obtain ⟨x0, x1, x2, x3, x4, x5, x6⟩ := H1.x.z; obtain ⟨y0, y1, y2, y3, y4, y5, y6⟩ := H1.y.z; obtain ⟨z0, z1, z2, z3, z4, z5, z6⟩ := H1.z.z)
            | (go_at_call 12; have HM1' := HM1; clear HM1 HM1'; refine (refMayR_any a l d s m n T _ HX.out HU1.out).mono ?_; rintro e W2 ⟨rfl, hb2⟩; have H2 := H1.later hb2; obtain ⟨x0, x1, x2, x3, x4, x5, x6⟩ := H2.x.z; obtain ⟨y0, y1, y2, y3, y4, y5, y6⟩ := H2.y.z; obtain ⟨z0, z1, z2, z3, z4, z5, z6⟩ := H2.z.z)
            | (go_at_call 12; have HM2' := HM2; clear HM2 HM2'; refine (refMayR_any a' l' d' s' m' n' U _ HY.out HU2.out).mono ?_; rintro e W3 ⟨rfl, hb3⟩; have H3 := H2.later hb3; obtain ⟨x0, x1, x2, x3, x4, x5, x6⟩ := H3.x.z; obtain ⟨y0, y1, y2, y3, y4, y5, y6⟩ := H3.y.z; obtain ⟨z0, z1, z2, z3, z4, z5, z6⟩ := H3.z.z)
            | (go_at_call 12; refine (refMayR_any a2 l2 d2 s2 m2 n2 V _ HZ.out HU3.out).mono ?_; rintro e W4 ⟨rfl, hb4⟩; have H4 := H3.later hb4; obtain ⟨x0, x1, x2, x3, x4, x5, x6⟩ := H4.x.z; obtain ⟨y0, y1, y2, y3, y4, y5, y6⟩ := H4.y.z; obtain ⟨z0, z1, z2, z3, z4, z5, z6⟩ := H4.z.z; have fy := H4.fy; have fz := H4.fz)
            | (go_at_call 13; have HM3' := HM3; clear HM3 HM3'; refine (HC.out.better ⟨a, l, d, s, m, n, T⟩ ⟨a, l, d', s', m', n', U⟩ _ HX.out HY4.out).mono ?_; rw [HP.out]; rintro e W5 ⟨rfl, hb5⟩; have H5 := ((H4.setY a l).setZ a l).later hb5; obtain ⟨x0, x1, x2, x3, x4, x5, x6⟩ := H5.x.z; obtain ⟨y0, y1, y2, y3, y4, y5, y6⟩ := H5.y.z; obtain ⟨z0, z1, z2, z3, z4, z5, z6⟩ := H5.z.z)
            | (go_at_call 13; have HM4' := HM4; clear HM4 HM4'; refine (HC.out.better ⟨a, l, d', s', m', n', U⟩ ⟨a, l, d2, s2, m2, n2, V⟩ _ HY4.out HZ4.out).mono ?_; rw [HQ.out]; rintro e W6 ⟨rfl, hb6⟩; have H6 := H5.later hb6; obtain ⟨x0, x1, x2, x3, x4, x5, x6⟩ := H6.x.z; obtain ⟨y0, y1, y2, y3, y4, y5, y6⟩ := H6.y.z; obtain ⟨z0, z1, z2, z3, z4, z5, z6⟩ := H6.z.z)
            | (go_at_call 13; have HM5' := HM5; clear HM5 HM5'; refine (HC.out.better ⟨a, l, d', s', m', n', U⟩ ⟨a, l, d, s, m, n, T⟩ _ HY4.out HX.out).mono ?_; rw [HP'.out]; rintro e W7 ⟨rfl, hb7⟩; have H7 := H6.later hb7; obtain ⟨x0, x1, x2, x3, x4, x5, x6⟩ := H7.x.z; obtain ⟨y0, y1, y2, y3, y4, y5, y6⟩ := H7.y.z; obtain ⟨z0, z1, z2, z3, z4, z5, z6⟩ := H7.z.z)
            | (go_at_call 13; refine (HC.out.better ⟨a, l, d, s, m, n, T⟩ ⟨a, l, d2, s2, m2, n2, V⟩ _ HX.out HZ4.out).mono ?_; rw [HR.out]; rintro e W8 ⟨rfl, hb8⟩; have H8 := H7.later hb8))
          go_ret
          exact ⟨rfl, H7.b⟩
        case true =>
          obtain rfl := hr rfl rfl
          go_enter Try.func5, Try.ntmps5
          go_wp2_with (first
            | (go_at_call 11; refine (awake_any HC.out _).mono ?_; rintro e W1 ⟨rfl, hb1⟩; have H1 := H0.out.later hb1; obtain ⟨x0, x1, x2, x3, x4, x5, x6⟩ := H1.x.z; obtain ⟨y0, y1, y2, y3, y4, y5, y6⟩ := H1.y.z; obtain ⟨z0, z1, z2, z3, z4, z5, z6⟩ := H1.z.z)
            | (go_at_call 12; have HM1' := HM1; clear HM1 HM1'; refine (refMayR_any a l d s m n T _ HX.out HU1.out).mono ?_; rintro e W2 ⟨rfl, hb2⟩; have H2 := H1.later hb2; obtain ⟨x0, x1, x2, x3, x4, x5, x6⟩ := H2.x.z; obtain ⟨y0, y1, y2, y3, y4, y5, y6⟩ := H2.y.z; obtain ⟨z0, z1, z2, z3, z4, z5, z6⟩ := H2.z.z)
            | (go_at_call 12; have HM2' := HM2; clear HM2 HM2'; refine (refMayR_any a' l' d' s' m' n' U _ HY.out HU2.out).mono ?_; rintro e W3 ⟨rfl, hb3⟩; have H3 := H2.later hb3; obtain ⟨x0, x1, x2, x3, x4, x5, x6⟩ := H3.x.z; obtain ⟨y0, y1, y2, y3, y4, y5, y6⟩ := H3.y.z; obtain ⟨z0, z1, z2, z3, z4, z5, z6⟩ := H3.z.z)
            | (go_at_call 12; refine (refMayR_any a2 l2 d2 s2 m2 n2 V _ HZ.out HU3.out).mono ?_; rintro e W4 ⟨rfl, hb4⟩; have H4 := H3.later hb4; obtain ⟨x0, x1, x2, x3, x4, x5, x6⟩ := H4.x.z; obtain ⟨y0, y1, y2, y3, y4, y5, y6⟩ := H4.y.z; obtain ⟨z0, z1, z2, z3, z4, z5, z6⟩ := H4.z.z; have fy := H4.fy; have fz := H4.fz)
            | (go_at_call 13; have HM3' := HM3; clear HM3 HM3'; refine (HC.out.better ⟨a, l, d, s, m, n, T⟩ ⟨a, l, d', s', m', n', U⟩ _ HX.out HY4.out).mono ?_; rw [HP.out]; rintro e W5 ⟨rfl, hb5⟩; have H5 := ((H4.setY a l).setZ a l).later hb5; obtain ⟨x0, x1, x2, x3, x4, x5, x6⟩ := H5.x.z; obtain ⟨y0, y1, y2, y3, y4, y5, y6⟩ := H5.y.z; obtain ⟨z0, z1, z2, z3, z4, z5, z6⟩ := H5.z.z)
            | (go_at_call 13; have HM4' := HM4; clear HM4 HM4'; refine (HC.out.better ⟨a, l, d', s', m', n', U⟩ ⟨a, l, d2, s2, m2, n2, V⟩ _ HY4.out HZ4.out).mono ?_; rw [HQ.out]; rintro e W6 ⟨rfl, hb6⟩; have H6 := H5.later hb6; obtain ⟨x0, x1, x2, x3, x4, x5, x6⟩ := H6.x.z; obtain ⟨y0, y1, y2, y3, y4, y5, y6⟩ := H6.y.z; obtain ⟨z0, z1, z2, z3, z4, z5, z6⟩ := H6.z.z)
            | (go_at_call 13; have HM5' := HM5; clear HM5 HM5'; refine (HC.out.better ⟨a, l, d', s', m', n', U⟩ ⟨a, l, d, s, m, n, T⟩ _ HY4.out HX.out).mono ?_; rw [HP'.out]; rintro e W7 ⟨rfl, hb7⟩; have H7 := H6.later hb7; obtain ⟨x0, x1, x2, x3, x4, x5, x6⟩ := H7.x.z; obtain ⟨y0, y1, y2, y3, y4, y5, y6⟩ := H7.y.z; obtain ⟨z0, z1, z2, z3, z4, z5, z6⟩ := H7.z.z)
            | (go_at_call 13; refine (HC.out.better ⟨a, l, d, s, m, n, T⟩ ⟨a, l, d2, s2, m2, n2, V⟩ _ HX.out HZ4.out).mono ?_; rw [HR.out]; rintro e W8 ⟨rfl, hb8⟩; have H8 := H7.later hb8))
          go_ret
          exact ⟨rfl, H8.b⟩
end
end Go.Proofs.Ytcabeclbdjfoaaa
