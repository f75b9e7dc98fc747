/- The laws RibBetter and RibDepths over what is asked of the program's table. -/
import Derived.Test.YtcabeclbdjfoaaaLawR
namespace Go.Proofs.Ytcabeclbdjfoaaa
open Go.RowKit

section
variable {RB : World → (Nat → Prop) → Addr → Int → List Rt → Int → Nat → Prop}
theorem ok_nat {x : Rt} (h : x.Ok) : ∃ t : Nat, x.t = (t : Int) ∧ t < 65536 := ⟨x.t.toNat, by have := h.t0; omega, by have := h.t0; have := h.t1; omega⟩
/-- Two routes in boxes. -/
def Two9 (w : World) (x y : Rt) (W : World) : Prop := R7 W w.heap.size 0 x ∧ R7 W (w.heap.size + 1) 0 y ∧ Below w.heap.size w W
theorem Two9.new (w : World) (a l d s m n t a' l' d' s' m' n' t' : Int) : Two9 w ⟨a, l, d, s, m, n, t⟩ ⟨a', l', d', s', m', n', t'⟩ ((w.alloc (objR a l d s m n t)).alloc (objR a' l' d' s' m' n' t')) := two_R w a l d s m n t a' l' d' s' m' n' t' (Below.refl _ _)
theorem Two9.later {w : World} {x y : Rt} {W W' : World} (h : Two9 w x y W) (hb : Below W.heap.size W W') : Two9 w x y W' := ⟨h.1.later hb, h.2.1.later hb, stp h.2.2 hb⟩
set_option maxHeartbeats 2000000 in
theorem law_better (C : RibC RB) (x y : Rt) (w : World) (hx : x.Ok) (hy : y.Ok) :
    Calls Try.prog 3 #[valRt x, valRt y] w fun e w' => e = .returned (.bool true) ∧ Below w.heap.size w w' := by
  have HC : Hid (RibC RB) := C
  have HX : Hid (x.Ok) := hx
  have HY : Hid (y.Ok) := hy
  obtain ⟨T, hT, hT1⟩ := ok_nat hx
  obtain ⟨U, hU, hU1⟩ := ok_nat hy
  obtain ⟨a, l, d, s, m, n, t⟩ := x
  obtain ⟨a', l', d', s', m', n', t'⟩ := y
  simp only at hT hU
  subst hT hU
  have H0 : Hid (Two9 w ⟨a, l, d, s, m, n, T⟩ ⟨a', l', d', s', m', n', U⟩ ((w.alloc (objR a l d s m n T)).alloc (objR a' l' d' s' m' n' U))) := Two9.new w a l d s m n T a' l' d' s' m' n' U
  obtain ⟨u, hu⟩ : ∃ u, mayR ⟨a, l, d, s, m, n, T⟩ = u := ⟨_, rfl⟩
  obtain ⟨v, hv⟩ : ∃ v, mayR ⟨a', l', d', s', m', n', U⟩ = v := ⟨_, rfl⟩
  obtain ⟨r, hr⟩ : ∃ r, bet ⟨a, l, d, s, m, n, T⟩ ⟨a', l', d', s', m', n', U⟩ = r := ⟨_, rfl⟩
  have HU : Hid (mayR ⟨a, l, d, s, m, n, T⟩ = u) := hu
  have HV : Hid (mayR ⟨a', l', d', s', m', n', U⟩ = v) := hv
  have HR : Hid (bet ⟨a, l, d, s, m, n, T⟩ ⟨a', l', d', s', m', n', U⟩ = r) := hr
  have HMk : Hid True := trivial
  clear C hx hy hu hv hr
  cases u
  case false =>
    go_enter Try.func3, Try.ntmps3
    cases v
    all_goals
      go_wp2_with (first
        | (go_at_call 11; refine (awake_any HC.out _).mono ?_; rintro e W1 ⟨rfl, hb1⟩; have H1 := H0.out.later hb1; obtain ⟨x0, x1, x2, x3, x4, x5, x6⟩ := H1.1.z; obtain ⟨y0, y1, y2, y3, y4, y5, y6⟩ := H1.2.1.z)
        | (go_at_call 12; have HMk' := HMk; clear HMk HMk'; refine (refMayR_any a l d s m n T _ HX.out HU.out).mono ?_; rintro e W2 ⟨rfl, hb2⟩; have H2 := H1.later hb2; obtain ⟨x0, x1, x2, x3, x4, x5, x6⟩ := H2.1.z; obtain ⟨y0, y1, y2, y3, y4, y5, y6⟩ := H2.2.1.z; clear H1)
        | (go_at_call 12; refine (refMayR_any a' l' d' s' m' n' U _ HY.out HV.out).mono ?_; rintro e W3 ⟨rfl, hb3⟩; have H3 := H2.later hb3))
      go_ret
      exact ⟨rfl, H3.2.2⟩
  case true =>
    go_enter Try.func3, Try.ntmps3
    cases v
    case false =>
      go_wp2_with (first
        | (go_at_call 11; refine (awake_any HC.out _).mono ?_; rintro e W1 ⟨rfl, hb1⟩; have H1 := H0.out.later hb1; obtain ⟨x0, x1, x2, x3, x4, x5, x6⟩ := H1.1.z; obtain ⟨y0, y1, y2, y3, y4, y5, y6⟩ := H1.2.1.z)
        | (go_at_call 12; have HMk' := HMk; clear HMk HMk'; refine (refMayR_any a l d s m n T _ HX.out HU.out).mono ?_; rintro e W2 ⟨rfl, hb2⟩; have H2 := H1.later hb2; obtain ⟨x0, x1, x2, x3, x4, x5, x6⟩ := H2.1.z; obtain ⟨y0, y1, y2, y3, y4, y5, y6⟩ := H2.2.1.z; clear H1)
        | (go_at_call 12; refine (refMayR_any a' l' d' s' m' n' U _ HY.out HV.out).mono ?_; rintro e W3 ⟨rfl, hb3⟩; have H3 := H2.later hb3; obtain ⟨x0, x1, x2, x3, x4, x5, x6⟩ := H3.1.z; obtain ⟨y0, y1, y2, y3, y4, y5, y6⟩ := H3.2.1.z; clear H2))
      go_ret
      exact ⟨rfl, H3.2.2⟩
    case true =>
      go_wp2_with (first
        | (go_at_call 11; refine (awake_any HC.out _).mono ?_; rintro e W1 ⟨rfl, hb1⟩; have H1 := H0.out.later hb1; obtain ⟨x0, x1, x2, x3, x4, x5, x6⟩ := H1.1.z; obtain ⟨y0, y1, y2, y3, y4, y5, y6⟩ := H1.2.1.z)
        | (go_at_call 12; have HMk' := HMk; clear HMk HMk'; refine (refMayR_any a l d s m n T _ HX.out HU.out).mono ?_; rintro e W2 ⟨rfl, hb2⟩; have H2 := H1.later hb2; obtain ⟨x0, x1, x2, x3, x4, x5, x6⟩ := H2.1.z; obtain ⟨y0, y1, y2, y3, y4, y5, y6⟩ := H2.2.1.z; clear H1)
        | (go_at_call 12; refine (refMayR_any a' l' d' s' m' n' U _ HY.out HV.out).mono ?_; rintro e W3 ⟨rfl, hb3⟩; have H3 := H2.later hb3; obtain ⟨x0, x1, x2, x3, x4, x5, x6⟩ := H3.1.z; obtain ⟨y0, y1, y2, y3, y4, y5, y6⟩ := H3.2.1.z; clear H2))
      go_region_held3 (fun w' => w'.cell? ⟨w.heap.size, 0, none⟩ = some (.int .u32 a) ∧ w'.cell? ⟨w.heap.size, 1, none⟩ = some (.int .i64 l) ∧ w'.cell? ⟨w.heap.size, 2, none⟩ = some (.int .i64 d) ∧ w'.cell? ⟨w.heap.size, 3, none⟩ = some (.int .i64 s) ∧ w'.cell? ⟨w.heap.size, 4, none⟩ = some (.int .i64 m) ∧ w'.cell? ⟨w.heap.size, 5, none⟩ = some (.int .i64 n) ∧ w'.cell? ⟨w.heap.size, 6, none⟩ = some (.int .u16 T) ∧ w'.cell? ⟨w.heap.size + 1, 0, none⟩ = some (.int .u32 a') ∧ w'.cell? ⟨w.heap.size + 1, 1, none⟩ = some (.int .i64 l') ∧ w'.cell? ⟨w.heap.size + 1, 2, none⟩ = some (.int .i64 d') ∧ w'.cell? ⟨w.heap.size + 1, 3, none⟩ = some (.int .i64 s') ∧ w'.cell? ⟨w.heap.size + 1, 4, none⟩ = some (.int .i64 m') ∧ w'.cell? ⟨w.heap.size + 1, 5, none⟩ = some (.int .i64 n') ∧ w'.cell? ⟨w.heap.size + 1, 6, none⟩ = some (.int .u16 U)) (first | exact ⟨x0, x1, x2, x3, x4, x5, x6, y0, y1, y2, y3, y4, y5, y6⟩ | exact ⟨p0, p1, p2, p3, p4, p5, p6, q0, q1, q2, q3, q4, q5, q6⟩ | exact ⟨f0, f1, f2, f3, f4, f5, f6, g0, g1, g2, g3, g4, g5, g6⟩)
        ((first
          | (go_at_call 13; refine (HC.out.better ⟨a, l, d, s, m, n, T⟩ ⟨a', l', d', s', m', n', U⟩ _ HX.out HY.out).mono ?_; rw [HR.out]; rintro e W4 ⟨rfl, hb4⟩; have hb4 : Below W3.heap.size W3 W4 := ((Below.refl _ _).drew).trans hb4; have H4 := H3.later hb4; obtain ⟨p0, p1, p2, p3, p4, p5, p6⟩ := H4.1.z; obtain ⟨q0, q1, q2, q3, q4, q5, q6⟩ := H4.2.1.z)
          | (go_at_call 14; refine (refBetter_any a l d s m n a' l' d' s' m' n' T U _ hT1 hU1 HR.out).mono ?_; rintro e W5 ⟨rfl, hb5⟩; have H5 := H4.later hb5; obtain ⟨f0, f1, f2, f3, f4, f5, f6⟩ := H5.1.z; obtain ⟨g0, g1, g2, g3, g4, g5, g6⟩ := H5.2.1.z)))
      all_goals
        go_wp2
        go_ret
        exact ⟨ret_bool (by simp), H5.2.2⟩
end
end Go.Proofs.Ytcabeclbdjfoaaa
