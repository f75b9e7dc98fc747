/- The law RibGone over what is asked of the program's table. -/
import Derived.Test.YtcabeclbdjfoaaaLawO
import Derived.Test.YtcabeclbdjfoaaaMatN
import Derived.Deep.Cut
import Derived.Deep.CutRange
namespace Go.Proofs.Ytcabeclbdjfoaaa
open Go.RowKit

section
variable {RB : World → (Nat → Prop) → Addr → Int → List Rt → Int → Nat → Prop}
/-- The program's table and routes in boxes that are no blocks of it. -/
structure Gone9 (RB : World → (Nat → Prop) → Addr → Int → List Rt → Int → Nat → Prop) (w : World) (p : Addr) (most : Int) (L : List Rt) (full : Int) (m : Nat) (B : Nat → Prop) (xs : List (Nat × Rt)) (W : World) : Prop where
  t : RB W B p most L full m
  o : ∀ q ∈ xs, R7 W q.1 0 q.2 ∧ q.1 < W.heap.size ∧ ¬ B q.1
  d : ∀ k, B k → w.heap.size ≤ k
  b : Below w.heap.size w W
variable {w : World} {p : Addr} {most : Int} {L L2 : List Rt} {full full2 : Int} {m m2 : Nat} {B : Nat → Prop} {xs : List (Nat × Rt)} {W W1 W2 : World} {x : Int} {e : Ending}
theorem Gone9.later (C : RibC RB) (h : Gone9 RB w p most L full m B xs W) (hb : Below W.heap.size W W1) : Gone9 RB w p most L full m B xs W1 :=
  ⟨C.later h.t hb, fun q hq => ⟨(h.o q hq).1.later hb, Nat.lt_of_lt_of_le (h.o q hq).2.1 hb.size, (h.o q hq).2.2⟩, h.d, stp h.b hb⟩
theorem Gone9.step (h : Gone9 RB w p most L full m B xs W) (hd : DoneC RB W B p most L2 full2 m2 x e W1) :
    e = .returned (.int .i64 x) ∧ ∃ B1, Gone9 RB w p most L2 full2 m2 B1 xs W1 := by
  obtain ⟨B1, rfl, h1, h2, h3⟩ := hd
  refine ⟨rfl, B1, h1, fun q hq => ?_, fun k hk => ?_, h.b.trans (h3.below (fun i _ hi => h.d i hi) h.b.size)⟩
  · obtain ⟨g1, g2, g3⟩ := h.o q hq
    refine ⟨g1.far fun o => h3.cell (p := ⟨q.1, o, none⟩) g2 g3, Nat.lt_of_lt_of_le g2 h3.size, fun hk => ?_⟩
    rcases h2 _ hk with hk | hk
    · exact g3 hk
    · omega
  · rcases h2 k hk with hk | hk
    · exact h.d k hk
    · exact Nat.le_trans h.b.size hk
theorem Gone9.box (C : RibC RB) (h : Gone9 RB w p most L full m B xs W) (a l d s m1 n t : Int) : Gone9 RB w p most L full m B ((W.heap.size, ⟨a, l, d, s, m1, n, t⟩) :: xs) (W.alloc (objR a l d s m1 n t)) := by
  have h1 := h.later C (below1 W (objR a l d s m1 n t))
  refine ⟨h1.t, fun q hq => ?_, h1.d, h1.b⟩
  rcases List.mem_cons.1 hq with rfl | hq
  · exact ⟨R7.new W a l d s m1 n t, by simp, fun hk => by have := C.lt h.t _ hk; simp at this⟩
  · exact h1.o q hq
theorem Gone9.new {a l d s m n t a' l' d' s' m' n' t' : Int} (hb1 : Below ((w.alloc (objR a l d s m n t)).alloc (objR a' l' d' s' m' n' t')).heap.size ((w.alloc (objR a l d s m n t)).alloc (objR a' l' d' s' m' n' t')) W1)
    (ht : RB W2 B p most [] 0 0) (hB : ∀ k, B k → W1.heap.size ≤ k) (hb2 : Below W1.heap.size W1 W2) :
    Gone9 RB w p most [] 0 0 B [(w.heap.size, ⟨a, l, d, s, m, n, t⟩), (w.heap.size + 1, ⟨a', l', d', s', m', n', t'⟩)] W2 ∧ ∀ o, W2.frozen? ⟨w.heap.size + 1, o, none⟩ = false := by
  have hs : w.heap.size + 2 ≤ W1.heap.size := by have := hb1.size; simp at this; omega
  have hs2 := hb2.size
  have h1 := two_R w a l d s m n t a' l' d' s' m' n' t' hb1
  refine ⟨⟨ht, fun q hq => ?_, fun k hk => Nat.le_trans h1.2.2.size (hB k hk), stp h1.2.2 hb2⟩, fun o => ?_⟩
  · rcases List.mem_cons.1 hq with rfl | hq
    · exact ⟨h1.1.later hb2, by show w.heap.size < _; omega, fun hk => by have := hB _ hk; simp at this; omega⟩
    · rw [List.mem_singleton] at hq
      subst hq
      exact ⟨h1.2.1.later hb2, by show w.heap.size + 1 < _; omega, fun hk => by have := hB _ hk; simp at this; omega⟩
  · refine (hb2.frozen (p := ⟨w.heap.size + 1, o, none⟩) (by show w.heap.size + 1 < _; omega)).trans ((hb1.frozen (p := ⟨w.heap.size + 1, o, none⟩) (by simp)).trans ?_)
    simp [go_sem]
theorem Gone9.setY (C : RibC RB) {y : Rt} {a l d s m n t : Int} (h : Gone9 RB w p most L full m2 B [(w.heap.size, y), (w.heap.size + 1, ⟨a, l, d, s, m, n, t⟩)] W) (a' l' : Int) :
    Gone9 RB w p most L full m2 B [(w.heap.size, y), (w.heap.size + 1, ⟨a', l', d, s, m, n, t⟩)] ((W.setCell ⟨w.heap.size + 1, 0, none⟩ (.int .u32 a')).setCell ⟨w.heap.size + 1, 1, none⟩ (.int .i64 l')) := by
  obtain ⟨g1, g2, g3⟩ := h.o (w.heap.size, y) (by simp)
  obtain ⟨f1, f2, f3⟩ := h.o (w.heap.size + 1, ⟨a, l, d, s, m, n, t⟩) (by simp)
  refine ⟨C.keep (C := fun k => k = w.heap.size + 1) h.t (((Keep.refl (fun k => k = w.heap.size + 1) _).setCell (p := ⟨w.heap.size + 1, 0, none⟩) rfl _).setCell (p := ⟨w.heap.size + 1, 1, none⟩) rfl _) (fun k hk e => f3 (e ▸ hk)), fun q hq => ?_, h.d, (h.b.setCell (p := ⟨w.heap.size + 1, 0, none⟩) (Nat.le_succ _) _).setCell (p := ⟨w.heap.size + 1, 1, none⟩) (Nat.le_succ _) _⟩
  rcases List.mem_cons.1 hq with rfl | hq
  · exact ⟨g1.off (by omega) _ _, by simpa [World.setCell] using g2, g3⟩
  · rw [List.mem_singleton] at hq
    subst hq
    exact ⟨f1.set01 a' l', by simpa [World.setCell] using f2, f3⟩
set_option maxHeartbeats 4000000 in
theorem law_gone (C : RibC RB) (x y : Rt) (w : World) (hx : x.Ok) (hy : y.Ok) :
    Calls Try.prog 9 #[valRt x, valRt y] w fun e w' => e = .returned (.bool true) ∧ Below w.heap.size w w' := by
  have HC : Hid (RibC RB) := C
  have HX : Hid (x.Ok) := hx
  obtain ⟨a, l, d, s, m, n, t⟩ := x
  obtain ⟨a', l', d', s', m', n', t'⟩ := y
  have HY4 : Hid (Rt.Ok ⟨a, l, d', s', m', n', t'⟩) := ⟨hx.a0, hx.a1, hx.l0, hx.l1, hy.d0, hy.d1, hy.s0, hy.s1, hy.m0, hy.m1, hy.n0, hy.n1, hy.t0, hy.t1⟩
  have HG : Hid (∀ {W1 W2 : World} {p : Addr} {B : Nat → Prop}, Below ((w.alloc (objR a l d s m n t)).alloc (objR a' l' d' s' m' n' t')).heap.size ((w.alloc (objR a l d s m n t)).alloc (objR a' l' d' s' m' n' t')) W1 → RB W2 B p 5 [] 0 0 → (∀ k, B k → W1.heap.size ≤ k) → Below W1.heap.size W1 W2 →
    Gone9 RB w p 5 [] 0 0 B [(w.heap.size, ⟨a, l, d, s, m, n, t⟩), (w.heap.size + 1, ⟨a', l', d', s', m', n', t'⟩)] W2 ∧ ∀ o, W2.frozen? ⟨w.heap.size + 1, o, none⟩ = false) := fun h1 h2 h3 h4 => Gone9.new h1 h2 h3 h4
  have HM5 : Hid ((min (5 : Int) 64) = 5) := by unfold Hid; decide
  have HMk : Hid True := trivial
  have HMb : Hid True := trivial
  have HMt : Hid True := trivial
  by_cases hd : d = d'
  · subst hd
    clear C hx hy HX HY4 HMk HMb HMt
    go_enter Try.func9, Try.ntmps9
    go_wp2_with (first
      | (go_at_call 11; refine (awake_any HC.out _).mono ?_; rintro e W1 ⟨rfl, hb1⟩)
      | (go_at_call 15; refine (HC.out.new 5 _ (by decide) (by decide)).mono ?_; rw [HM5.out]; rintro e W2 ⟨p, B, rfl, T2, hB2, hb2⟩; have he : ∀ W : World, (binOp .eql 32 (.pointer (some p)) (.pointer none)).run Try.prog W = .ok (.bool false) W := run_nilP _; have he' : ∀ W : World, (binOp .neq 32 (.pointer (some p)) (.pointer none)).run Try.prog W = .ok (.bool true) W := run_nilN _; obtain ⟨hG, fy⟩ := HG.out hb1 T2 hB2 hb2; clear hb1 T2 hB2 hb2; obtain ⟨x0, x1, x2, x3, x4, x5, x6⟩ := (hG.o _ (List.Mem.head _)).1.z; obtain ⟨y0, y1, y2, y3, y4, y5, y6⟩ := (hG.o _ (List.Mem.tail _ (List.Mem.head _))).1.z))
    go_ret
    exact ⟨rfl, (hG.setY HC.out a l).b⟩
  have hd1 : (d == d') = false := by simpa using hd
  obtain ⟨L1, hL1⟩ : ∃ L1, putR 5 [] ⟨a, l, d, s, m, n, t⟩ = L1 := ⟨_, rfl⟩
  obtain ⟨L2, hL2⟩ : ∃ L2, putR 5 L1 ⟨a, l, d', s', m', n', t'⟩ = L2 := ⟨_, rfl⟩
  obtain ⟨u, hu⟩ : ∃ u, putRX 5 [] ⟨a, l, d, s, m, n, t⟩ = u := ⟨_, rfl⟩
  obtain ⟨v, hv⟩ : ∃ v, putRX 5 L1 ⟨a, l, d', s', m', n', t'⟩ = v := ⟨_, rfl⟩
  have HP1 : Hid (putR 5 [] ⟨a, l, d, s, m, n, t⟩ = L1 ∧ putRX 5 [] ⟨a, l, d, s, m, n, t⟩ = u) := ⟨hL1, hu⟩
  have HP2 : Hid (putR 5 L1 ⟨a, l, d', s', m', n', t'⟩ = L2 ∧ putRX 5 L1 ⟨a, l, d', s', m', n', t'⟩ = v) := ⟨hL2, hv⟩
  by_cases huv : u = 0 ∧ v = 0
  case neg =>
    have hor : (u != 0) = true ∨ u = 0 ∧ (v != 0) = true := by
      by_cases e : u = 0
      · exact .inr ⟨e, by simp; exact fun h => huv ⟨e, h⟩⟩
      · exact .inl (by simpa using e)
    clear C hx hy hL1 hL2 hu hv hd huv HMb HMt
    rcases hor with hu1 | ⟨rfl, hv1⟩
    all_goals
      go_enter Try.func9, Try.ntmps9
      go_wp2_with (first
        | (go_at_call 11; refine (awake_any HC.out _).mono ?_; rintro e W1 ⟨rfl, hb1⟩)
        | (go_at_call 15; refine (HC.out.new 5 _ (by decide) (by decide)).mono ?_; rw [HM5.out]; rintro e W2 ⟨p, B, rfl, T2, hB2, hb2⟩; have he : ∀ W : World, (binOp .eql 32 (.pointer (some p)) (.pointer none)).run Try.prog W = .ok (.bool false) W := run_nilP _; have he' : ∀ W : World, (binOp .neq 32 (.pointer (some p)) (.pointer none)).run Try.prog W = .ok (.bool true) W := run_nilN _; obtain ⟨hG, fy⟩ := HG.out hb1 T2 hB2 hb2; clear hb1 T2 hB2 hb2; obtain ⟨x0, x1, x2, x3, x4, x5, x6⟩ := (hG.o _ (List.Mem.head _)).1.z; obtain ⟨y0, y1, y2, y3, y4, y5, y6⟩ := (hG.o _ (List.Mem.tail _ (List.Mem.head _))).1.z)
        | (go_at_call 17; have HMk' := HMk; clear HMk HMk'; have hG1 := hG.setY HC.out a l; refine (HC.out.put ⟨a, l, d, s, m, n, t⟩ hG1.t (by decide) HX.out).mono ?_; rw [HP1.out.1, HP1.out.2]; intro e W4 hd4; obtain ⟨rfl, B4, H4⟩ := hG1.step hd4; clear hd4; obtain ⟨x0, x1, x2, x3, x4, x5, x6⟩ := (H4.o _ (List.Mem.head _)).1.z; obtain ⟨y0, y1, y2, y3, y4, y5, y6⟩ := (H4.o _ (List.Mem.tail _ (List.Mem.head _))).1.z)
        | (go_at_call 17; refine (HC.out.put ⟨a, l, d', s', m', n', t'⟩ H4.t (by decide) HY4.out).mono ?_; rw [HP2.out.1, HP2.out.2]; intro e W5 hd5; obtain ⟨rfl, B5, H5⟩ := H4.step hd5; clear hd5; obtain ⟨x0, x1, x2, x3, x4, x5, x6⟩ := (H5.o _ (List.Mem.head _)).1.z; obtain ⟨y0, y1, y2, y3, y4, y5, y6⟩ := (H5.o _ (List.Mem.tail _ (List.Mem.head _))).1.z))
      refine bodyPost_ret (v := .bool true) (by simp [results, Try.results9, go_sem]) rfl ?_
      exact ⟨rfl, H5.b⟩
  obtain ⟨rfl, rfl⟩ := huv
  have hm1 : mayR ⟨a, l, d, s, m, n, t⟩ = true := by
    cases hm : mayR ⟨a, l, d, s, m, n, t⟩
    · rw [putRX, if_pos hm] at hu; cases hu
    · rfl
  have hm2 : mayR ⟨a, l, d', s', m', n', t'⟩ = true := by
    cases hm : mayR ⟨a, l, d', s', m', n', t'⟩
    · rw [putRX, if_pos hm] at hv; cases hv
    · rfl
  have hgone := gone (a := ⟨a, l, d, s, m, n, t⟩) (b := ⟨a, l, d', s', m', n', t'⟩) hx.a0 hx.a1 hx.t0 hx.t1 hy.t0 hy.t1 rfl rfl hd hm1 hm2
  rw [hL1, hL2] at hgone
  obtain ⟨x1, y1, hxy, g1, g2, g3, g4, g5, g6, g7⟩ := hgone
  have hok : x1.Ok ∧ y1.Ok := by
    rcases hxy with ⟨rfl, rfl⟩ | ⟨rfl, rfl⟩
    · exact ⟨hx, HY4⟩
    · exact ⟨HY4, hx⟩
  have hal : x1.a = a ∧ x1.l = l ∧ y1.a = a ∧ y1.l = l := by rcases hxy with ⟨rfl, rfl⟩ | ⟨rfl, rfl⟩ <;> exact ⟨rfl, rfl, rfl, rfl⟩
  obtain ⟨k1, hk1⟩ : ∃ k, decide (x1 = ⟨a, l, d, s, m, n, t⟩) = k := ⟨_, rfl⟩
  obtain ⟨k2, hk2⟩ : ∃ k, decide (y1 = ⟨a, l, d', s', m', n', t'⟩) = k := ⟨_, rfl⟩
  obtain ⟨k3, hk3⟩ : ∃ k, decide (x1 = ⟨a, l, d', s', m', n', t'⟩) = k := ⟨_, rfl⟩
  obtain ⟨k4, hk4⟩ : ∃ k, decide (y1 = ⟨a, l, d, s, m, n, t⟩) = k := ⟨_, rfl⟩
  have HK : Hid (k1 = true ∧ k2 = true ∨ k1 = false ∧ k3 = true ∧ k4 = true) := by
    rw [← hk1, ← hk2, ← hk3, ← hk4]
    rcases hxy with ⟨rfl, rfl⟩ | ⟨rfl, rfl⟩
    · exact .inl ⟨by simp, by simp⟩
    · exact .inr ⟨by simp; exact fun h => absurd h.symm hd, by simp, by simp⟩
  have q1 := fun W => run_eqR x1 ⟨a, l, d, s, m, n, t⟩ k1 hk1 W
  have q2 := fun W => run_eqR y1 ⟨a, l, d', s', m', n', t'⟩ k2 hk2 W
  have q3 := fun W => run_eqR x1 ⟨a, l, d', s', m', n', t'⟩ k3 hk3 W
  have q4 := fun W => run_eqR y1 ⟨a, l, d, s, m, n, t⟩ k4 hk4 W
  obtain ⟨xa, xl, xd, xs, xm, xn, xt⟩ := x1
  obtain ⟨ya, yl, yd, ys, ym, yn, yt⟩ := y1
  obtain ⟨h1, h2, h3, h4⟩ := hal
  simp only at h1 h2 h3 h4
  cases h1; cases h2; cases h3; cases h4
  simp only at q1 q2 q3 q4
  have HX1 : Hid (Rt.Ok ⟨a, l, xd, xs, xm, xn, xt⟩) := hok.1
  have HY1 : Hid (Rt.Ok ⟨a, l, yd, ys, ym, yn, yt⟩) := hok.2
  have HB1 : Hid (ansR (bestR a l L2 none) = .tuple #[valR a l xd xs xm xn xt, .bool true]) := by unfold Hid; rw [g1]; rfl
  have HB2 : Hid (ansR (bestR a l [⟨a, l, yd, ys, ym, yn, yt⟩] none) = .tuple #[valR a l yd ys ym yn yt, .bool true]) := by unfold Hid; rw [g4]; rfl
  have HB3 : Hid (ansR (bestR a l [] none) = .tuple #[valR 0 0 0 0 0 0 0, .bool false]) := rfl
  have HT1 : Hid (takeR L2 ⟨a, l, xd⟩ = [⟨a, l, yd, ys, ym, yn, yt⟩] ∧ takeRX L2 ⟨a, l, xd⟩ = 0) := ⟨g3, g2⟩
  have HT2 : Hid (takeR [⟨a, l, yd, ys, ym, yn, yt⟩] ⟨a, l, yd⟩ = [] ∧ takeRX [⟨a, l, yd, ys, ym, yn, yt⟩] ⟨a, l, yd⟩ = 0) := ⟨g6, g5⟩
  have HBt : Hid (bet ⟨a, l, yd, ys, ym, yn, yt⟩ ⟨a, l, xd, xs, xm, xn, xt⟩ = false) := g7
  have HMc : Hid True := trivial
  clear C hx hy hL1 hL2 hu hv hd hm1 hm2 hxy hok g1 g2 g3 g4 g5 g6 g7 hk1 hk2 hk3 hk4
  rcases HK.out with ⟨rfl, rfl⟩ | ⟨rfl, rfl, rfl⟩
  case' inl => clear q3 q4
  case' inr => clear q2
  all_goals
    clear HK
    go_enter Try.func9, Try.ntmps9
    go_wp2_with (first
      | (go_at_call 11; refine (awake_any HC.out _).mono ?_; rintro e W1 ⟨rfl, hb1⟩)
      | (go_at_call 15; refine (HC.out.new 5 _ (by decide) (by decide)).mono ?_; rw [HM5.out]; rintro e W2 ⟨p, B, rfl, T2, hB2, hb2⟩; have he : ∀ W : World, (binOp .eql 32 (.pointer (some p)) (.pointer none)).run Try.prog W = .ok (.bool false) W := run_nilP _; have he' : ∀ W : World, (binOp .neq 32 (.pointer (some p)) (.pointer none)).run Try.prog W = .ok (.bool true) W := run_nilN _; obtain ⟨hG, fy⟩ := HG.out hb1 T2 hB2 hb2; clear hb1 T2 hB2 hb2; obtain ⟨x0, x1, x2, x3, x4, x5, x6⟩ := (hG.o _ (List.Mem.head _)).1.z; obtain ⟨y0, y1, y2, y3, y4, y5, y6⟩ := (hG.o _ (List.Mem.tail _ (List.Mem.head _))).1.z)
      | (go_at_call 17; have HMk' := HMk; clear HMk HMk'; have hG1 := hG.setY HC.out a l; refine (HC.out.put ⟨a, l, d, s, m, n, t⟩ hG1.t (by decide) HX.out).mono ?_; rw [HP1.out.1, HP1.out.2]; intro e W4 hd4; obtain ⟨rfl, B4, H4⟩ := hG1.step hd4; clear hd4; obtain ⟨x0, x1, x2, x3, x4, x5, x6⟩ := (H4.o _ (List.Mem.head _)).1.z; obtain ⟨y0, y1, y2, y3, y4, y5, y6⟩ := (H4.o _ (List.Mem.tail _ (List.Mem.head _))).1.z)
      | (go_at_call 17; refine (HC.out.put ⟨a, l, d', s', m', n', t'⟩ H4.t (by decide) HY4.out).mono ?_; rw [HP2.out.1, HP2.out.2]; intro e W5 hd5; obtain ⟨rfl, B5, H5⟩ := H4.step hd5; clear hd5; obtain ⟨x0, x1, x2, x3, x4, x5, x6⟩ := (H5.o _ (List.Mem.head _)).1.z; obtain ⟨y0, y1, y2, y3, y4, y5, y6⟩ := (H5.o _ (List.Mem.tail _ (List.Mem.head _))).1.z)
      | (go_at_call 23; have HMb' := HMb; clear HMb HMb'; refine (HC.out.best a l H5.t (by decide) HX1.out.a0 HX1.out.a1 HX1.out.l0 HX1.out.l1).mono ?_; rw [HB1.out]; rintro e W6 ⟨rfl, hb6⟩; have H6 := (H5.later HC.out hb6).box HC.out a l xd xs xm xn xt; clear hb6; obtain ⟨x0, x1, x2, x3, x4, x5, x6⟩ := (H6.o _ (List.Mem.tail _ (List.Mem.head _))).1.z; obtain ⟨y0, y1, y2, y3, y4, y5, y6⟩ := (H6.o _ (List.Mem.tail _ (List.Mem.tail _ (List.Mem.head _)))).1.z)
      | (go_at_call 19; have HMt' := HMt; clear HMt HMt'; refine (HC.out.take a l xd H6.t (by decide) HX1.out.a0 HX1.out.a1 HX1.out.l0 HX1.out.l1 HX1.out.d0 HX1.out.d1).mono ?_; rw [HT1.out.1, HT1.out.2]; intro e W7 hd7; obtain ⟨rfl, B7, H7⟩ := H6.step hd7; clear hd7; obtain ⟨x0, x1, x2, x3, x4, x5, x6⟩ := (H7.o _ (List.Mem.tail _ (List.Mem.head _))).1.z; obtain ⟨y0, y1, y2, y3, y4, y5, y6⟩ := (H7.o _ (List.Mem.tail _ (List.Mem.tail _ (List.Mem.head _)))).1.z)
      | (go_at_call 23; have HMc' := HMc; clear HMc HMc'; refine (HC.out.best a l H7.t (by decide) HX1.out.a0 HX1.out.a1 HX1.out.l0 HX1.out.l1).mono ?_; rw [HB2.out]; rintro e W8 ⟨rfl, hb8⟩; have H8 := (H7.later HC.out hb8).box HC.out a l yd ys ym yn yt; clear hb8; obtain ⟨x0, x1, x2, x3, x4, x5, x6⟩ := (H8.o _ (List.Mem.tail _ (List.Mem.tail _ (List.Mem.head _)))).1.z; obtain ⟨y0, y1, y2, y3, y4, y5, y6⟩ := (H8.o _ (List.Mem.tail _ (List.Mem.tail _ (List.Mem.tail _ (List.Mem.head _))))).1.z)
      | (go_at_call 19; refine (HC.out.take a l yd H8.t (by decide) HY1.out.a0 HY1.out.a1 HY1.out.l0 HY1.out.l1 HY1.out.d0 HY1.out.d1).mono ?_; rw [HT2.out.1, HT2.out.2]; intro e W9 hd9; obtain ⟨rfl, B9, H9⟩ := H8.step hd9; clear hd9; obtain ⟨x0, x1, x2, x3, x4, x5, x6⟩ := (H9.o _ (List.Mem.tail _ (List.Mem.tail _ (List.Mem.head _)))).1.z; obtain ⟨y0, y1, y2, y3, y4, y5, y6⟩ := (H9.o _ (List.Mem.tail _ (List.Mem.tail _ (List.Mem.tail _ (List.Mem.head _))))).1.z)
      | (go_at_call 23; refine (HC.out.best a l H9.t (by decide) HX1.out.a0 HX1.out.a1 HX1.out.l0 HX1.out.l1).mono ?_; rw [HB3.out]; rintro e WA ⟨rfl, hbA⟩; have HA := (H9.later HC.out hbA).box HC.out 0 0 0 0 0 0 0; clear hbA; obtain ⟨v0, v1, v2, v3, v4, v5, v6⟩ := (HA.o _ (List.Mem.tail _ (List.Mem.head _))).1.z; obtain ⟨u0, u1, u2, u3, u4, u5, u6⟩ := (HA.o _ (List.Mem.tail _ (List.Mem.tail _ (List.Mem.head _)))).1.z; obtain ⟨x0, x1, x2, x3, x4, x5, x6⟩ := (HA.o _ (List.Mem.tail _ (List.Mem.tail _ (List.Mem.tail _ (List.Mem.head _))))).1.z; obtain ⟨y0, y1, y2, y3, y4, y5, y6⟩ := (HA.o _ (List.Mem.tail _ (List.Mem.tail _ (List.Mem.tail _ (List.Mem.tail _ (List.Mem.head _)))))).1.z)
      | (go_at_call 13; refine (HC.out.better ⟨a, l, yd, ys, ym, yn, yt⟩ ⟨a, l, xd, xs, xm, xn, xt⟩ _ HY1.out HX1.out).mono ?_; rw [HBt.out]; rintro e WB ⟨rfl, hbB⟩; have HZ := HA.later HC.out hbB; clear hbB)
      | (go_at_call 22; refine (HC.out.all HZ.t (by decide)).mono ?_; rintro e WC ⟨aZ, nZ, cZ, rfl, ownZ, hbZ⟩; obtain rfl : nZ = 0 := ownZ.len.symm))
    refine bodyPost_ret (v := .bool true) (by simp [results, Try.results9, go_sem]) rfl ?_
    exact ⟨rfl, stp HZ.b hbZ⟩
end
end Go.Proofs.Ytcabeclbdjfoaaa
