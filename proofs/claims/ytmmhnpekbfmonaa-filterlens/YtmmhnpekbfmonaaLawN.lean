/- FilterLens. -/
import Derived.Test.YtmmhnpekbfmonaaLawB
import Derived.Deep.CutRange
namespace Go.Proofs.Ytmmhnpekbfmonaa
open Go.RowKit

theorem one_may (x : Ru) : mayL [x] = mayU x := by simp [mayL]
theorem set56 {W : World} {N M : Nat} {b : Bool} {a l g e h n qa ql : Int} (hu : U7 W N 0 ⟨b, a, l, g, e, h, n⟩) (h0 : W.cell? ⟨M, 0, none⟩ = some (.int .u32 qa)) (h1 : W.cell? ⟨M, 1, none⟩ = some (.int .i64 ql)) (hne : N ≠ M) :
    U7 ((W.setCell ⟨N, 5, none⟩ (.int .u16 0)).setCell ⟨N, 6, none⟩ (.int .u16 0)) N 0 ⟨b, a, l, g, e, 0, 0⟩ ∧
    ((W.setCell ⟨N, 5, none⟩ (.int .u16 0)).setCell ⟨N, 6, none⟩ (.int .u16 0)).cell? ⟨M, 0, none⟩ = some (.int .u32 qa) ∧ ((W.setCell ⟨N, 5, none⟩ (.int .u16 0)).setCell ⟨N, 6, none⟩ (.int .u16 0)).cell? ⟨M, 1, none⟩ = some (.int .i64 ql) := by
  obtain ⟨c0, c1, c2, c3, c4, c5, c6⟩ := U7.z hu
  refine ⟨?_, ?_, ?_⟩
  · refine ⟨?_, ?_, ?_, ?_, ?_, ?_, ?_⟩ <;> simp [go_sem, c0, c1, c2, c3, c4, c5, c6]
  · rw [World.cell?_setCell_far _ _ _ _ (by exact hne), World.cell?_setCell_far _ _ _ _ (by exact hne)]; exact h0
  · rw [World.cell?_setCell_far _ _ _ _ (by exact hne), World.cell?_setCell_far _ _ _ _ (by exact hne)]; exact h1
theorem newF (w : World) (o : Obj) (m : Bool) (a l g e h n : Int) {W : World} (hb : Below ((w.alloc (objU m a l g e h n)).alloc o).heap.size ((w.alloc (objU m a l g e h n)).alloc o) W) : ∀ k, W.frozen? ⟨w.heap.size, k, none⟩ = false := fun k => by
  rw [hb.frozen (p := ⟨w.heap.size, k, none⟩) (by simp; omega)]
  simp [go_sem]
/-- What stands behind the stores. -/
structure AtN (w : World) (N M : Nat) (b : Bool) (a l g e qa ql : Int) (W : World) : Prop where
  u : U7 W N 0 ⟨b, a, l, g, e, 0, 0⟩
  x0 : W.cell? ⟨M, 0, none⟩ = some (.int .u32 qa)
  x1 : W.cell? ⟨M, 1, none⟩ = some (.int .i64 ql)
  b : Below w.heap.size w W
theorem AtN.later {w W W' : World} {N M : Nat} {b : Bool} {a l g e qa ql : Int} (h : AtN w N M b a l g e qa ql W) (hb : Below W.heap.size W W') : AtN w N M b a l g e qa ql W' := ⟨h.u.later hb, cell_later hb h.x0, cell_later hb h.x1, stp h.b hb⟩
set_option maxRecDepth 100000 in
set_option maxHeartbeats 4000000 in
theorem law_lens (C : FilC) (b : Bool) (a l g e h n qa ql : Int) (w : World) (ho : Ru.Ok ⟨b, a, l, g, e, h, n⟩) (hqa : U32 qa) (hql : I64 ql) :
    Calls Try.prog 7 #[.agg #[.bool b, .int .u32 a, .int .i64 l, .int .i64 g, .int .i64 e, .int .u16 h, .int .u16 n], valX qa ql] w fun e w' => e = .returned (.bool true) ∧ Below w.heap.size w w' := by
  have HC : Hid FilC := C
  have HO : Hid (Ru.Ok ⟨b, a, l, g, e, 0, 0⟩) := ⟨ho.a0, ho.a1, ho.l0, ho.l1, ho.g0, ho.g1, ho.e0, ho.e1, by simp, by simp, by simp, by simp⟩
  have HQ : Hid (U32 qa ∧ I64 ql) := ⟨hqa, hql⟩
  obtain ⟨m, hm⟩ : ∃ m, mayU ⟨b, a, l, g, e, 0, 0⟩ = m := ⟨_, rfl⟩
  have HM : Hid (mayL [⟨b, a, l, g, e, 0, 0⟩] = m) := by unfold Hid; rw [one_may]; exact hm
  have HU : Hid (mayU ⟨b, a, l, g, e, 0, 0⟩ = m) := hm
  clear C ho hqa hql hm
  go_enter Try.func7, Try.ntmps7
  go_upto_region 2 with (go_at_call 8; refine (awake_any HC.out _).mono ?_; rintro e' W1 ⟨rfl, hb1⟩)
  obtain ⟨u7, x0, x1⟩ := newUX w b a l g e h n qa ql hb1
  have fz := newF w _ b a l g e h n hb1
  have hb2 := Below.out2 hb1
  have hne : w.heap.size ≠ w.heap.size + 1 := by omega
  have hs := set56 u7 x0 x1 hne
  have c5 := (U7.z u7).2.2.2.2.2.1
  have c6 := (U7.z u7).2.2.2.2.2.2
  go_upto_region 4 with fail
  have hA : AtN w w.heap.size (w.heap.size + 1) b a l g e qa ql ((W1.setCell ⟨w.heap.size, 5, none⟩ (.int .u16 0)).setCell ⟨w.heap.size, 6, none⟩ (.int .u16 0)) :=
    ⟨hs.1, hs.2.1, hs.2.2, (hb2.setCell (p := ⟨w.heap.size, 5, none⟩) (Nat.le_refl _) _).setCell (p := ⟨w.heap.size, 6, none⟩) (Nat.le_refl _) _⟩
  clear hs u7 x0 x1 c5 c6 fz hb1 hb2 hne
  obtain ⟨N, hN⟩ : ∃ N, w.heap.size = N := ⟨_, rfl⟩
  rw [hN] at hA ⊢
  obtain ⟨W2, h2⟩ : ∃ W2, W2 = (W1.setCell ⟨N, 5, none⟩ (.int .u16 0)).setCell ⟨N, 6, none⟩ (.int .u16 0) := ⟨_, rfl⟩
  rw [← h2] at hA ⊢
  have HA : Hid (AtN w N (N + 1) b a l g e qa ql W2) := hA
  obtain ⟨⟨c0, c1, c2, c3, c4, c5, c6⟩, x0, x1, -⟩ := hA
  simp only at c0 c1 c2 c3 c4 c5 c6
  have hr : RowU (W2.alloc (objU b a l g e 0 0)) (some ⟨W2.heap.size, 0, none⟩) 1 [⟨b, a, l, g, e, 0, 0⟩] := rowU_one (U7.new W2 b a l g e 0 0) rfl HO.out
  clear h2
  by_cases hall : m = true ∧ 0 ≤ ql ∧ ql ≤ 32
  case neg =>
    have hway : m = false ∨ m = true ∧ ql < 0 ∨ m = true ∧ ¬ ql < 0 ∧ ql > 32 := by
      cases m
      · exact .inl rfl
      · by_cases k1 : ql < 0
        · exact .inr (.inl ⟨rfl, k1⟩)
        · exact .inr (.inr ⟨rfl, k1, by by_cases k2 : ql > 32; exact k2; exact absurd ⟨rfl, by omega, by omega⟩ hall⟩)
    rcases hway with rfl | ⟨rfl, k1⟩ | ⟨rfl, k1, k2⟩
    all_goals clear hall
    all_goals
      go_wp2_with (go_at_call 11; refine (HC.out.may _ _ _ [⟨b, a, l, g, e, 0, 0⟩] _ hr).mono ?_; rw [HM.out]; rintro e' W3 ⟨rfl, hb3⟩; have HA3 : Hid (AtN w N (N + 1) b a l g e qa ql W3) := (HA.out.later (below1 _ _)).later hb3; have x1 := HA3.out.x1)
      go_ret
      exact ⟨rfl, HA3.out.b⟩
  obtain ⟨rfl, q0, q1⟩ := hall
  have k1 : ¬ ql < 0 := by omega
  have k2 : ¬ ql > 32 := by omega
  go_upto_region 6 with (go_at_call 11; refine (HC.out.may _ _ _ [⟨b, a, l, g, e, 0, 0⟩] _ hr).mono ?_; rw [HM.out]; rintro e' W3 ⟨rfl, hb3⟩; have HA3 : Hid (AtN w N (N + 1) b a l g e qa ql W3) := (HA.out.later (below1 _ _)).later hb3; have x1 := HA3.out.x1)
  have hu := HU.out
  obtain ⟨-, hu2⟩ := Bool.and_eq_true_iff.1 hu
  have hl0 : 0 ≤ l := (may_len (Bool.and_eq_true_iff.1 hu).1).1
  rw [decide_eq_true_eq] at hu2
  simp only at hu2
  obtain ⟨l, rfl⟩ := Int.eq_ofNat_of_zero_le hl0
  obtain ⟨g, rfl⟩ := Int.eq_ofNat_of_zero_le (show 0 ≤ g by omega)
  obtain ⟨e, rfl⟩ := Int.eq_ofNat_of_zero_le (show 0 ≤ e by omega)
  obtain ⟨ql, rfl⟩ := Int.eq_ofNat_of_zero_le q0
  obtain ⟨a, rfl⟩ := Int.eq_ofNat_of_zero_le HO.out.a0
  obtain ⟨qa, rfl⟩ := Int.eq_ofNat_of_zero_le HQ.out.1.1
  have ha : a < 4294967296 := by have := HO.out.a1; simp only at this; omega
  have hqa : qa < 4294967296 := by have := HQ.out.1.2; omega
  have HL : Hid (_) := lens_fit (b := b) ha hqa (show ql ≤ 32 by omega) hu
  clear hu hu2 hl0 hb3 hr c0 c1 c2 c3 c4 c5 c6 x0
  obtain ⟨⟨c0, c1, c2, c3, c4, c5, c6⟩, x0, -, -⟩ := HA3.out
  simp only at c0 c1 c2 c3 c4 c5 c6
  have hr : RowU (W3.alloc (objU b a l g e 0 0)) (some ⟨W3.heap.size, 0, none⟩) 1 [⟨b, a, l, g, e, 0, 0⟩] := rowU_one (U7.new W3 b a l g e 0 0) rfl HO.out
  have y0 := cell_later (below1 W3 (objU b a l g e 0 0)) x0
  have y1 := cell_later (below1 W3 (objU b a l g e 0 0)) HA3.out.x1
  obtain ⟨c, hc⟩ : ∃ c, fitR ⟨b, (a : Int), (l : Int), (g : Int), (e : Int), 0, 0⟩ (qa : Int) (ql : Int) 65535 = c := ⟨_, rfl⟩
  obtain ⟨pb, hpb⟩ : ∃ c, perB (qa : Int) (ql : Int) 65535 [⟨b, (a : Int), (l : Int), (g : Int), (e : Int), 0, 0⟩] = c := ⟨_, rfl⟩
  obtain ⟨pi, hpi⟩ : ∃ c, perI (qa : Int) (ql : Int) 65535 [⟨b, (a : Int), (l : Int), (g : Int), (e : Int), 0, 0⟩] = c := ⟨_, rfl⟩
  have HP : Hid (perB (qa : Int) (ql : Int) 65535 [⟨b, (a : Int), (l : Int), (g : Int), (e : Int), 0, 0⟩] = pb ∧ perI (qa : Int) (ql : Int) 65535 [⟨b, (a : Int), (l : Int), (g : Int), (e : Int), 0, 0⟩] = pi) := ⟨hpb, hpi⟩
  have hpc : (pi == 0) = c := by rw [← hpi, (one_fit hc).2]; cases c <;> rfl
  obtain ⟨in0, hin⟩ : ∃ c, decide (g ≤ ql ∧ ql ≤ e) = c := ⟨_, rfl⟩
  have HC0 : Hid (c = (in0 && lensK a l qa ql 32)) := by unfold Hid; rw [← hc, HL.out, hin]
  have HIn : Hid (decide (g ≤ ql ∧ ql ≤ e) = in0) := hin
  clear hc hpb hpi hin
  go_upto_region 7 with (go_at_call 9; refine (HC.out.permits _ _ _ [⟨b, (a : Int), (l : Int), (g : Int), (e : Int), 0, 0⟩] (qa : Int) (ql : Int) 65535 _ hr (by decide) HQ.out.1 HQ.out.2 (by decide)).mono ?_; rw [HP.out.1, HP.out.2]; rintro e' W4 ⟨rfl, hb4⟩; have HA4 : Hid (AtN w N (N + 1) b a l g e qa ql W4) := (HA3.out.later (below1 _ _)).later hb4)
  clear hb4 hr c0 c1 c2 c3 c4 c5 c6 x0 x1 y0 y1
  obtain ⟨⟨c0, c1, c2, c3, c4, c5, c6⟩, x0, x1, -⟩ := HA4.out
  simp only at c0 c1 c2 c3 c4 c5 c6
  go_cut [8] from 40 to 51 (fun v wx => v = .bool in0 ∧ wx = W4)
  case first =>
    by_cases j1 : g ≤ ql
    · have j1' : (g : Int) ≤ (ql : Int) := by omega
      by_cases j2 : ql ≤ e
      · have j2' : (ql : Int) ≤ (e : Int) := by omega
        obtain rfl : in0 = true := by rw [← HIn.out]; exact decide_eq_true ⟨j1, j2⟩
        go_wp2_with fail
        go_meet
        exact ⟨rfl, rfl⟩
      · have j2' : ¬ (ql : Int) ≤ (e : Int) := by omega
        obtain rfl : in0 = false := by rw [← HIn.out]; exact decide_eq_false (fun h => j2 h.2)
        go_wp2_with fail
        go_meet
        exact ⟨rfl, rfl⟩
    · have j1' : ¬ (g : Int) ≤ (ql : Int) := by omega
      obtain rfl : in0 = false := by rw [← HIn.out]; exact decide_eq_false (fun h => j1 h.1)
      go_wp2_with fail
      go_meet
      exact ⟨rfl, rfl⟩
  case rest =>
    obtain ⟨rfl, rfl⟩ := hcut
    go_wp2
    go_loop [8, 9, 10] (fun in_ i_ _ => ∃ (k : Nat) (d : Bool), k ≤ 32 ∧ i_ = .int .i64 k ∧ in_ = .bool d ∧ Hid (d = (in0 && lensK a l qa ql k))) (fun _ i_ _ => 32 - (intOf i_).toNat)
    case atStart => exact ⟨0, in0, by omega, rfl, rfl, by unfold Hid; rw [show lensK a l qa ql 0 = true from rfl, Bool.and_true]⟩
    case round =>
      obtain ⟨k, d, hk, rfl, rfl, HD⟩ := hrel
      by_cases hlt : k < 32
      · have hlt' : (k : Int) < 32 := by omega
        obtain ⟨p, hp⟩ : ∃ p, 2 ^ (31 - k) = p := ⟨_, rfl⟩
        have hp0 : 0 < p := by rw [← hp]; exact Nat.two_pow_pos _
        obtain ⟨tq, htq⟩ : ∃ c, qa.testBit (31 - k) = c := ⟨_, rfl⟩
        obtain ⟨ta, hta⟩ : ∃ c, a.testBit (31 - k) = c := ⟨_, rfl⟩
        obtain ⟨u, hu⟩ : ∃ u : Int, (if tq = true then (p : Int) else 0) = u := ⟨_, rfl⟩
        obtain ⟨v, hv⟩ : ∃ v : Int, (if ta = true then (p : Int) else 0) = v := ⟨_, rfl⟩
        have e1 : bits .and .u32 (qa : Int) ((2 : Int) ^ (31 - k) % 4294967296) = u := by rw [and_shl hqa hlt, htq, hp]; exact hu
        have e2 : bits .and .u32 (a : Int) ((2 : Int) ^ (31 - k) % 4294967296) = v := by rw [and_shl ha hlt, hta, hp]; exact hv
        have f1 : (u != v) = (tq != ta) := by
          rw [← hu, ← hv]
          cases tq <;> cases ta <;> simp <;> omega
        have f2 : (u != 0) = tq := by
          rw [← hu]
          cases tq <;> simp <;> omega
        have HN : Hid ((d && !(decide (k < l) && (tq != ta) || decide (ql ≤ k) && tq)) = (in0 && lensK a l qa ql (k + 1))) := by
          unfold Hid; rw [lensK_succ, htq, hta, HD.out, Bool.and_assoc]
        obtain ⟨c1, hc1⟩ : ∃ c, (tq != ta) = c := ⟨_, rfl⟩
        rw [hc1] at f1 HN
        clear hp htq hta hu hv hc1
        have hway : (k < l ∧ c1 = true) ∨ (¬ (k < l ∧ c1 = true) ∧ ql ≤ k ∧ tq = true) ∨ (¬ (k < l ∧ c1 = true) ∧ ¬ (ql ≤ k ∧ tq = true)) := by
          by_cases h1 : k < l ∧ c1 = true
          · exact .inl h1
          · by_cases h2 : ql ≤ k ∧ tq = true
            · exact .inr (.inl ⟨h1, h2⟩)
            · exact .inr (.inr ⟨h1, h2⟩)
        rcases hway with ⟨k3, rfl⟩ | ⟨h1, k4, rfl⟩ | ⟨h1, h2⟩
        · have k3' : (k : Int) < (l : Int) := by omega
          have HN' : Hid (false = (in0 && lensK a l qa ql (k + 1))) := by unfold Hid; rw [← HN.out, decide_eq_true k3]; simp
          go_wp2
          go_round
          case rel => exact ⟨k + 1, false, by omega, by go_num, rfl, HN'⟩
          case measure => simp [intOf]; omega
        · have HN' : Hid (false = (in0 && lensK a l qa ql (k + 1))) := by unfold Hid; rw [← HN.out, decide_eq_true k4]; simp
          have k4' : (ql : Int) ≤ (k : Int) := by omega
          by_cases k3 : k < l
          · have k3' : (k : Int) < (l : Int) := by omega
            obtain rfl : c1 = false := by cases c1; rfl; exact absurd ⟨k3, rfl⟩ h1
            go_wp2
            go_round
            case rel => exact ⟨k + 1, false, by omega, by go_num, rfl, HN'⟩
            case measure => simp [intOf]; omega
          · have k3' : ¬ (k : Int) < (l : Int) := by omega
            go_wp2
            go_round
            case rel => exact ⟨k + 1, false, by omega, by go_num, rfl, HN'⟩
            case measure => simp [intOf]; omega
        · have HN' : Hid (d = (in0 && lensK a l qa ql (k + 1))) := by
            unfold Hid
            rw [← HN.out]
            have a1 : (decide (k < l) && c1) = false := by
              cases c1
              · simp
              · simp only [and_true] at h1; simp [h1]
            have a2 : (decide (ql ≤ k) && tq) = false := by
              cases tq
              · simp
              · simp only [and_true] at h2; simp [h2]
            rw [a1, a2]; simp
          by_cases k3 : k < l
          all_goals by_cases k4 : ql ≤ k
          · have k3' : (k : Int) < (l : Int) := by omega
            have k4' : (ql : Int) ≤ (k : Int) := by omega
            obtain rfl : c1 = false := by cases c1; rfl; exact absurd ⟨k3, rfl⟩ h1
            obtain rfl : tq = false := by cases tq; rfl; exact absurd ⟨k4, rfl⟩ h2
            go_wp2
            go_round
            case rel => exact ⟨k + 1, d, by omega, by go_num, rfl, HN'⟩
            case measure => simp [intOf]; omega
          · have k3' : (k : Int) < (l : Int) := by omega
            have k4' : ¬ (ql : Int) ≤ (k : Int) := by omega
            obtain rfl : c1 = false := by cases c1; rfl; exact absurd ⟨k3, rfl⟩ h1
            go_wp2
            go_round
            case rel => exact ⟨k + 1, d, by omega, by go_num, rfl, HN'⟩
            case measure => simp [intOf]; omega
          · have k3' : ¬ (k : Int) < (l : Int) := by omega
            have k4' : (ql : Int) ≤ (k : Int) := by omega
            obtain rfl : tq = false := by cases tq; rfl; exact absurd ⟨k4, rfl⟩ h2
            go_wp2
            go_round
            case rel => exact ⟨k + 1, d, by omega, by go_num, rfl, HN'⟩
            case measure => simp [intOf]; omega
          · have k3' : ¬ (k : Int) < (l : Int) := by omega
            have k4' : ¬ (ql : Int) ≤ (k : Int) := by omega
            go_wp2
            go_round
            case rel => exact ⟨k + 1, d, by omega, by go_num, rfl, HN'⟩
            case measure => simp [intOf]; omega
      · have hlt' : ¬ (k : Int) < 32 := by omega
        obtain rfl : k = 32 := by omega
        obtain rfl : d = c := HD.out.trans HC0.out.symm
        clear HD HC0
        go_wp2
        go_ret
        exact ⟨rfl, by rw [← hN]; exact HA4.out.b⟩
end Go.Proofs.Ytmmhnpekbfmonaa
