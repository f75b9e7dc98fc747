/- Contracts of the document's own for routes: May, Better, ahead. -/
import Derived.Test.YtcabeclbdjfoaaaRowO
namespace Go.Proofs.Ytcabeclbdjfoaaa
open Go.RowKit

theorem mayR_iff {a l d s m n t : Int} : mayR ⟨a, l, d, s, m, n, t⟩ = (mayB a l && decide (0 ≤ d) && decide (d < 16) && decide (0 ≤ s) && decide (s ≤ 255) && decide (0 ≤ m) && decide (m ≤ 4294967295) && decide (0 ≤ n) && decide (n ≤ 32)) := by
  unfold mayR
  simp [Bool.and_assoc, Bool.decide_and]
set_option maxHeartbeats 1000000 in
theorem refMayR_any (a l d s m n t : Int) (w : World) (ok : Rt.Ok ⟨a, l, d, s, m, n, t⟩) {v : Bool} (hv : mayR ⟨a, l, d, s, m, n, t⟩ = v) :
    Calls Try.prog 12 #[valR a l d s m n t] w fun e w' => e = .returned (.bool v) ∧ Below w.heap.size w w' := by
  rw [mayR_iff] at hv
  have a0 := ok.a0
  have a1 := ok.a1
  have l0 := ok.l0
  have l1 := ok.l1
  simp only at a0 a1 l0 l1
  clear ok
  obtain ⟨b, hm⟩ : ∃ b, mayB a l = b := ⟨_, rfl⟩
  obtain ⟨c0, k0⟩ : ∃ b, decide (0 ≤ d) = b := ⟨_, rfl⟩
  obtain ⟨c1, k1⟩ : ∃ b, decide (d < 16) = b := ⟨_, rfl⟩
  obtain ⟨c2, k2⟩ : ∃ b, decide (0 ≤ s) = b := ⟨_, rfl⟩
  obtain ⟨c3, k3⟩ : ∃ b, decide (s ≤ 255) = b := ⟨_, rfl⟩
  obtain ⟨c4, k4⟩ : ∃ b, decide (0 ≤ m) = b := ⟨_, rfl⟩
  obtain ⟨c5, k5⟩ : ∃ b, decide (m ≤ 4294967295) = b := ⟨_, rfl⟩
  obtain ⟨c6, k6⟩ : ∃ b, decide (0 ≤ n) = b := ⟨_, rfl⟩
  obtain ⟨c7, k7⟩ : ∃ b, decide (n ≤ 32) = b := ⟨_, rfl⟩
  rw [hm, k0, k1, k2, k3, k4, k5, k6, k7] at hv
  have HV : Hid ((b && c0 && c1 && c2 && c3 && c4 && c5 && c6 && c7) = v) := hv
  clear hv
  go_enter Try.func12, Try.ntmps12
  go_wp2_with (go_at_call 30; refine (refMay_any _ _ _ a0 a1 l0 l1 hm).mono ?_; rintro e w' ⟨rfl, hb⟩; obtain ⟨x0, x1, x2, x3, x4, x5, x6⟩ := ((R7.new w a l d s m n t).later (by simpa using hb)).z; have HB : Hid (Below w.heap.size w w') := (below1 _ _).trans (hb.mono (by simp)); clear hb)
  all_goals
    go_ret
    refine ⟨ret_bool ?_, HB.out⟩
    have h := HV.out
    simp_all
theorem dpt_nat (t : Nat) : dpt (t : Int) = dep t := by simp [dpt]
abbrev w2R (w : World) (a l d s m n t a' l' d' s' m' n' t' : Int) : World := (w.alloc (objR a l d s m n t)).alloc (objR a' l' d' s' m' n' t')
theorem two_R (w : World) (a l d s m n t a' l' d' s' m' n' t' : Int) {W : World} (hb : Below (w2R w a l d s m n t a' l' d' s' m' n' t').heap.size (w2R w a l d s m n t a' l' d' s' m' n' t') W) :
    R7 W w.heap.size 0 ⟨a, l, d, s, m, n, t⟩ ∧ R7 W (w.heap.size + 1) 0 ⟨a', l', d', s', m', n', t'⟩ ∧ Below w.heap.size w W :=
  ⟨((R7.new w a l d s m n t).later (below1 _ _)).later hb, (R7.newAt (w.alloc (objR a l d s m n t)) (w.heap.size + 1) (by simp) a' l' d' s' m' n' t').later hb, Below.out2 hb⟩
set_option maxHeartbeats 1000000 in
theorem refBetter_any (a l d s m n a' l' d' s' m' n' : Int) (t t' : Nat) (w : World) (ht : t < 65536) (ht' : t' < 65536) {v : Bool} (hv : bet ⟨a, l, d, s, m, n, t⟩ ⟨a', l', d', s', m', n', t'⟩ = v) :
    Calls Try.prog 14 #[valR a l d s m n t, valR a' l' d' s' m' n' t'] w fun e w' => e = .returned (.bool v) ∧ Below w.heap.size w w' := by
  obtain ⟨u, hu⟩ : ∃ u, u = dep t := ⟨_, rfl⟩
  obtain ⟨u', hu'⟩ : ∃ u, u = dep t' := ⟨_, rfl⟩
  have HV : Hid ((u < u' ∨ u = u' ∧ (s < s' ∨ s = s' ∧ (m < m' ∨ m = m' ∧ (d < d' ∨ d = d' ∧ (n < n' ∨ n = n' ∧ (t : Int) < t'))))) ↔ v = true) := by
    unfold Hid; rw [← hv, bet_iff, hu, hu', Rt.lt, dpt_nat, dpt_nat]
  have c1 := refDepth_any t
  have c2 := refDepth_any t'
  rw [← hu] at c1
  rw [← hu'] at c2
  clear hv hu hu'
  obtain ⟨⟨x0, x1, x2, x3, x4, x5, x6⟩, ⟨y0, y1, y2, y3, y4, y5, y6⟩, hB⟩ := two_R w a l d s m n t a' l' d' s' m' n' t' (Below.refl _ _)
  simp only [Nat.zero_add] at x0 x1 x2 x3 x4 x5 x6 y0 y1 y2 y3 y4 y5 y6
  have key : (((u : Int) != u') = true) ∨ (((u : Int) != u') = false ∧ (s != s') = true) ∨ (((u : Int) != u') = false ∧ (s != s') = false ∧ (m != m') = true) ∨ (((u : Int) != u') = false ∧ (s != s') = false ∧ (m != m') = false ∧ (d != d') = true) ∨ (((u : Int) != u') = false ∧ (s != s') = false ∧ (m != m') = false ∧ (d != d') = false ∧ (n != n') = true) ∨ (((u : Int) != u') = false ∧ (s != s') = false ∧ (m != m') = false ∧ (d != d') = false ∧ (n != n') = false) := by
    cases ((u : Int) != u') <;> cases (s != s') <;> cases (m != m') <;> cases (d != d') <;> cases (n != n') <;> simp
  rcases key with h0 | ⟨h0, h1⟩ | ⟨h0, h1, h2⟩ | ⟨h0, h1, h2, h3⟩ | ⟨h0, h1, h2, h3, h4⟩ | ⟨h0, h1, h2, h3, h4⟩
  all_goals
    go_enter Try.func14, Try.ntmps14
    go_wp2_with (first
      | (go_at_call_of 32 (Value.int .u16 (t : Int)); refine (c1 _ ht).mono ?_; rintro e w' ⟨rfl, rfl⟩)
      | (go_at_call_of 32 (Value.int .u16 (t' : Int)); refine (c2 _ ht').mono ?_; rintro e w' ⟨rfl, rfl⟩))
    go_ret
    refine ⟨ret_bool ?_, hB⟩
    have h := HV.out
    clear x0 x1 x2 x3 x4 x5 x6 y0 y1 y2 y3 y4 y5 y6 c1 c2 hB HV
    rw [Bool.eq_iff_iff, ← h, decide_eq_true_iff]
    clear h
    simp [bne_eq_false_iff_eq] at *
    omega
theorem run_eqP (pa pl a l : Int) (v : Bool) (h : (pa == a && pl == l) = v) (W : World) : Sem.run Try.prog (binOp .eql 24 (.agg #[.int .u32 pa, .int .i64 pl]) (.agg #[.int .u32 a, .int .i64 l])) W = .ok (.bool v) W := by
  subst h
  by_cases h1 : pa = a
  · subst h1
    by_cases h2 : pl = l
    · subst h2; go_simp
    · have h2' : (pl == l) = false := beq_eq_false_iff_ne.2 h2
      go_simp
  · have h1' : (pa == a) = false := beq_eq_false_iff_ne.2 h1
    go_simp
theorem run_neP (pa pl a l : Int) (v : Bool) (h : (!(pa == a && pl == l)) = v) (W : World) : Sem.run Try.prog (binOp .neq 24 (.agg #[.int .u32 pa, .int .i64 pl]) (.agg #[.int .u32 a, .int .i64 l])) W = .ok (.bool v) W := by
  subst h
  by_cases h1 : pa = a
  · subst h1
    by_cases h2 : pl = l
    · subst h2; go_simp
    · have h2' : (pl == l) = false := beq_eq_false_iff_ne.2 h2
      go_simp
  · have h1' : (pa == a) = false := beq_eq_false_iff_ne.2 h1
    go_simp
def ahB (a l d a' l' d' : Int) : Bool := lessB a l a' l' || (a == a' && l == l') && decide (d < d')
theorem ahB_iff {a l d a' l' d' : Int} : ahB a l d a' l' d' = true ↔ (⟨a, l, d⟩ : Ky).lt ⟨a', l', d'⟩ := by
  unfold ahB lessB Ky.lt
  simp only [Bool.or_eq_true, Bool.and_eq_true, decide_eq_true_iff, beq_iff_eq]
  omega
set_option maxHeartbeats 1000000 in
theorem refAhead_any (a l d s m n t a' l' d' s' m' n' t' : Int) (w : World) {v : Bool} (hv : ahB a l d a' l' d' = v) :
    Calls Try.prog 39 #[valR a l d s m n t, valR a' l' d' s' m' n' t'] w fun e w' => e = .returned (.bool v) ∧ Below w.heap.size w w' := by
  unfold ahB at hv
  obtain ⟨b, hb⟩ : ∃ b, lessB a l a' l' = b := ⟨_, rfl⟩
  obtain ⟨c, hc⟩ : ∃ c, (a == a' && l == l') = c := ⟨_, rfl⟩
  rw [hb, hc] at hv
  have HV : Hid ((b || c && decide (d < d')) = v) := hv
  have he := run_eqP a l a' l' c hc
  clear hv hc
  cases b <;> cases c
  all_goals
    go_enter Try.func39, Try.ntmps39
    go_wp2_with (go_at_call 54; refine (refLess_any _ _ _ _ _ hb).mono ?_; rintro e w' ⟨rfl, hB⟩; obtain ⟨⟨x0, x1, x2, x3, x4, x5, x6⟩, ⟨y0, y1, y2, y3, y4, y5, y6⟩, hB'⟩ := two_R w a l d s m n t a' l' d' s' m' n' t' hB; simp only [Nat.zero_add] at x0 x1 x2 x3 x4 x5 x6 y0 y1 y2 y3 y4 y5 y6)
  all_goals
    go_ret
    refine ⟨ret_bool ?_, hB'⟩
    have h := HV.out
    simpa using h
end Go.Proofs.Ytcabeclbdjfoaaa
