/- Contracts of the program's rib: mayBe, isLess, Better. -/
import Derived.Test.YtcabeclbdjfoaaaRibF
import Derived.Test.YtcabeclbdjfoaaaTagZ
namespace Go.Proofs.Ytcabeclbdjfoaaa
open Go.RowKit

set_option maxHeartbeats 1000000 in
theorem mayBe_any (a l d s m n t : Int) (w : World) (ok : Rt.Ok ⟨a, l, d, s, m, n, t⟩) {v : Bool} (hv : mayR ⟨a, l, d, s, m, n, t⟩ = v) :
    Calls Try.prog 34 #[valR a l d s m n t] w fun e w' => e = .returned (.bool v) ∧ Below w.heap.size w w' := by
  rw [mayR_iff] at hv
  have a0 := ok.a0
  have a1 := ok.a1
  simp only at a0 a1
  clear ok
  obtain ⟨b, hm⟩ : ∃ b, mayB a l = b := ⟨_, rfl⟩
  obtain ⟨c0, k0⟩ : ∃ b, decide (0 ≤ d) = b := ⟨_, rfl⟩
  obtain ⟨c1, k1⟩ : ∃ b, decide (d < 16) = b := ⟨_, rfl⟩
  obtain ⟨c2, k2⟩ : ∃ b, decide (0 ≤ s) = b := ⟨_, rfl⟩
  obtain ⟨c3, k3⟩ : ∃ b, decide (s ≤ 255) = b := ⟨_, rfl⟩
  obtain ⟨c4, k4⟩ : ∃ b, decide (0 ≤ m) = b := ⟨_, rfl⟩
  obtain ⟨c5, k5⟩ : ∃ b, decide (m ≤ 4294967295) = b := ⟨_, rfl⟩
  obtain ⟨c6, k6⟩ : ∃ b, decide (0 ≤ n) = b := ⟨_, rfl⟩
  obtain ⟨c7, k7⟩ : ∃ b, decide (n ≤ 32) = b := ⟨_, rfl⟩
  rw [hm, k0, k1, k2, k3, k4, k5, k6, k7] at hv
  have HV : Hid ((b && c0 && c1 && c2 && c3 && c4 && c5 && c6 && c7) = v) := hv
  clear hv
  go_enter Try.func34, Try.ntmps34
  go_wp2_with (go_at_call 45; refine (may_any _ _ _ a0 a1 hm).mono ?_; rintro e w' ⟨rfl, hb⟩; obtain ⟨x0, x1, x2, x3, x4, x5, x6⟩ := ((R7.new w a l d s m n t).later (by simpa using hb)).z; have HB : Hid (Below w.heap.size w w') := (below1 _ _).trans (hb.mono (by simp)); clear hb)
  all_goals
    go_ret
    refine ⟨ret_bool ?_, HB.out⟩
    have h := HV.out
    simp_all
/-- By the first two that differ. -/
def lsP : List (Int × Int) → Bool
  | [] => false
  | x :: r => if x.1 = x.2 then lsP r else decide (x.1 < x.2)
theorem isLess_any (g n cap : Nat) (ps : List (Int × Int)) (w : World) (hn : ps.length = n) (hc : ∀ i x, ps[i]? = some x → w.cell? ⟨g, i * 2, none⟩ = some (.int .i64 x.1) ∧ w.cell? ⟨g, i * 2 + 1, none⟩ = some (.int .i64 x.2)) (hn1 : n ≤ 100) :
    Calls Try.prog 31 #[.slice (some ⟨g, 0, none⟩) n cap] w fun e w' => e = .returned (.bool (lsP ps)) ∧ Below w.heap.size w w' := by
  have HC : Hid (∀ i x, ps[i]? = some x → w.cell? ⟨g, i * 2, none⟩ = some (.int .i64 x.1) ∧ w.cell? ⟨g, i * 2 + 1, none⟩ = some (.int .i64 x.2)) := hc
  have HN : Hid (ps.length = n) := hn
  clear hc hn
  go_enter Try.func31, Try.ntmps31
  go_wp2
  go_loopw [7] (fun i_ W => ∃ (j : Nat), j ≤ n ∧ i_ = .int .i64 j ∧ Hid (lsP (ps.drop j) = lsP ps) ∧ Below w.heap.size w W) (fun i_ _ => n - (intOf i_).toNat)
  case atStart => exact ⟨0, Nat.zero_le _, rfl, rfl, Below.refl _ _⟩
  case round =>
    obtain ⟨j, hj, rfl, HL, hB⟩ := hrel
    have HB : Hid (Below w.heap.size w wr) := hB
    by_cases hlt : j < n
    · have hlt' : (j : Int) < (n : Int) := by omega
      have hl : j < ps.length := by rw [HN.out]; exact hlt
      obtain ⟨⟨x, y⟩, hxy⟩ : ∃ p, ps[j] = p := ⟨_, rfl⟩
      have he : ps[j]? = some (x, y) := by rw [List.getElem?_eq_getElem hl, hxy]
      obtain ⟨d0, d1⟩ := HC.out j _ he
      have d0 := cell_later hB d0
      have d1 := cell_later hB d1
      simp only at d0 d1
      have HD : Hid (lsP (ps.drop j) = if x = y then lsP (ps.drop (j + 1)) else decide (x < y)) := by
        unfold Hid
        rw [List.drop_eq_getElem_cons hl, hxy]
        rfl
      clear hxy he hB
      by_cases hx : x = y
      · have hne : (x != y) = false := by rw [bne_eq_false_iff_eq]; exact hx
        have HE : Hid (lsP (ps.drop (j + 1)) = lsP ps) := by unfold Hid; have := HD.out; rw [if_pos hx] at this; rw [← this]; exact HL.out
        clear hx HD HL
        go_wp2
        go_roundw
        case rel => exact ⟨j + 1, by omega, by go_num, HE, HB.out.alloc HB.out.size _⟩
        case measure => simp [intOf]; omega
      · have hne : (x != y) = true := by rw [bne_iff_ne]; exact hx
        have HE : Hid (decide (x < y) = lsP ps) := by unfold Hid; have := HD.out; rw [if_neg hx] at this; rw [← this]; exact HL.out
        clear hx HD HL
        go_wp2
        go_ret
        exact ⟨ret_bool HE.out, HB.out.alloc HB.out.size _⟩
    · have hlt' : ¬ (j : Int) < (n : Int) := by omega
      have HE : Hid (false = lsP ps) := by
        unfold Hid
        rw [← HL.out, List.drop_eq_nil_of_le (by rw [HN.out]; omega)]
        rfl
      go_wp2
      go_ret
      exact ⟨ret_bool HE.out, HB.out⟩
theorem six_cells (W : World) (T : TypeId) (a0 b0 a1 b1 a2 b2 a3 b3 a4 b4 a5 b5 : Int) :
    ∀ i x, [(a0, b0), (a1, b1), (a2, b2), (a3, b3), (a4, b4), (a5, b5)][i]? = some x →
      (W.alloc (.cells #[.int .i64 a0, .int .i64 b0, .int .i64 a1, .int .i64 b1, .int .i64 a2, .int .i64 b2, .int .i64 a3, .int .i64 b3, .int .i64 a4, .int .i64 b4, .int .i64 a5, .int .i64 b5] T)).cell? ⟨W.heap.size, i * 2, none⟩ = some (.int .i64 x.1) ∧
      (W.alloc (.cells #[.int .i64 a0, .int .i64 b0, .int .i64 a1, .int .i64 b1, .int .i64 a2, .int .i64 b2, .int .i64 a3, .int .i64 b3, .int .i64 a4, .int .i64 b4, .int .i64 a5, .int .i64 b5] T)).cell? ⟨W.heap.size, i * 2 + 1, none⟩ = some (.int .i64 x.2) := by
  intro i x h
  match i, h with
  | 0, h | 1, h | 2, h | 3, h | 4, h | 5, h =>
    simp at h
    subst h
    simp [go_sem]
  | n + 6, h => simp at h
theorem bet_six {a l d s m n a' l' d' s' m' n' : Int} {t t' : Nat} : lsP [((dep t : Int), (dep t' : Int)), (s, s'), (m, m'), (d, d'), (n, n'), ((t : Int), (t' : Int))] = bet ⟨a, l, d, s, m, n, t⟩ ⟨a', l', d', s', m', n', t'⟩ := by
  rw [Bool.eq_iff_iff, bet_iff, Rt.lt, dpt_nat, dpt_nat]
  simp only [lsP]
  repeat' split
  all_goals first | (simp only [decide_eq_true_eq]; omega) | (simp only [Bool.false_eq_true, false_iff]; omega)
end Go.Proofs.Ytcabeclbdjfoaaa
