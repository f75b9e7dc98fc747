/- The contract of the document's Same. -/
import Derived.Test.YtakikkigkmcffaaCK2
namespace Go.Proofs.Ytakikkigkmcffaa
open Go.RowKit

theorem same_at {ts us : List Tlv} {k : Nat} {p q : Tlv} (h : ts[k]? = some p) (h' : us[k]? = some q) (hne : p ≠ q) : decide (ts = us) = false := by
  rw [decide_eq_false_iff_not]
  rintro rfl
  rw [h] at h'
  simp at h'
  exact hne h'
theorem take_both {ts us : List Tlv} {k : Nat} {p : Tlv} (h : ts[k]? = some p) (h' : us[k]? = some p) (ht : ts.take k = us.take k) : ts.take (k + 1) = us.take (k + 1) := by
  have hk : k < ts.length := (List.getElem?_eq_some_iff.1 h).1
  have hk' : k < us.length := (List.getElem?_eq_some_iff.1 h').1
  rw [List.take_succ_eq_append_getElem hk, List.take_succ_eq_append_getElem hk', ht, (List.getElem?_eq_some_iff.1 h).2, (List.getElem?_eq_some_iff.1 h').2]
set_option maxHeartbeats 2000000 in
theorem same_any (a : Option Addr) (n cap : Nat) (ts : List Tlv) (b : Option Addr) (m cap' : Nat) (us : List Tlv) (w : World) (hr : RowT w a n ts) (hs : RowT w b m us) (hn : n ≤ 5000) {v : Bool} (hv : decide (ts = us) = v) :
    Calls Try.prog 18 #[.slice a n cap, .slice b m cap'] w fun e w' => e = .returned (.bool v) ∧ Below w.heap.size w w' := by
  subst hv
  have HR : Hid (RowT w a n ts) := hr
  have HS : Hid (RowT w b m us) := hs
  have HL : Hid (ts.length = n) := hr.1
  have HM : Hid (us.length = m) := hs.1
  clear hr hs
  by_cases hl : n = m
  · subst hl
    go_enter Try.func18, Try.ntmps18
    go_wp2
    go_loopw [5] (fun i W => ∃ j d : Nat, j ≤ n ∧ i = .int .i64 j ∧ W = w.drewN d ∧ Hid (ts.take j = us.take j)) (fun i _ => n - (intOf i).toNat)
    case atStart => exact ⟨0, 0, Nat.zero_le _, rfl, rfl, rfl⟩
    case round =>
      obtain ⟨j, d, hj, rfl, rfl, HT⟩ := hrel
      by_cases hlt : j < n
      · have hlt' : (j : Int) < (n : Int) := by omega
        obtain ⟨⟨k1, s1, i1, c1, a1, l1, r1, t1, h1⟩, b1, off1, he1, -, rfl, h9⟩ := HR.out.at hlt
        obtain ⟨⟨k2, s2, i2, c2, a2, l2, r2, t2, h2⟩, b2, off2, he2, -, rfl, h9'⟩ := HS.out.at hlt
        obtain ⟨d0, d1, d2, d3, d4, d5, d6, d7, d8⟩ := h9
        obtain ⟨f0, f1, f2, f3, f4, f5, f6, f7, f8⟩ := h9'
        simp only at d0 d1 d2 d3 d4 d5 d6 d7 d8 f0 f1 f2 f3 f4 f5 f6 f7 f8
        by_cases heq : k1 = k2 ∧ s1 = s2 ∧ i1 = i2 ∧ c1 = c2 ∧ a1 = a2 ∧ l1 = l2 ∧ r1 = r2 ∧ t1 = t2 ∧ h1 = h2
        · obtain ⟨rfl, rfl, rfl, rfl, rfl, rfl, rfl, rfl, rfl⟩ := heq
          have HT' : Hid (ts.take (j + 1) = us.take (j + 1)) := take_both he1 he2 HT.out
          clear he1 he2
          go_wp2
          go_quiet (fail)
          go_wp2
          go_roundw
          case rel => exact ⟨j + 1, _, by omega, by go_num, rfl, HT'⟩
          case measure => simp [intOf]; omega
        · have HF : Hid (decide (ts = us) = false) := same_at he1 he2 (by rintro ⟨rfl, rfl, rfl, rfl, rfl, rfl, rfl, rfl, rfl⟩; exact heq ⟨rfl, rfl, rfl, rfl, rfl, rfl, rfl, rfl, rfl⟩)
          have hd := nine_ne heq
          clear he1 he2 heq
          rcases hd with e | ⟨rfl, e⟩ | ⟨rfl, rfl, e⟩ | ⟨rfl, rfl, rfl, e⟩ | ⟨rfl, rfl, rfl, rfl, e⟩ | ⟨rfl, rfl, rfl, rfl, rfl, e⟩ | ⟨rfl, rfl, rfl, rfl, rfl, rfl, e⟩ | ⟨rfl, rfl, rfl, rfl, rfl, rfl, rfl, e⟩ | ⟨rfl, rfl, rfl, rfl, rfl, rfl, rfl, rfl, e⟩
          all_goals
            have hb := beq_eq_false_iff_ne.2 e
            clear e
            go_wp2
            go_quiet (fail)
            go_wp2
            go_ret
            exact ⟨ret_bool HF.out.symm, below_drewN (below_drewN (Below.refl _ _) _) _⟩
      · obtain rfl : j = n := by omega
        have HE : Hid (decide (ts = us) = true) := by
          have := HT.out
          rw [List.take_of_length_le (by rw [HL.out]; exact Nat.le_refl _), List.take_of_length_le (by rw [HM.out]; exact Nat.le_refl _)] at this
          unfold Hid; rw [decide_eq_true_eq]; exact this
        go_wp2
        go_ret
        exact ⟨ret_bool HE.out.symm, below_drewN (Below.refl _ _) _⟩
  · have HF : Hid (decide (ts = us) = false) := by unfold Hid; rw [decide_eq_false_iff_not]; rintro rfl; exact hl (by rw [← HL.out, ← HM.out])
    have e1 : ((n : Int) != (m : Int)) = true := by rw [bne_iff_ne]; omega
    clear hl
    go_enter Try.func18, Try.ntmps18
    go_wp2
    go_ret
    exact ⟨ret_bool HF.out.symm, Below.refl _ _⟩
end Go.Proofs.Ytakikkigkmcffaa
