/- The document's filter: May. -/
import Derived.Test.YtmmhnpekbfmonaaFilR
namespace Go.Proofs.Ytmmhnpekbfmonaa
open Go.RowKit

set_option maxHeartbeats 4000000 in
theorem refMayL_any (ad : Option Addr) (n cap : Nat) (L : List Ru) (w : World) (hr : RowU w ad n L) {b : Bool} (hb : mayL L = b) :
    Calls Try.prog 12 #[.slice ad n cap] w fun e w' => e = .returned (.bool b) ∧ Below w.heap.size w w' := by
  have HRow : Hid (RowU w ad n L) := hr
  have HN : Hid (L.length = n) := hr.1
  have HV : Hid (mayL L = b) := hb
  clear hr hb
  by_cases h32 : n ≤ 32
  · have h32' : ¬ (n : Int) > 32 := by omega
    go_enter Try.func12, Try.ntmps12
    go_wp2
    go_loopw [3] (fun i_ W => ∃ (j : Nat), j ≤ n ∧ i_ = .int .i64 j ∧ Hid (∀ i, i < j → ∀ q, L[i]? = some q → mayU q = true) ∧ Below w.heap.size w W) (fun i_ _ => n - (intOf i_).toNat)
    case atStart => exact ⟨0, Nat.zero_le _, rfl, fun i hi => by omega, Below.refl _ _⟩
    case round =>
      obtain ⟨j, hj, rfl, HJ, hB⟩ := hrel
      have HB : Hid (Below w.heap.size w wr) := hB
      by_cases hlt : j < n
      · have hlt' : (j : Int) < (n : Int) := by omega
        obtain ⟨⟨m, a, l, g, e, h, nn⟩, bk, off, he, hok, rfl, q7⟩ := (HRow.out.later hB).at hlt
        have HE : Hid (L[j]? = some ⟨m, a, l, g, e, h, nn⟩) := he
        have HO : Hid (Ru.Ok ⟨m, a, l, g, e, h, nn⟩) := hok
        have hg0 := hok.g0; have hg1 := hok.g1; have he0 := hok.e0; have he1 := hok.e1; have hl0 := hok.l0; have hl1 := hok.l1
        simp only at hg0 hg1 he0 he1 hl0 hl1
        clear he hok hB
        obtain ⟨c, hc⟩ : ∃ c, mayB a l = c := ⟨_, rfl⟩
        have HF : Hid (mayB a l = c) := hc
        have HU : Hid (mayU ⟨m, a, l, g, e, h, nn⟩ = (c && decide (l ≤ g ∧ g ≤ e ∧ e ≤ 32))) := by unfold Hid mayU; rw [hc]
        clear hc
        obtain ⟨c0, c1, c2, c3, c4, c5, c6⟩ := q7
        simp only at c0 c1 c2 c3 c4 c5 c6
        by_cases hall : c = true ∧ l ≤ g ∧ g ≤ e ∧ e ≤ 32
        · obtain ⟨rfl, k1, k2, k3⟩ := hall
          have HJ' : Hid (∀ i, i < j + 1 → ∀ q, L[i]? = some q → mayU q = true) := fun i hi q hq => by
            by_cases hij : i = j
            · subst hij; rw [HE.out] at hq; simp only [Option.some.injEq] at hq; subst hq; rw [HU.out, decide_eq_true ⟨k1, k2, k3⟩]; rfl
            · exact HJ.out i (by omega) q hq
          have k1' : ¬ l > g := by omega
          have k2' : ¬ g > e := by omega
          have k3' : ¬ e > 32 := by omega
          go_wp2_with (go_at_call 17; refine (refMay_any a l _ HO.out.a0 HO.out.a1 HO.out.l0 HO.out.l1 HF.out).mono ?_; rintro e' W1 ⟨rfl, hb⟩; have c0 := cell_later hb c0; have c1 := cell_later hb c1; have c2 := cell_later hb c2; have c3 := cell_later hb c3; have c4 := cell_later hb c4; have HB := stp HB.out hb; clear hb)
          go_quiet (fail)
          go_wp2
          go_roundw
          case rel => exact ⟨j + 1, by omega, by go_num, HJ', below_drewN HB _⟩
          case measure => simp [intOf]; omega
        · have HP : Hid (false = b) := by
            unfold Hid
            rw [← HV.out, may_no HE.out]
            rw [HU.out]
            cases c
            · rfl
            · rw [decide_eq_false (fun h => hall ⟨rfl, h⟩)]; rfl
          have hway : c = false ∨ c = true ∧ l > g ∨ c = true ∧ ¬ l > g ∧ g > e ∨ c = true ∧ ¬ l > g ∧ ¬ g > e ∧ e > 32 := by
            cases c
            · exact .inl rfl
            · by_cases k1 : l > g
              · exact .inr (.inl ⟨rfl, k1⟩)
              · by_cases k2 : g > e
                · exact .inr (.inr (.inl ⟨rfl, k1, k2⟩))
                · exact .inr (.inr (.inr ⟨rfl, k1, k2, by by_cases k3 : e > 32; exact k3; exact absurd ⟨rfl, by omega, by omega, by omega⟩ hall⟩))
          rcases hway with rfl | ⟨rfl, k1⟩ | ⟨rfl, k1, k2⟩ | ⟨rfl, k1, k2, k3⟩
          all_goals clear hall
          all_goals
            go_wp2_with (go_at_call 17; refine (refMay_any a l _ HO.out.a0 HO.out.a1 HO.out.l0 HO.out.l1 HF.out).mono ?_; rintro e' W1 ⟨rfl, hb⟩; have c0 := cell_later hb c0; have c1 := cell_later hb c1; have c2 := cell_later hb c2; have c3 := cell_later hb c3; have c4 := cell_later hb c4; have HB := stp HB.out hb; clear hb)
            go_quiet (fail)
            go_wp2
            go_ret
            exact ⟨ret_bool HP.out, below_drewN HB _⟩
      · have hlt' : ¬ (j : Int) < (n : Int) := by omega
        obtain rfl : j = n := by omega
        have HP : Hid (true = b) := by
          unfold Hid; rw [← HV.out, may_all (by rw [HN.out]; exact h32) (by rw [HN.out]; exact HJ.out)]
        go_wp2
        go_ret
        exact ⟨ret_bool HP.out, HB.out⟩
  · have h32' : (n : Int) > 32 := by omega
    have HP : Hid (false = b) := by
      unfold Hid; rw [← HV.out, may_long (by rw [HN.out]; omega)]
    go_enter Try.func12, Try.ntmps12
    go_wp2
    go_ret
    exact ⟨ret_bool HP.out, Below.refl _ _⟩
end Go.Proofs.Ytmmhnpekbfmonaa
