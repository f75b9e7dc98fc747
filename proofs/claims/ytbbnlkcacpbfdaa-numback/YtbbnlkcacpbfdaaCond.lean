/- The contract of the document's own Sum. -/
import Derived.Test.YtbbnlkcacpbfdaaConc
namespace Go.Proofs.Ytbbnlkcacpbfdaa
open Go.RowKit

set_option maxRecDepth 100000 in
set_option maxHeartbeats 1000000 in
theorem refSum_any (a : Option Addr) (len cap : Nat) (l : List Int) (w : World) (h : Row8 w a len l) :
    Calls Try.prog 24 #[.slice a len cap] w fun e w' => e = .returned (.int .u16 (sumI l)) ∧ w' = w := by
  obtain ⟨hl, hm, hB, hc⟩ := h
  go_enter Try.func24, Try.ntmps24
  go_wp2
  go_loop [3, 4] (fun n i => ∃ k : Nat, k ≤ len + 1 ∧ k % 2 = 0 ∧ i = .int .i64 k ∧ n = .int .i64 (hs l k)) (fun _ i => len + 1 - (intOf i).toNat)
  case atStart => exact ⟨0, Nat.zero_le _, rfl, rfl, rfl⟩
  case round =>
    obtain ⟨k, hk, hp, rfl, rfl⟩ := hrel
    have hb := hs_bd hB k
    have HP : Hid (k % 2 = 0) := hp
    by_cases hlt : k < len
    · obtain ⟨b, off, rfl, hcell⟩ := hc k hlt
      have hv := hB.at k
      have HS : Hid (hs l (k + 2) = hs l k + 256 * l[k]?.getD 0 + l[k + 1]?.getD 0) := hs_two (l := l) k hp
      clear hp
      by_cases hlt2 : k + 1 < len
      · obtain ⟨b', off', e, hcell2⟩ := hc (k + 1) hlt2
        simp only [Option.some.injEq, Addr.mk.injEq, and_true] at e
        obtain ⟨rfl, rfl⟩ := e
        have hv2 := hB.at (k + 1)
        clear hc
        generalize l[k]?.getD 0 = v at hcell hv HS
        generalize l[k + 1]?.getD 0 = v2 at hcell2 hv2 HS
        go_wp2
        go_round
        case rel => exact ⟨k + 2, by omega, by have := HP.out; omega, by go_num, by rw [HS.out]; go_num⟩
        case measure => simp [intOf]; omega
      · have e0 : l[k + 1]?.getD 0 = 0 := by rw [List.getElem?_eq_none (by omega)]; rfl
        rw [e0] at HS
        clear hc e0
        generalize l[k]?.getD 0 = v at hcell hv HS
        go_wp2
        go_round
        case rel => exact ⟨k + 2, by omega, by have := HP.out; omega, by go_num, by rw [HS.out]; go_num⟩
        case measure => simp [intOf]; omega
    · have hz := hs_past (l := l) k (by omega)
      rw [hz, hl] at hb ⊢
      have hx : hs l len ≤ 9187343239835811840 := by omega
      clear hc hz hp
      go_wp2
      go_loop [3] (fun n => ∃ s : Int, 0 ≤ s ∧ s ≤ 9187343239835811840 ∧ n = .int .i64 s ∧ Hid (foldI s = foldI (hs l len))) (fun n => (intOf n).toNat)
      case atStart => exact ⟨_, hb.1, hx, rfl, rfl⟩
      case round =>
        obtain ⟨s, hs0, hs1, rfl, HF⟩ := hrel
        by_cases hgt : 65535 < s
        · have hst := foldI_step s hgt
          have HST : Hid (foldI (s % 65536 + s / 65536) = foldI s) := hst
          clear hst
          go_wp2
          go_round
          case rel => exact ⟨s % 65536 + s / 65536, by omega, by omega, by go_num, by show foldI _ = _; rw [HST.out]; exact HF.out⟩
          case measure => simp [intOf]; omega
        · go_wp2
          go_ret
          refine ⟨ret_int ?_, rfl⟩
          rw [sumI, hl, ← HF.out, foldI_small _ hs0 (by omega)]
end Go.Proofs.Ytbbnlkcacpbfdaa
