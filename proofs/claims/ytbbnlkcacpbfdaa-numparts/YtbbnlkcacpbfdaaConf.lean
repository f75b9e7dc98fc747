/- Contracts of get, Get16, Get32 and the document's own. -/
import Derived.Test.YtbbnlkcacpbfdaaCone
import Derived.Test.YtbbnlkcacpbfdaaMatb
namespace Go.Proofs.Ytbbnlkcacpbfdaa
open Go.RowKit

theorem get_no (a : Option Addr) (len cap : Nat) (p s : Int) (w : World) (hm : len ≤ 3000) (hs : 0 ≤ s ∧ s ≤ 4) (h : p < 0 ∨ (len : Int) - s < p) :
    Calls Try.prog 25 #[.slice a len cap, .int .i64 p, .int .i64 s] w fun e w' => e = .returned (.tuple #[.int .u32 0, .bool false]) ∧ w' = w := by
  rcases h with h | h
  · go_enter Try.func25, Try.ntmps25
    go_wp2
    go_ret2
    exact ⟨rfl, rfl⟩
  · by_cases h0 : p < 0
    all_goals
      go_enter Try.func25, Try.ntmps25
      go_wp2
      go_ret2
      exact ⟨rfl, rfl⟩

set_option maxHeartbeats 1000000 in
theorem get_yes (a : Option Addr) (len cap : Nat) (l : List Int) (p s : Nat) (w : World) (hr : Row8 w a len l) (hm : len ≤ 3000) (hs : s ≤ 4) (h : p + s ≤ len) :
    Calls Try.prog 25 #[.slice a len cap, .int .i64 p, .int .i64 s] w fun e w' => e = .returned (.tuple #[.int .u32 (getV l p s), .bool true]) ∧ w' = w := by
  obtain ⟨hl, -, hB, hc⟩ := hr
  go_enter Try.func25, Try.ntmps25
  go_wp2
  go_loop [8, 21] (fun n i => ∃ k : Nat, k ≤ s ∧ i = .int .i64 k ∧ n = .int .u32 (getV l p k)) (fun _ i => s - (intOf i).toNat)
  case atStart => exact ⟨0, Nat.zero_le _, rfl, rfl⟩
  case round =>
    obtain ⟨k, hk, rfl, rfl⟩ := hrel
    by_cases hlt : k < s
    · obtain ⟨b, off, rfl, hcell⟩ := hc (p + k) (by omega)
      have hv := hB.at (p + k)
      have hg := getV_small hB p k (by omega)
      have HO : Hid (bits .or .u32 (getV l p k * 256) (l[p + k]?.getD 0) = getV l p (k + 1)) := or_low _ _ hg hv
      clear hc hl
      generalize getV l p k = g at hg HO
      generalize l[p + k]?.getD 0 = v at hcell hv HO
      go_wp2
      go_round
      case rel => exact ⟨k + 1, by omega, by go_num, by rw [← HO.out]⟩
      case measure => simp [intOf]; omega
    · obtain rfl : k = s := by omega
      go_wp2
      go_ret2
      exact ⟨rfl, rfl⟩
end Go.Proofs.Ytbbnlkcacpbfdaa
