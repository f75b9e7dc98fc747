/- The contract of Sum. -/
import Derived.Test.YtbbnlkcacpbfdaaCona
import Derived.Test.YtbbnlkcacpbfdaaMath
import Derived.WalkMore
import Derived.ScopeJumps
import Derived.LoopTactic
namespace Go.Proofs.Ytbbnlkcacpbfdaa
open Go.RowKit

set_option maxRecDepth 100000 in
set_option maxHeartbeats 1000000 in
theorem sum_gen (a : Option Addr) (len cap : Nat) (l : List Int) (w : World) (hl : l.length = len) (hm : len ≤ 140737488351232) (hB : Bytes l)
    (hc : ∀ i, i < len → ∃ b off, a = some ⟨b, off, none⟩ ∧ w.cell? ⟨b, off + i, none⟩ = some (.int .u8 (l[i]?.getD 0))) :
    Calls Try.prog 23 #[.slice a len cap] w fun e w' => e = .returned (.int .u16 (sumI l)) ∧ w' = w := by
  go_enter Try.func23, Try.ntmps23
  go_wp2
  refine wp_scope_jumps 0 (fun a' w' => w' = w ∧ ∃ (s : Int) (u0 u1 u4 u5 u6 u7 u8 u9 u10 u11 u12 u13 u14 u15 u16 u17 u18 u19 u20 u21 u22 u23 u24 u25 u26 u27 u28 u29 u30 u31 u32 u33 u34 u35 u36 u37 u38 u39 u40 : Value), a' = { tmps := #[u0, u1, .int .u16 0, .int .u64 s, u4, u5, u6, u7, u8, u9, u10, u11, u12, u13, u14, u15, u16, u17, u18, u19, u20, u21, u22, u23, u24, u25, u26, u27, u28, u29, u30, u31, u32, u33, u34, u35, u36, u37, u38, u39, u40], defers := [] } ∧ 0 ≤ s ∧ s ≤ 9187343239835811840 ∧ foldI s = foldI (hs l len)) (fun a' _ => (intOf (a'.tmps.getD 3 undef)).toNat) rfl ?_ ?_
  · go_wp2
    go_loop [3, 8] (fun s i => ∃ k : Nat, k ≤ len ∧ i = .int .i64 k ∧ s = .int .u64 (hs l k)) (fun _ i => len - (intOf i).toNat)
    case atStart => exact ⟨0, Nat.zero_le _, rfl, rfl⟩
    case round =>
      obtain ⟨k, hk, rfl, rfl⟩ := hrel
      have hb := hs_bd hB k
      by_cases hlt : k < len
      · obtain ⟨b, off, rfl, hcell⟩ := hc k hlt
        have hv := hB.at k
        by_cases hp : k % 2 = 0
        · have hpi : (((k : Int) % 2) == 0) = true := by simp; omega
          have HS : Hid (hs l (k + 1) = hs l k + 256 * l[k]?.getD 0) := hs_even (l := l) k hp
          clear hc
          generalize l[k]?.getD 0 = v at hcell hv HS
          go_wp2
          go_round
          case rel => exact ⟨k + 1, by omega, by go_num, by rw [HS.out]; try go_num⟩
          case measure => simp [intOf]; omega
        · have hpi : (((k : Int) % 2) == 0) = false := by simp; omega
          have HS : Hid (hs l (k + 1) = hs l k + l[k]?.getD 0) := hs_odd (l := l) k (by omega)
          clear hc
          generalize l[k]?.getD 0 = v at hcell hv HS
          go_wp2
          go_round
          case rel => exact ⟨k + 1, by omega, by go_num, by rw [HS.out]; try go_num⟩
          case measure => simp [intOf]; omega
      · obtain rfl : k = len := by omega
        clear hc
        have hx : hs l k ≤ 9187343239835811840 := by omega
        go_wp2
        go_step3
        go_wp2
        · rename_i hpos
          have hn := fold_next (hs l k) hb.1 hx hpos
          go_step3
          rw [hn.1]
          exact ⟨rfl, rfl, _, _, _, _, _, _, _, _, _, _, _, _, _, _, _, _, _, _, _, _, _, _, _, _, _, _, _, _, _, _, _, _, _, _, _, _, _, _, _, _, rfl, hn.2.2.1, by omega, hn.2.1⟩
        · rename_i hsm _
          simp only [Exit.jump]
          go_ret
          have h3 : hs l k ≤ 65535 := by omega
          exact ⟨ret_int (by rw [xor_ffff _ hb.1 h3, sumI, hl, foldI_small _ hb.1 h3]), rfl⟩
  · rintro a' w' ⟨rfl, s, u0, u1, u4, u5, u6, u7, u8, u9, u10, u11, u12, u13, u14, u15, u16, u17, u18, u19, u20, u21, u22, u23, u24, u25, u26, u27, u28, u29, u30, u31, u32, u33, u34, u35, u36, u37, u38, u39, u40, rfl, hs0, hs1, hsf⟩
    have HF : Hid (foldI s = foldI (hs l len)) := hsf
    clear hsf hc
    go_wp2
    · rename_i hpos
      have hn := fold_next s hs0 hs1 hpos
      go_step3
      rw [hn.1]
      refine ⟨rfl, ⟨rfl, _, _, _, _, _, _, _, _, _, _, _, _, _, _, _, _, _, _, _, _, _, _, _, _, _, _, _, _, _, _, _, _, _, _, _, _, _, _, _, _, rfl, hn.2.2.1, by omega, ?_⟩, ?_⟩
      · rw [hn.2.1]; exact HF.out
      · simp [intOf]; omega
    · rename_i hsm _
      simp only [Exit.jump]
      go_ret
      have h3 : s ≤ 65535 := by omega
      exact ⟨ret_int (by rw [xor_ffff _ hs0 h3, sumI, hl, ← HF.out, foldI_small _ hs0 h3]), rfl⟩

theorem sum_any (a : Option Addr) (len cap : Nat) (l : List Int) (w : World) (h : Row8 w a len l) :
    Calls Try.prog 23 #[.slice a len cap] w fun e w' => e = .returned (.int .u16 (sumI l)) ∧ w' = w :=
  sum_gen a len cap l w h.1 h.2.1 h.2.2.1 h.2.2.2

theorem put16_any (n : Int) (w : World) (h0 : 0 ≤ n) (h1 : n ≤ 65535) :
    Calls Try.prog 18 #[.int .u16 n] w fun e w' => e = .returned (.slice (some ⟨w.heap.size, 0, none⟩) 2 2) ∧ w' = w.alloc (.cells #[.int .u8 (n / 256), .int .u8 (n % 256)] 5) := by
  go_enter Try.func18, Try.ntmps18
  go_wp2
  go_ret
  exact ⟨rfl, rfl⟩

theorem put32_any (n : Int) (w : World) (h0 : 0 ≤ n) (h1 : n ≤ 4294967295) :
    Calls Try.prog 16 #[.int .u32 n] w fun e w' => e = .returned (.slice (some ⟨w.heap.size, 0, none⟩) 4 4) ∧ w' = w.alloc (.cells #[.int .u8 (n / 16777216), .int .u8 (n / 65536 % 256), .int .u8 (n / 256 % 256), .int .u8 (n % 256)] 5) := by
  go_enter Try.func16, Try.ntmps16
  go_wp2
  go_ret
  exact ⟨rfl, rfl⟩
end Go.Proofs.Ytbbnlkcacpbfdaa
