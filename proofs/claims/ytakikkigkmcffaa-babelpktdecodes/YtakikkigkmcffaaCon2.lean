/- Contracts of numbers as bytes: Put16, Put32, get, Get16, Get32 and the document's. -/
import Derived.Test.YtakikkigkmcffaaCon1
import Derived.Test.YtakikkigkmcffaaMat1
import Derived.WalkMore
import Derived.Deep.OwnRows
namespace Go.Proofs.Ytakikkigkmcffaa
open Go.RowKit
theorem put16_any (n : Int) (w : World) (h0 : 0 ≤ n) (h1 : n ≤ 65535) :
    Calls Try.prog 42 #[.int .u16 n] w fun e w' => e = .returned (.slice (some ⟨w.heap.size, 0, none⟩) 2 2) ∧ w' = w.alloc (.cells #[.int .u8 (n / 256), .int .u8 (n % 256)] 5) := by
  go_enter Try.func42, Try.ntmps42
  go_wp2
  go_ret
  exact ⟨rfl, rfl⟩
theorem put32_any (n : Int) (w : World) (h0 : 0 ≤ n) (h1 : n ≤ 4294967295) :
    Calls Try.prog 37 #[.int .u32 n] w fun e w' => e = .returned (.slice (some ⟨w.heap.size, 0, none⟩) 4 4) ∧ w' = w.alloc (.cells #[.int .u8 (n / 16777216), .int .u8 (n / 65536 % 256), .int .u8 (n / 256 % 256), .int .u8 (n % 256)] 5) := by
  go_enter Try.func37, Try.ntmps37
  go_wp2
  go_ret
  exact ⟨rfl, rfl⟩
theorem conv_any {w : World} {a : Option Addr} {len : Nat} (cap : Nat) {l : List Int} (h : Row8 w a len l) :
    Sem.run Try.prog (convert 25 9 (.slice a len cap)) w = .ok (.string (strOfNums l)) w := conv8 25 5 9 Try.underlying25 Try.underlying5 Try.underlying9 cap h
theorem get_no (a : Option Addr) (len cap : Nat) (p s : Int) (w : World) (hm : len ≤ 3000) (hs : 0 ≤ s ∧ s ≤ 4) (h : p < 0 ∨ (len : Int) - s < p) :
    Calls Try.prog 59 #[.slice a len cap, .int .i64 p, .int .i64 s] w fun e w' => e = .returned (.tuple #[.int .u32 0, .bool false]) ∧ w' = w := by
  rcases h with h | h
  · go_enter Try.func59, Try.ntmps59
    go_wp2
    go_ret2
    exact ⟨rfl, rfl⟩
  · by_cases h0 : p < 0
    all_goals
      go_enter Try.func59, Try.ntmps59
      go_wp2
      go_ret2
      exact ⟨rfl, rfl⟩
set_option maxHeartbeats 1000000 in
theorem get_yes (a : Option Addr) (len cap : Nat) (l : List Int) (p s : Nat) (w : World) (hr : Row8 w a len l) (hm : len ≤ 3000) (hs : s ≤ 4) (h : p + s ≤ len) :
    Calls Try.prog 59 #[.slice a len cap, .int .i64 p, .int .i64 s] w fun e w' => e = .returned (.tuple #[.int .u32 (getV l p s), .bool true]) ∧ w' = w := by
  obtain ⟨hl, -, hB, hc⟩ := hr
  go_enter Try.func59, Try.ntmps59
  go_wp2
  go_loop [8, 21] (fun n i => ∃ k : Nat, k ≤ s ∧ i = .int .i64 k ∧ n = .int .u32 (getV l p k)) (fun _ i => s - (intOf i).toNat)
  case atStart => exact ⟨0, Nat.zero_le _, rfl, rfl⟩
  case round =>
    obtain ⟨k, hk, rfl, rfl⟩ := hrel
    by_cases hlt : k < s
    · obtain ⟨b, off, rfl, hcell⟩ := hc (p + k) (by omega)
      have hv := hB.at (p + k)
      have hg := getV_small hB p k (by omega)
      have HO : Hid (bits .or .u32 (getV l p k * 256) (l[p + k]?.getD 0) = getV l p (k + 1)) := or_low _ _ hg hv
      clear hc hl
      generalize getV l p k = g at hg HO
      generalize l[p + k]?.getD 0 = v at hcell hv HO
      go_wp2
      go_round
      case rel => exact ⟨k + 1, by omega, by go_num, by rw [← HO.out]⟩
      case measure => simp [intOf]; omega
    · obtain rfl : k = s := by omega
      go_wp2
      go_ret2
      exact ⟨rfl, rfl⟩
theorem get16_no (a : Option Addr) (len cap : Nat) (p : Int) (w : World) (hm : len ≤ 3000) (h : p < 0 ∨ (len : Int) - 2 < p) :
    Calls Try.prog 49 #[.slice a len cap, .int .i64 p] w fun e w' => e = .returned (.tuple #[.int .u16 0, .bool false]) ∧ w' = w := by
  go_enter Try.func49, Try.ntmps49
  go_wp2_with (go_at_call 59; refine (get_no _ _ _ _ _ _ hm (by omega) h).mono ?_; rintro e w' ⟨rfl, rfl⟩)
  go_ret2
  exact ⟨rfl, rfl⟩
theorem get16_yes (a : Option Addr) (len cap : Nat) (l : List Int) (p : Nat) (w : World) (hr : Row8 w a len l) (hm : len ≤ 3000) (h : p + 2 ≤ len) :
    Calls Try.prog 49 #[.slice a len cap, .int .i64 p] w fun e w' => e = .returned (.tuple #[.int .u16 (getV l p 2), .bool true]) ∧ w' = w := by
  have hb := getV_bd hr.2.2.1 p 2
  have hb' : getV l p 2 < 65536 := hb.2
  have hb0 := hb.1
  clear hb
  go_enter Try.func49, Try.ntmps49
  go_wp2_with (go_at_call 59; refine (get_yes _ _ _ l p 2 _ hr hm (by omega) h).mono ?_; rintro e w' ⟨rfl, rfl⟩)
  go_ret2
  exact ⟨rfl, rfl⟩
theorem get32_no (a : Option Addr) (len cap : Nat) (p : Int) (w : World) (hm : len ≤ 3000) (h : p < 0 ∨ (len : Int) - 4 < p) :
    Calls Try.prog 72 #[.slice a len cap, .int .i64 p] w fun e w' => e = .returned (.tuple #[.int .u32 0, .bool false]) ∧ w' = w := by
  go_enter Try.func72, Try.ntmps72
  go_wp2_with (go_at_call 59; refine (get_no _ _ _ _ _ _ hm (by omega) h).mono ?_; rintro e w' ⟨rfl, rfl⟩)
  go_ret2
  exact ⟨rfl, rfl⟩
theorem get32_yes (a : Option Addr) (len cap : Nat) (l : List Int) (p : Nat) (w : World) (hr : Row8 w a len l) (hm : len ≤ 3000) (h : p + 4 ≤ len) :
    Calls Try.prog 72 #[.slice a len cap, .int .i64 p] w fun e w' => e = .returned (.tuple #[.int .u32 (getV l p 4), .bool true]) ∧ w' = w := by
  go_enter Try.func72, Try.ntmps72
  go_wp2_with (go_at_call 59; refine (get_yes _ _ _ l p 4 _ hr hm (by omega) h).mono ?_; rintro e w' ⟨rfl, rfl⟩)
  go_ret2
  exact ⟨rfl, rfl⟩
theorem refGet_no (a : Option Addr) (len cap : Nat) (p s : Int) (w : World) (hm : len ≤ 3000) (_hs : 0 ≤ s ∧ s ≤ 4) (h : p < 0 ∨ (len : Int) - s < p) :
    Calls Try.prog 51 #[.slice a len cap, .int .i64 p, .int .i64 s] w fun e w' => e = .returned (.tuple #[.int .u32 0, .bool false]) ∧ w' = w := by
  by_cases h0 : p < 0
  · go_enter Try.func51, Try.ntmps51
    go_wp2
    go_ret2
    exact ⟨rfl, rfl⟩
  · by_cases h1 : (len : Int) < p
    all_goals
      go_enter Try.func51, Try.ntmps51
      go_wp2
      go_ret2
      exact ⟨rfl, rfl⟩
set_option maxHeartbeats 1000000 in
theorem refGet_yes (a : Option Addr) (len cap : Nat) (l : List Int) (p s : Nat) (w : World) (hr : Row8 w a len l) (hm : len ≤ 3000) (hs : s ≤ 4) (h : p + s ≤ len) :
    Calls Try.prog 51 #[.slice a len cap, .int .i64 p, .int .i64 s] w fun e w' => e = .returned (.tuple #[.int .u32 (getV l p s), .bool true]) ∧ w' = w := by
  obtain ⟨hl, -, hB, hc⟩ := hr
  go_enter Try.func51, Try.ntmps51
  go_wp2
  go_loop [8, 9] (fun n i => ∃ k : Nat, k ≤ s ∧ i = .int .i64 k ∧ n = .int .u32 (getV l p k)) (fun _ i => s - (intOf i).toNat)
  case atStart => exact ⟨0, Nat.zero_le _, rfl, rfl⟩
  case round =>
    obtain ⟨k, hk, rfl, rfl⟩ := hrel
    by_cases hlt : k < s
    · obtain ⟨b, off, rfl, hcell⟩ := hc (p + k) (by omega)
      have hv := hB.at (p + k)
      have hg := getV_small hB p k (by omega)
      have HO : Hid (getV l p (k + 1) = getV l p k * 256 + l[p + k]?.getD 0) := rfl
      clear hc hl
      generalize getV l p k = g at hg HO
      generalize l[p + k]?.getD 0 = v at hcell hv HO
      go_wp2
      go_round
      case rel => exact ⟨k + 1, by omega, by go_num, by rw [HO.out]; try go_num⟩
      case measure => simp [intOf]; omega
    · obtain rfl : k = s := by omega
      go_wp2
      go_ret2
      exact ⟨rfl, rfl⟩
theorem info5 : (Try.prog.info? 5).map (fun i => (i.zero, i.size, i.bytes)) = some (some (.int .u8 0), 1, 1) := by kernel_rfl
theorem make4 (W : World) : Sem.run Try.prog (Instr.makeSlice 25 (.int .i64 4) (.int .i64 4)) W = .ok (.slice (some ⟨W.heap.size, 0, none⟩) 4 4) (W.alloc (.cells #[.int .u8 0, .int .u8 0, .int .u8 0, .int .u8 0] 5)) := by
  have h := run_make_row' 25 5 (.int .u8 0) 1 Try.underlying25 info5 rfl .i64 .i64 4 (by omega) (by omega) W
  rw [show madeCells #[Value.int .u8 0] 4 = #[.int .u8 0, .int .u8 0, .int .u8 0, .int .u8 0] from by kernel_rfl] at h
  exact h
theorem make2 (W : World) : Sem.run Try.prog (Instr.makeSlice 25 (.int .i64 2) (.int .i64 2)) W = .ok (.slice (some ⟨W.heap.size, 0, none⟩) 2 2) (W.alloc (.cells #[.int .u8 0, .int .u8 0] 5)) := by
  have h := run_make_row' 25 5 (.int .u8 0) 1 Try.underlying25 info5 rfl .i64 .i64 2 (by omega) (by omega) W
  rw [show madeCells #[Value.int .u8 0] 2 = #[.int .u8 0, .int .u8 0] from by kernel_rfl] at h
  exact h
def put4Rel (n : Int) (w : World) (m i : Value) (W : World) : Prop :=
  (m = .int .u32 n ∧ i = .int .i64 3 ∧ W = w.alloc (.cells #[.int .u8 0, .int .u8 0, .int .u8 0, .int .u8 0] 5)) ∨
  (m = .int .u32 (n / 256) ∧ i = .int .i64 2 ∧ W = w.alloc (.cells #[.int .u8 0, .int .u8 0, .int .u8 0, .int .u8 (n % 256)] 5)) ∨
  (m = .int .u32 (n / 65536) ∧ i = .int .i64 1 ∧ W = w.alloc (.cells #[.int .u8 0, .int .u8 0, .int .u8 (n / 256 % 256), .int .u8 (n % 256)] 5)) ∨
  (m = .int .u32 (n / 16777216) ∧ i = .int .i64 0 ∧ W = w.alloc (.cells #[.int .u8 0, .int .u8 (n / 65536 % 256), .int .u8 (n / 256 % 256), .int .u8 (n % 256)] 5)) ∨
  (m = .int .u32 0 ∧ i = .int .i64 (-1) ∧ W = w.alloc (.cells #[.int .u8 (n / 16777216), .int .u8 (n / 65536 % 256), .int .u8 (n / 256 % 256), .int .u8 (n % 256)] 5))
set_option maxHeartbeats 1000000 in
theorem refPut4 (n : Int) (w : World) (h0 : 0 ≤ n) (h1 : n ≤ 4294967295) :
    Calls Try.prog 47 #[.int .u32 n, .int .i64 4] w fun e w' => e = .returned (.slice (some ⟨w.heap.size, 0, none⟩) 4 4) ∧ w' = w.alloc (.cells #[.int .u8 (n / 16777216), .int .u8 (n / 65536 % 256), .int .u8 (n / 256 % 256), .int .u8 (n % 256)] 5) := by
  have hmk := make4 w
  go_enter Try.func47, Try.ntmps47
  go_wp2
  go_loopw [0, 6] (fun m i W => put4Rel n w m i W) (fun _ i _ => (intOf i + 1).toNat)
  case atStart => exact .inl ⟨rfl, rfl, rfl⟩
  case round =>
    clear hmk
    rcases hrel with ⟨rfl, rfl, rfl⟩ | ⟨rfl, rfl, rfl⟩ | ⟨rfl, rfl, rfl⟩ | ⟨rfl, rfl, rfl⟩ | ⟨rfl, rfl, rfl⟩
    · go_wp2
      go_roundw
      case rel => exact .inr (.inl ⟨by first | rfl | go_num, rfl, rfl⟩)
      case measure => simp [intOf]
    · go_wp2
      go_roundw
      case rel => exact .inr (.inr (.inl ⟨by first | rfl | go_num, rfl, rfl⟩))
      case measure => simp [intOf]
    · go_wp2
      go_roundw
      case rel => exact .inr (.inr (.inr (.inl ⟨by first | rfl | go_num, rfl, rfl⟩)))
      case measure => simp [intOf]
    · go_wp2
      go_roundw
      case rel => exact .inr (.inr (.inr (.inr (⟨by first | rfl | go_num, rfl, by rw [show n / 16777216 % 256 = n / 16777216 from by omega]⟩))))
      case measure => simp [intOf]
    · go_wp2
      go_ret
      exact ⟨rfl, rfl⟩
def put2Rel (n : Int) (w : World) (m i : Value) (W : World) : Prop :=
  (m = .int .u32 n ∧ i = .int .i64 1 ∧ W = w.alloc (.cells #[.int .u8 0, .int .u8 0] 5)) ∨
  (m = .int .u32 (n / 256) ∧ i = .int .i64 0 ∧ W = w.alloc (.cells #[.int .u8 0, .int .u8 (n % 256)] 5)) ∨
  (m = .int .u32 0 ∧ i = .int .i64 (-1) ∧ W = w.alloc (.cells #[.int .u8 (n / 256), .int .u8 (n % 256)] 5))
set_option maxHeartbeats 1000000 in
theorem refPut2 (n : Int) (w : World) (h0 : 0 ≤ n) (h1 : n ≤ 65535) :
    Calls Try.prog 47 #[.int .u32 n, .int .i64 2] w fun e w' => e = .returned (.slice (some ⟨w.heap.size, 0, none⟩) 2 2) ∧ w' = w.alloc (.cells #[.int .u8 (n / 256), .int .u8 (n % 256)] 5) := by
  have hmk := make2 w
  go_enter Try.func47, Try.ntmps47
  go_wp2
  go_loopw [0, 6] (fun m i W => put2Rel n w m i W) (fun _ i _ => (intOf i + 1).toNat)
  case atStart => exact .inl ⟨rfl, rfl, rfl⟩
  case round =>
    clear hmk
    rcases hrel with ⟨rfl, rfl, rfl⟩ | ⟨rfl, rfl, rfl⟩ | ⟨rfl, rfl, rfl⟩
    · go_wp2
      go_roundw
      case rel => exact .inr (.inl ⟨by first | rfl | go_num, rfl, rfl⟩)
      case measure => simp [intOf]
    · go_wp2
      go_roundw
      case rel => exact .inr (.inr (⟨by first | rfl | go_num, rfl, by rw [show n / 256 % 256 = n / 256 from by omega]⟩))
      case measure => simp [intOf]
    · go_wp2
      go_ret
      exact ⟨rfl, rfl⟩
end Go.Proofs.Ytakikkigkmcffaa
