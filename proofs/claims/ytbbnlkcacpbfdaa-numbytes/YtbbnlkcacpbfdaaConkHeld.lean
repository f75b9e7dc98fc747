/- The walk of NumBytes where its length is within what it asks. -/
import Derived.Test.YtbbnlkcacpbfdaaCong
import Derived.Test.YtbbnlkcacpbfdaaMatd
import Derived.Deep.RegionHeld
namespace Go.Proofs.Ytbbnlkcacpbfdaa
open Go.RowKit

theorem Row8.drew {w : World} {a : Option Addr} {len : Nat} {l : List Int} (h : Row8 w a len l) : Row8 w.drew a len l := ⟨h.1, h.2.1, h.2.2.1, h.2.2.2⟩

/-- What the two ways to read a number answer at one place: v2, k2 for two bytes, v4, k4 for four. -/
structure Gets (W : World) (a1 : Option Addr) (len1 cap1 : Nat) (p v2 v4 : Int) (k2 k4 : Bool) : Prop where
  g16 : Calls Try.prog 13 #[.slice a1 len1 cap1, .int .i64 p] W fun e w' => e = .returned (.tuple #[.int .u16 v2, .bool k2]) ∧ w' = W
  r16 : Calls Try.prog 14 #[.slice a1 len1 cap1, .int .i64 p, .int .i64 2] W fun e w' => e = .returned (.tuple #[.int .u32 v2, .bool k2]) ∧ w' = W
  g32 : Calls Try.prog 15 #[.slice a1 len1 cap1, .int .i64 p] W fun e w' => e = .returned (.tuple #[.int .u32 v4, .bool k4]) ∧ w' = W
  r32 : Calls Try.prog 14 #[.slice a1 len1 cap1, .int .i64 p, .int .i64 4] W fun e w' => e = .returned (.tuple #[.int .u32 v4, .bool k4]) ∧ w' = W
  v0 : 0 ≤ v2
  v1 : v2 ≤ 65535

set_option maxHeartbeats 200000000 in
theorem bytes_main (n : Int) (a1 : Option Addr) (len1 cap1 : Nat) (p v2 v4 : Int) (k2 k4 : Bool) (w : World) (H : Gets (ups w) a1 len1 cap1 p v2 v4 k2 k4) (h1 : len1 ≤ 3000) (n0 : 0 ≤ n) (n1 : n ≤ 4294967295) :
    Calls Try.prog 3 #[.int .u32 n, .slice a1 len1 cap1, .int .i64 p] w fun e w' => e = .returned (.bool true) ∧ Below w.heap.size w w' := by
  have B0 := below_ups w
  have S0 := size_ups w
  have hw := IntKind.wrap_u16 n
  have hv : IntKind.u32.wrap v2 = v2 := by rw [IntKind.wrap_u32]; have := H.v0; have := H.v1; omega
  have ht : n.tmod 65536 = n % 65536 := Int.tmod_eq_emod_of_nonneg n0
  have v20 := H.v0
  have v21 := H.v1
  have hup := awake_any w
  have HU := hup
  clear hup
  generalize ups w = U at *
  have hS : w.heap.size ≤ U.heap.size := by omega
  clear S0
  have HUP : Hid (Calls Try.prog 12 #[] w fun e w' => e = .returned (.bool true) ∧ w' = U) := HU
  clear HU
  have hB4 : Bytes [n / 16777216, n / 65536 % 256, n / 256 % 256, n % 256] := by unfold Bytes; simp; omega
  have hB2 : Bytes [n % 65536 / 256, n % 256] := by unfold Bytes; simp; omega
  have r1 : Row8 (U.alloc (.cells #[.int .u8 (n / 16777216), .int .u8 (n / 65536 % 256), .int .u8 (n / 256 % 256), .int .u8 (n % 256)] 5)) (some ⟨U.heap.size, 0, none⟩) 4 [n / 16777216, n / 65536 % 256, n / 256 % 256, n % 256] := row8_at _ _ rfl [n / 16777216, n / 65536 % 256, n / 256 % 256, n % 256] 5 4 rfl hB4 (by simp)
  have r2 : Row8 ((U.alloc (.cells #[.int .u8 (n / 16777216), .int .u8 (n / 65536 % 256), .int .u8 (n / 256 % 256), .int .u8 (n % 256)] 5)).alloc (.cells #[.int .u8 (n / 16777216), .int .u8 (n / 65536 % 256), .int .u8 (n / 256 % 256), .int .u8 (n % 256)] 5)) (some ⟨U.heap.size + 1, 0, none⟩) 4 [n / 16777216, n / 65536 % 256, n / 256 % 256, n % 256] := row8_at _ _ (by simp) [n / 16777216, n / 65536 % 256, n / 256 % 256, n % 256] 5 4 rfl hB4 (by simp)
  have r3 : Row8 (((U.alloc (.cells #[.int .u8 (n / 16777216), .int .u8 (n / 65536 % 256), .int .u8 (n / 256 % 256), .int .u8 (n % 256)] 5)).alloc (.cells #[.int .u8 (n / 16777216), .int .u8 (n / 65536 % 256), .int .u8 (n / 256 % 256), .int .u8 (n % 256)] 5)).alloc (.cells #[.int .u8 (n % 65536 / 256), .int .u8 (n % 256)] 5)) (some ⟨U.heap.size + 1 + 1, 0, none⟩) 2 [n % 65536 / 256, n % 256] := row8_at _ _ (by simp) [n % 65536 / 256, n % 256] 5 2 rfl hB2 (by simp)
  have r4 : Row8 ((((U.alloc (.cells #[.int .u8 (n / 16777216), .int .u8 (n / 65536 % 256), .int .u8 (n / 256 % 256), .int .u8 (n % 256)] 5)).alloc (.cells #[.int .u8 (n / 16777216), .int .u8 (n / 65536 % 256), .int .u8 (n / 256 % 256), .int .u8 (n % 256)] 5)).alloc (.cells #[.int .u8 (n % 65536 / 256), .int .u8 (n % 256)] 5)).alloc (.cells #[.int .u8 (n % 65536 / 256), .int .u8 (n % 256)] 5)) (some ⟨U.heap.size + 1 + 1 + 1, 0, none⟩) 2 [n % 65536 / 256, n % 256] := row8_at _ _ (by simp) [n % 65536 / 256, n % 256] 5 2 rfl hB2 (by simp)
  have e1 : Sem.run Try.prog (convert 23 9 (.slice (some ⟨U.heap.size, 0, none⟩) 4 4)) ((U.alloc (.cells #[.int .u8 (n / 16777216), .int .u8 (n / 65536 % 256), .int .u8 (n / 256 % 256), .int .u8 (n % 256)] 5)).drew) = .ok (.string (strOfNums [n / 16777216, n / 65536 % 256, n / 256 % 256, n % 256])) ((U.alloc (.cells #[.int .u8 (n / 16777216), .int .u8 (n / 65536 % 256), .int .u8 (n / 256 % 256), .int .u8 (n % 256)] 5)).drew) := conv_any _ (r1.drew)
  have e2 : Sem.run Try.prog (convert 23 9 (.slice (some ⟨U.heap.size, 0, none⟩) 4 4)) (((U.alloc (.cells #[.int .u8 (n / 16777216), .int .u8 (n / 65536 % 256), .int .u8 (n / 256 % 256), .int .u8 (n % 256)] 5)).alloc (.cells #[.int .u8 (n / 16777216), .int .u8 (n / 65536 % 256), .int .u8 (n / 256 % 256), .int .u8 (n % 256)] 5)).drew) = .ok (.string (strOfNums [n / 16777216, n / 65536 % 256, n / 256 % 256, n % 256])) (((U.alloc (.cells #[.int .u8 (n / 16777216), .int .u8 (n / 65536 % 256), .int .u8 (n / 256 % 256), .int .u8 (n % 256)] 5)).alloc (.cells #[.int .u8 (n / 16777216), .int .u8 (n / 65536 % 256), .int .u8 (n / 256 % 256), .int .u8 (n % 256)] 5)).drew) := conv_any _ ((r1.later (below_alloc _ _)).drew)
  have e3 : Sem.run Try.prog (convert 23 9 (.slice (some ⟨U.heap.size + 1, 0, none⟩) 4 4)) (((U.alloc (.cells #[.int .u8 (n / 16777216), .int .u8 (n / 65536 % 256), .int .u8 (n / 256 % 256), .int .u8 (n % 256)] 5)).alloc (.cells #[.int .u8 (n / 16777216), .int .u8 (n / 65536 % 256), .int .u8 (n / 256 % 256), .int .u8 (n % 256)] 5)).drew) = .ok (.string (strOfNums [n / 16777216, n / 65536 % 256, n / 256 % 256, n % 256])) (((U.alloc (.cells #[.int .u8 (n / 16777216), .int .u8 (n / 65536 % 256), .int .u8 (n / 256 % 256), .int .u8 (n % 256)] 5)).alloc (.cells #[.int .u8 (n / 16777216), .int .u8 (n / 65536 % 256), .int .u8 (n / 256 % 256), .int .u8 (n % 256)] 5)).drew) := conv_any _ (r2.drew)
  have e4 : Sem.run Try.prog (convert 23 9 (.slice (some ⟨U.heap.size + 1 + 1, 0, none⟩) 2 2)) ((((U.alloc (.cells #[.int .u8 (n / 16777216), .int .u8 (n / 65536 % 256), .int .u8 (n / 256 % 256), .int .u8 (n % 256)] 5)).alloc (.cells #[.int .u8 (n / 16777216), .int .u8 (n / 65536 % 256), .int .u8 (n / 256 % 256), .int .u8 (n % 256)] 5)).alloc (.cells #[.int .u8 (n % 65536 / 256), .int .u8 (n % 256)] 5)).drew) = .ok (.string (strOfNums [n % 65536 / 256, n % 256])) ((((U.alloc (.cells #[.int .u8 (n / 16777216), .int .u8 (n / 65536 % 256), .int .u8 (n / 256 % 256), .int .u8 (n % 256)] 5)).alloc (.cells #[.int .u8 (n / 16777216), .int .u8 (n / 65536 % 256), .int .u8 (n / 256 % 256), .int .u8 (n % 256)] 5)).alloc (.cells #[.int .u8 (n % 65536 / 256), .int .u8 (n % 256)] 5)).drew) := conv_any _ (r3.drew)
  have e5 : Sem.run Try.prog (convert 23 9 (.slice (some ⟨U.heap.size + 1 + 1, 0, none⟩) 2 2)) (((((U.alloc (.cells #[.int .u8 (n / 16777216), .int .u8 (n / 65536 % 256), .int .u8 (n / 256 % 256), .int .u8 (n % 256)] 5)).alloc (.cells #[.int .u8 (n / 16777216), .int .u8 (n / 65536 % 256), .int .u8 (n / 256 % 256), .int .u8 (n % 256)] 5)).alloc (.cells #[.int .u8 (n % 65536 / 256), .int .u8 (n % 256)] 5)).alloc (.cells #[.int .u8 (n % 65536 / 256), .int .u8 (n % 256)] 5)).drew) = .ok (.string (strOfNums [n % 65536 / 256, n % 256])) (((((U.alloc (.cells #[.int .u8 (n / 16777216), .int .u8 (n / 65536 % 256), .int .u8 (n / 256 % 256), .int .u8 (n % 256)] 5)).alloc (.cells #[.int .u8 (n / 16777216), .int .u8 (n / 65536 % 256), .int .u8 (n / 256 % 256), .int .u8 (n % 256)] 5)).alloc (.cells #[.int .u8 (n % 65536 / 256), .int .u8 (n % 256)] 5)).alloc (.cells #[.int .u8 (n % 65536 / 256), .int .u8 (n % 256)] 5)).drew) := conv_any _ ((r3.later (below_alloc _ _)).drew)
  have e6 : Sem.run Try.prog (convert 23 9 (.slice (some ⟨U.heap.size + 1 + 1 + 1, 0, none⟩) 2 2)) (((((U.alloc (.cells #[.int .u8 (n / 16777216), .int .u8 (n / 65536 % 256), .int .u8 (n / 256 % 256), .int .u8 (n % 256)] 5)).alloc (.cells #[.int .u8 (n / 16777216), .int .u8 (n / 65536 % 256), .int .u8 (n / 256 % 256), .int .u8 (n % 256)] 5)).alloc (.cells #[.int .u8 (n % 65536 / 256), .int .u8 (n % 256)] 5)).alloc (.cells #[.int .u8 (n % 65536 / 256), .int .u8 (n % 256)] 5)).drew) = .ok (.string (strOfNums [n % 65536 / 256, n % 256])) (((((U.alloc (.cells #[.int .u8 (n / 16777216), .int .u8 (n / 65536 % 256), .int .u8 (n / 256 % 256), .int .u8 (n % 256)] 5)).alloc (.cells #[.int .u8 (n / 16777216), .int .u8 (n / 65536 % 256), .int .u8 (n / 256 % 256), .int .u8 (n % 256)] 5)).alloc (.cells #[.int .u8 (n % 65536 / 256), .int .u8 (n % 256)] 5)).alloc (.cells #[.int .u8 (n % 65536 / 256), .int .u8 (n % 256)] 5)).drew) := conv_any _ (r4.drew)
  clear r1 r2 r3 r4 hB4 hB2
  go_enter Try.func3, Try.ntmps3
  go_wp2_with (first
    | (go_at_call 12; refine (HUP.out).mono ?_; rintro e w' ⟨rfl, rfl⟩)
    | (go_at_call 13; refine H.g16.mono ?_; rintro e w' ⟨rfl, rfl⟩)
    | (go_at_call_of 14 (Value.int .i64 2); refine H.r16.mono ?_; rintro e w' ⟨rfl, rfl⟩)
    | (go_at_call 15; refine H.g32.mono ?_; rintro e w' ⟨rfl, rfl⟩)
    | (go_at_call_of 14 (Value.int .i64 4); refine H.r32.mono ?_; rintro e w' ⟨rfl, rfl⟩))
  clear H
  go_region_held (fun _ => True) (trivial) (first
    | (go_at_call 16; refine (put32_any _ _ n0 n1).mono ?_; rintro e w' ⟨rfl, rfl⟩)
    | (go_at_call 18; refine (put16_any _ _ (by omega) (by omega)).mono ?_; rintro e w' ⟨rfl, rfl⟩)
    | (go_at_call_of 17 (Value.int .i64 4); refine (refPut4 _ _ n0 n1).mono ?_; rintro e w' ⟨rfl, rfl⟩)
    | (go_at_call_of 17 (Value.int .i64 2); refine (refPut2 _ _ (by omega) (by omega)).mono ?_; rintro e w' ⟨rfl, rfl⟩))
  all_goals go_wp2
  all_goals go_ret
  all_goals exact ⟨rfl, ((((B0.alloc hS _).alloc (by simp; omega) _).alloc (by simp; omega) _).alloc (by simp; omega) _).drew⟩
end Go.Proofs.Ytbbnlkcacpbfdaa
