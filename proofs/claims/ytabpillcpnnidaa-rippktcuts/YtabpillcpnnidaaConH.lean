/- The document's Decode: bytes that are not framed. -/
import Derived.Test.YtabpillcpnnidaaConG
import Derived.Test.YtabpillcpnnidaaConD
namespace Go.Proofs.Ytabpillcpnnidaa
open Go.RowKit

set_option linter.unusedVariables false
theorem fin14z {w : World} {a : Act} {x : Int} (h2 : a.tmps[2]?.getD undef = .pointer (some ⟨w.heap.size, 0, none⟩)) (h3 : a.tmps[3]?.getD undef = .int .i64 x) (hd : a.defers = []) :
    bodyPost Try.prog Try.f14 (Decoded w ⟨0, false, [], x⟩) Exit.ret a ((w.alloc (objP 0 false none 0 0)).alloc (objP 0 false none 0 0)) := by
  refine bodyPost_ret (v := .tuple #[.agg #[.int .i64 0, .bool false, .slice none 0 0], .int .i64 x]) ?_ hd ⟨none, 0, 0, rfl, rowE_none _, below2 _ _ _⟩
  simp [results, Try.results14, go_sem, h2, h3]
theorem framed_b {l : List Int} (h : (l[1]?.getD 0 == 2) = false ∨ (l[2]?.getD 0 == 0) = false ∨ (l[3]?.getD 0 == 0) = false) : framed l = false := by
  unfold framed
  rcases h with h | h | h <;> rw [h] <;> simp

set_option maxHeartbeats 1000000 in
theorem refDecode_short (a : Option Addr) (n cap : Nat) (w : World) (hn : n ≤ 3000) (h : n < 4) :
    Calls Try.prog 14 #[.slice a n cap] w (Decoded w ⟨0, false, [], 2⟩) := by
  go_enter Try.func14, Try.ntmps14
  go_wp2
  exact fin14z rfl rfl rfl

set_option maxHeartbeats 1000000 in
theorem refDecode_odd (a : Option Addr) (n cap : Nat) (w : World) (hn : n ≤ 3000) (h4 : 4 ≤ n) (h : (n - 4) % 20 ≠ 0) :
    Calls Try.prog 14 #[.slice a n cap] w (Decoded w ⟨0, false, [], 2⟩) := by
  have h4i : ¬ (n : Int) < 4 := by omega
  have e : ((((n : Int) - 4) % 20) != 0) = true := by rw [bne_iff_ne]; omega
  go_enter Try.func14, Try.ntmps14
  go_wp2
  exact fin14z rfl rfl rfl

set_option maxHeartbeats 1000000 in
theorem refDecode_cmd (n cap : Nat) (w : World) (hn : n ≤ 3000) (b off : Nat) (x0 x1 x2 x3 : Int) (d0 : w.cell? ⟨b, off, none⟩ = some (.int .u8 x0)) (d1 : w.cell? ⟨b, off + 1, none⟩ = some (.int .u8 x1)) (d2 : w.cell? ⟨b, off + 2, none⟩ = some (.int .u8 x2)) (d3 : w.cell? ⟨b, off + 3, none⟩ = some (.int .u8 x3)) (h4 : 4 ≤ n) (h20 : (n - 4) % 20 = 0) (e1 : (x0 != 1) = true) (e2 : (x0 != 2) = true) :
    Calls Try.prog 14 #[.slice (some ⟨b, off, none⟩) n cap] w (Decoded w ⟨0, false, [], 2⟩) := by
  have nb : b < w.heap.size := World.block_lt_of_cell? w ⟨b, off, none⟩ d0
  have h4i : ¬ (n : Int) < 4 := by omega
  have e : ((((n : Int) - 4) % 20) != 0) = false := by rw [bne_eq_false_iff_eq]; omega
  go_enter Try.func14, Try.ntmps14
  go_wp2
  exact fin14z rfl rfl rfl

set_option maxHeartbeats 1000000 in
theorem refDecode_b1_1 (n cap : Nat) (w : World) (hn : n ≤ 3000) (b off : Nat) (x0 x1 x2 x3 : Int) (d0 : w.cell? ⟨b, off, none⟩ = some (.int .u8 x0)) (d1 : w.cell? ⟨b, off + 1, none⟩ = some (.int .u8 x1)) (d2 : w.cell? ⟨b, off + 2, none⟩ = some (.int .u8 x2)) (d3 : w.cell? ⟨b, off + 3, none⟩ = some (.int .u8 x3)) (h4 : 4 ≤ n) (h20 : (n - 4) % 20 = 0) (e1 : (x0 != 1) = false) (e3 : (x1 != 2) = true) :
    Calls Try.prog 14 #[.slice (some ⟨b, off, none⟩) n cap] w (Decoded w ⟨0, false, [], 2⟩) := by
  have nb : b < w.heap.size := World.block_lt_of_cell? w ⟨b, off, none⟩ d0
  have h4i : ¬ (n : Int) < 4 := by omega
  have e : ((((n : Int) - 4) % 20) != 0) = false := by rw [bne_eq_false_iff_eq]; omega
  go_enter Try.func14, Try.ntmps14
  go_wp2
  exact fin14z rfl rfl rfl

set_option maxHeartbeats 1000000 in
theorem refDecode_b1_2 (n cap : Nat) (w : World) (hn : n ≤ 3000) (b off : Nat) (x0 x1 x2 x3 : Int) (d0 : w.cell? ⟨b, off, none⟩ = some (.int .u8 x0)) (d1 : w.cell? ⟨b, off + 1, none⟩ = some (.int .u8 x1)) (d2 : w.cell? ⟨b, off + 2, none⟩ = some (.int .u8 x2)) (d3 : w.cell? ⟨b, off + 3, none⟩ = some (.int .u8 x3)) (h4 : 4 ≤ n) (h20 : (n - 4) % 20 = 0) (e1 : (x0 != 1) = true) (e2 : (x0 != 2) = false) (e3 : (x1 != 2) = true) :
    Calls Try.prog 14 #[.slice (some ⟨b, off, none⟩) n cap] w (Decoded w ⟨0, false, [], 2⟩) := by
  have nb : b < w.heap.size := World.block_lt_of_cell? w ⟨b, off, none⟩ d0
  have h4i : ¬ (n : Int) < 4 := by omega
  have e : ((((n : Int) - 4) % 20) != 0) = false := by rw [bne_eq_false_iff_eq]; omega
  go_enter Try.func14, Try.ntmps14
  go_wp2
  exact fin14z rfl rfl rfl

set_option maxHeartbeats 1000000 in
theorem refDecode_b2_1 (n cap : Nat) (w : World) (hn : n ≤ 3000) (b off : Nat) (x0 x1 x2 x3 : Int) (d0 : w.cell? ⟨b, off, none⟩ = some (.int .u8 x0)) (d1 : w.cell? ⟨b, off + 1, none⟩ = some (.int .u8 x1)) (d2 : w.cell? ⟨b, off + 2, none⟩ = some (.int .u8 x2)) (d3 : w.cell? ⟨b, off + 3, none⟩ = some (.int .u8 x3)) (h4 : 4 ≤ n) (h20 : (n - 4) % 20 = 0) (e1 : (x0 != 1) = false) (e3 : (x1 != 2) = false) (e4 : (x2 != 0) = true) :
    Calls Try.prog 14 #[.slice (some ⟨b, off, none⟩) n cap] w (Decoded w ⟨0, false, [], 2⟩) := by
  have nb : b < w.heap.size := World.block_lt_of_cell? w ⟨b, off, none⟩ d0
  have h4i : ¬ (n : Int) < 4 := by omega
  have e : ((((n : Int) - 4) % 20) != 0) = false := by rw [bne_eq_false_iff_eq]; omega
  go_enter Try.func14, Try.ntmps14
  go_wp2
  exact fin14z rfl rfl rfl

set_option maxHeartbeats 1000000 in
theorem refDecode_b2_2 (n cap : Nat) (w : World) (hn : n ≤ 3000) (b off : Nat) (x0 x1 x2 x3 : Int) (d0 : w.cell? ⟨b, off, none⟩ = some (.int .u8 x0)) (d1 : w.cell? ⟨b, off + 1, none⟩ = some (.int .u8 x1)) (d2 : w.cell? ⟨b, off + 2, none⟩ = some (.int .u8 x2)) (d3 : w.cell? ⟨b, off + 3, none⟩ = some (.int .u8 x3)) (h4 : 4 ≤ n) (h20 : (n - 4) % 20 = 0) (e1 : (x0 != 1) = true) (e2 : (x0 != 2) = false) (e3 : (x1 != 2) = false) (e4 : (x2 != 0) = true) :
    Calls Try.prog 14 #[.slice (some ⟨b, off, none⟩) n cap] w (Decoded w ⟨0, false, [], 2⟩) := by
  have nb : b < w.heap.size := World.block_lt_of_cell? w ⟨b, off, none⟩ d0
  have h4i : ¬ (n : Int) < 4 := by omega
  have e : ((((n : Int) - 4) % 20) != 0) = false := by rw [bne_eq_false_iff_eq]; omega
  go_enter Try.func14, Try.ntmps14
  go_wp2
  exact fin14z rfl rfl rfl

set_option maxHeartbeats 1000000 in
theorem refDecode_b3_1 (n cap : Nat) (w : World) (hn : n ≤ 3000) (b off : Nat) (x0 x1 x2 x3 : Int) (d0 : w.cell? ⟨b, off, none⟩ = some (.int .u8 x0)) (d1 : w.cell? ⟨b, off + 1, none⟩ = some (.int .u8 x1)) (d2 : w.cell? ⟨b, off + 2, none⟩ = some (.int .u8 x2)) (d3 : w.cell? ⟨b, off + 3, none⟩ = some (.int .u8 x3)) (h4 : 4 ≤ n) (h20 : (n - 4) % 20 = 0) (e1 : (x0 != 1) = false) (e3 : (x1 != 2) = false) (e4 : (x2 != 0) = false) (e5 : (x3 != 0) = true) :
    Calls Try.prog 14 #[.slice (some ⟨b, off, none⟩) n cap] w (Decoded w ⟨0, false, [], 2⟩) := by
  have nb : b < w.heap.size := World.block_lt_of_cell? w ⟨b, off, none⟩ d0
  have h4i : ¬ (n : Int) < 4 := by omega
  have e : ((((n : Int) - 4) % 20) != 0) = false := by rw [bne_eq_false_iff_eq]; omega
  go_enter Try.func14, Try.ntmps14
  go_wp2
  exact fin14z rfl rfl rfl

set_option maxHeartbeats 1000000 in
theorem refDecode_b3_2 (n cap : Nat) (w : World) (hn : n ≤ 3000) (b off : Nat) (x0 x1 x2 x3 : Int) (d0 : w.cell? ⟨b, off, none⟩ = some (.int .u8 x0)) (d1 : w.cell? ⟨b, off + 1, none⟩ = some (.int .u8 x1)) (d2 : w.cell? ⟨b, off + 2, none⟩ = some (.int .u8 x2)) (d3 : w.cell? ⟨b, off + 3, none⟩ = some (.int .u8 x3)) (h4 : 4 ≤ n) (h20 : (n - 4) % 20 = 0) (e1 : (x0 != 1) = true) (e2 : (x0 != 2) = false) (e3 : (x1 != 2) = false) (e4 : (x2 != 0) = false) (e5 : (x3 != 0) = true) :
    Calls Try.prog 14 #[.slice (some ⟨b, off, none⟩) n cap] w (Decoded w ⟨0, false, [], 2⟩) := by
  have nb : b < w.heap.size := World.block_lt_of_cell? w ⟨b, off, none⟩ d0
  have h4i : ¬ (n : Int) < 4 := by omega
  have e : ((((n : Int) - 4) % 20) != 0) = false := by rw [bne_eq_false_iff_eq]; omega
  go_enter Try.func14, Try.ntmps14
  go_wp2
  exact fin14z rfl rfl rfl

theorem refDecode_bad (a : Option Addr) (n cap : Nat) (l : List Int) (w : World) (hr : Row8 w a n l) (hn : n ≤ 3000) (hf : framed l = false) :
    Calls Try.prog 14 #[.slice a n cap] w (Decoded w (dec l)) := by
  rw [dec_bad hf]
  by_cases h4 : n < 4
  · exact refDecode_short a n cap w hn h4
  by_cases h20 : (n - 4) % 20 = 0
  · obtain ⟨b, off, rfl, hc⟩ := hr.at (by omega)
    have d0 := hc 0 (by omega)
    rw [Nat.add_zero] at d0
    have d1 := hc 1 (by omega)
    have d2 := hc 2 (by omega)
    have d3 := hc 3 (by omega)
    have hlen := hr.1
    generalize k0 : l[0]?.getD 0 = x0 at d0
    generalize k1 : l[1]?.getD 0 = x1 at d1
    generalize k2 : l[2]?.getD 0 = x2 at d2
    generalize k3 : l[3]?.getD 0 = x3 at d3
    cases e1 : (x0 != 1)
    · cases e3 : (x1 != 2)
      · cases e4 : (x2 != 0)
        · cases e5 : (x3 != 0)
          · exfalso
            simp only [bne_eq_false_iff_eq] at e1 e3 e4 e5
            have : framed l = true := by unfold framed; rw [k0, k1, k2, k3, e1, e3, e4, e5, hlen, h20]; simp; omega
            rw [this] at hf; cases hf
          · exact refDecode_b3_1 n cap w hn b off x0 x1 x2 x3 d0 d1 d2 d3 (by omega) h20 e1 e3 e4 e5
        · exact refDecode_b2_1 n cap w hn b off x0 x1 x2 x3 d0 d1 d2 d3 (by omega) h20 e1 e3 e4
      · exact refDecode_b1_1 n cap w hn b off x0 x1 x2 x3 d0 d1 d2 d3 (by omega) h20 e1 e3
    · cases e2 : (x0 != 2)
      · cases e3 : (x1 != 2)
        · cases e4 : (x2 != 0)
          · cases e5 : (x3 != 0)
            · exfalso
              simp only [bne_eq_false_iff_eq] at e2 e3 e4 e5
              have : framed l = true := by unfold framed; rw [k0, k1, k2, k3, e2, e3, e4, e5, hlen, h20]; simp; omega
              rw [this] at hf; cases hf
            · exact refDecode_b3_2 n cap w hn b off x0 x1 x2 x3 d0 d1 d2 d3 (by omega) h20 e1 e2 e3 e4 e5
          · exact refDecode_b2_2 n cap w hn b off x0 x1 x2 x3 d0 d1 d2 d3 (by omega) h20 e1 e2 e3 e4
        · exact refDecode_b1_2 n cap w hn b off x0 x1 x2 x3 d0 d1 d2 d3 (by omega) h20 e1 e2 e3
      · exact refDecode_cmd n cap w hn b off x0 x1 x2 x3 d0 d1 d2 d3 (by omega) h20 e1 e2
  · exact refDecode_odd a n cap w hn (by omega) h20
end Go.Proofs.Ytabpillcpnnidaa
