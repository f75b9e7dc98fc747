/- Contracts of Join and the document's own. -/
import Derived.Test.YtienmcfmaegenaaConc
import Derived.Deep.Cut
namespace Go.Proofs.Ytienmcfmaegenaa
open Go.RowKit

theorem addI_nat (a m : Int) (_hm : 0 ≤ m) : ∃ x : Nat, addI a 0 m = x ∧ (x : Int) ≤ m := by
  refine ⟨(addI a 0 m).toNat, ?_, ?_⟩ <;> unfold addI <;> omega
theorem addI_two {a b m : Int} {x y : Nat} (_hm : 0 ≤ m) (hx : addI a 0 m = x) (hy : addI b 0 m = y) : addI ((x + y : Nat) : Int) 0 m = addI a b m := by
  unfold addI at *; omega

theorem join_add (x y x' y' : Nat) (h : x + x' < 2 ^ 53) (h' : y + y' < 2 ^ 53) (t : TypeId) (W : World) :
    (binOp .add t (.complex .f64 (fl x) (fl y)) (.complex .f64 (fl x') (fl y'))).run Try.prog W = .ok (.complex .f64 (fl (x + x')) (fl (y + y'))) W :=
  run_complex_sum W .add (.inl rfl) t .f64 _ _ _ _ _ _ (csum_fl h h')
theorem join_conv (x : Nat) (h : x < 2 ^ 53) (W : World) : (convert 35 3 (.float .f64 (fl x))).run Try.prog W = .ok (.int .i64 x) W :=
  run_convert_float_int W 35 3 .f64 .i64 _ _ (by kernel_rfl) Try.underlying3 (toInt64_fl h)

theorem regrown7 (w : World) (x y z x' y' z' : Value) (ob : Obj) :
    (∀ d os, (Sort.grow (redrawn (((w.alloc (.cells #[x, y, z] 23)).alloc (.cells #[x', y', z'] 23)).alloc ob) d) os).cell? ⟨w.heap.size, 0, none⟩ = some x) ∧
    (∀ d os, (Sort.grow (redrawn (((w.alloc (.cells #[x, y, z] 23)).alloc (.cells #[x', y', z'] 23)).alloc ob) d) os).cell? ⟨w.heap.size, 1, none⟩ = some y) ∧
    (∀ d os, (Sort.grow (redrawn (((w.alloc (.cells #[x, y, z] 23)).alloc (.cells #[x', y', z'] 23)).alloc ob) d) os).cell? ⟨w.heap.size, 2, none⟩ = some z) ∧
    (∀ d os, (Sort.grow (redrawn (((w.alloc (.cells #[x, y, z] 23)).alloc (.cells #[x', y', z'] 23)).alloc ob) d) os).cell? ⟨w.heap.size + 1, 0, none⟩ = some x') ∧
    (∀ d os, (Sort.grow (redrawn (((w.alloc (.cells #[x, y, z] 23)).alloc (.cells #[x', y', z'] 23)).alloc ob) d) os).cell? ⟨w.heap.size + 1, 1, none⟩ = some y') ∧
    (∀ d os, (Sort.grow (redrawn (((w.alloc (.cells #[x, y, z] 23)).alloc (.cells #[x', y', z'] 23)).alloc ob) d) os).cell? ⟨w.heap.size + 1, 2, none⟩ = some z') :=
  ⟨cell_regrown (by rw [(below1 _ ob).cell (by simp; try omega)]; simp [go_sem]), cell_regrown (by rw [(below1 _ ob).cell (by simp; try omega)]; simp [go_sem]), cell_regrown (by rw [(below1 _ ob).cell (by simp; try omega)]; simp [go_sem]), cell_regrown (by rw [(below1 _ ob).cell (by simp; try omega)]; simp [go_sem]), cell_regrown (by rw [(below1 _ ob).cell (by simp; try omega)]; simp [go_sem]), cell_regrown (by rw [(below1 _ ob).cell (by simp; try omega)]; simp [go_sem])⟩

theorem res3 {w w1 : World} {o o' : Obj} (hb : Below (((w.alloc o).alloc o').alloc (.cells #[.int .i64 0, .int .i64 0, .int .i64 0] 23)).heap.size (((w.alloc o).alloc o').alloc (.cells #[.int .i64 0, .int .i64 0, .int .i64 0] 23)) w1) :
    w1.frozen? ⟨w.heap.size + 1 + 1, 0, none⟩ = false ∧ w1.frozen? ⟨w.heap.size + 1 + 1, 1, none⟩ = false ∧ w1.frozen? ⟨w.heap.size + 1 + 1, 2, none⟩ = false ∧
    w1.cell? ⟨w.heap.size + 1 + 1, 0, none⟩ = some (.int .i64 0) ∧ w1.cell? ⟨w.heap.size + 1 + 1, 1, none⟩ = some (.int .i64 0) ∧ w1.cell? ⟨w.heap.size + 1 + 1, 2, none⟩ = some (.int .i64 0) ∧ w.heap.size + 1 + 1 < w1.heap.size :=
  ⟨by rw [hb.frozen (by simp)]; simp [go_sem], by rw [hb.frozen (by simp)]; simp [go_sem], by rw [hb.frozen (by simp)]; simp [go_sem], by rw [hb.cell (by simp)]; simp [go_sem], by rw [hb.cell (by simp)]; simp [go_sem], by rw [hb.cell (by simp)]; simp [go_sem], by have := hb.size; simp at this; omega⟩

set_option maxHeartbeats 1000000 in
theorem join_any (b d h b' d' h' : Int) (w : World) (hd0 : -9223372036854775808 ≤ d) (hd1 : d ≤ 9223372036854775807) (hh0 : -9223372036854775808 ≤ h) (hh1 : h ≤ 9223372036854775807)
    (hd0' : -9223372036854775808 ≤ d') (hd1' : d' ≤ 9223372036854775807) (hh0' : -9223372036854775808 ≤ h') (hh1' : h' ≤ 9223372036854775807) {B D H : Int} (hB : min b b' = B) (hD : addI d d' 16777216 = D) (hH : addI h h' 100 = H) :
    Calls Try.prog 12 #[.agg #[.int .i64 b, .int .i64 d, .int .i64 h], .agg #[.int .i64 b', .int .i64 d', .int .i64 h']] w fun e w' => e = .returned (.agg #[.int .i64 B, .int .i64 D, .int .i64 H]) ∧ Below w.heap.size w w' := by
  obtain ⟨x, hx, x1⟩ := addI_nat d 16777216 (by decide)
  obtain ⟨y, hy, y1⟩ := addI_nat h 100 (by decide)
  obtain ⟨x', hx', x1'⟩ := addI_nat d' 16777216 (by decide)
  obtain ⟨y', hy', y1'⟩ := addI_nat h' 100 (by decide)
  have HD : Hid (addI ((x + x' : Nat) : Int) 0 16777216 = D) := (addI_two (by decide) hx hx').trans hD
  have HH : Hid (addI ((y + y' : Nat) : Int) 0 100 = H) := (addI_two (by decide) hy hy').trans hH
  have HX : Hid (addI d 0 16777216 = x) := hx
  have HY : Hid (addI h 0 100 = y) := hy
  have HX' : Hid (addI d' 0 16777216 = x') := hx'
  have HY' : Hid (addI h' 0 100 = y') := hy'
  clear hx hy hx' hy' hD hH
  have f1 := join_add x y x' y' (by omega) (by omega)
  have f2 := join_conv (x + x') (by omega)
  have f3 := join_conv (y + y') (by omega)
  have hcase : (b' < b ∧ Hid (B = b')) ∨ (¬ b' < b ∧ Hid (B = b)) := by unfold Hid; omega
  clear hB
  rcases hcase with ⟨hlt, HB⟩ | ⟨hlt, HB⟩
  all_goals
    go_enter Try.func12, Try.ntmps12
    go_wp2
    obtain ⟨m0, m1, m2, m3, m4, m5⟩ := regrown7 w (.int .i64 b) (.int .i64 d) (.int .i64 h) (.int .i64 b') (.int .i64 d') (.int .i64 h') (.cells #[.int .i64 0, .int .i64 0, .int .i64 0] 23)
    refine wp_region_quiet_below (by kernel_rfl) (by kernel_rfl) ?_
    repeat (go_big_quiet_step (first
      | (go_at_call_of 25 (Value.agg #[Value.int IntKind.i64 b, Value.int IntKind.i64 d, Value.int IntKind.i64 h]); exact Calls.regrown_of (parts_any b d h _ hd0 hd1 hh0 hh1 HX.out HY.out))
      | (go_at_call_of 25 (Value.agg #[Value.int IntKind.i64 b', Value.int IntKind.i64 d', Value.int IntKind.i64 h']); exact Calls.regrown_of (parts_any b' d' h' _ hd0' hd1' hh0' hh1' HX'.out HY'.out))))
    refine wpQuiet_nil ?_
    intro _ hw'
    obtain ⟨⟨dq, osq⟩, hw''⟩ := hw'
    subst hw''
    have hW := Below.out3 (below_regrown (((w.alloc (.cells #[.int .i64 b, .int .i64 d, .int .i64 h] 23)).alloc (.cells #[.int .i64 b', .int .i64 d', .int .i64 h'] 23)).alloc (.cells #[.int .i64 0, .int .i64 0, .int .i64 0] 23)) dq osq)
    have hb := below_regrown (((w.alloc (.cells #[.int .i64 b, .int .i64 d, .int .i64 h] 23)).alloc (.cells #[.int .i64 b', .int .i64 d', .int .i64 h'] 23)).alloc (.cells #[.int .i64 0, .int .i64 0, .int .i64 0] 23)) dq osq
    obtain ⟨r0, r1, r2, r3, r4, r5, rz⟩ := res3 hb
    have c0 := m0 dq osq
    have c3 := m3 dq osq
    clear m0 m1 m2 m3 m4 m5 hb f1 HX HY HX' HY' hd0 hd1 hh0 hh1 hd0' hd1' hh0' hh1'
    have n0 : w.heap.size ≠ w.heap.size + 1 + 1 := by omega
    have n1 : w.heap.size + 1 + 1 ≠ w.heap.size := by omega
    go_wp2
    generalize Sort.grow (redrawn (((w.alloc (.cells #[.int .i64 b, .int .i64 d, .int .i64 h] 23)).alloc (.cells #[.int .i64 b', .int .i64 d', .int .i64 h'] 23)).alloc (.cells #[.int .i64 0, .int .i64 0, .int .i64 0] 23)) dq) osq = W at *
    go_cut [] from 6 (fun wx => wx = (((W.setCell ⟨w.heap.size + 1 + 1, 0, none⟩ (.int .i64 B)).setCell ⟨w.heap.size + 1 + 1, 1, none⟩ (.int .i64 D)).setCell ⟨w.heap.size + 1 + 1, 2, none⟩ (.int .i64 H)).drew)
    case first =>
      go_region_held3 (fun w' => w'.cell? ⟨w.heap.size, 0, none⟩ = some (.int .i64 b) ∧ w'.cell? ⟨w.heap.size + 1, 0, none⟩ = some (.int .i64 b') ∧ w'.frozen? ⟨w.heap.size + 1 + 1, 0, none⟩ = false ∧ w'.frozen? ⟨w.heap.size + 1 + 1, 1, none⟩ = false ∧ w'.frozen? ⟨w.heap.size + 1 + 1, 2, none⟩ = false)
        (go_keep)
        (first
          | (go_at_call_of 26 (Value.int IntKind.i64 100); refine (within_any _ 100 _ (by omega) (by omega) (by decide) (by decide) HH.out).mono ?_; rintro e w' ⟨rfl, rfl⟩)
          | (go_at_call_of 26 (Value.int IntKind.i64 16777216); refine (within_any _ 16777216 _ (by omega) (by omega) (by decide) (by decide) HD.out).mono ?_; rintro e w' ⟨rfl, rfl⟩))
      all_goals
        go_wp2_with fail
        go_meet
        rw [HB.out]
    case rest =>
      subst hcut
      go_wp2
      refine bodyPost_ret (v := .agg #[.int .i64 B, .int .i64 D, .int .i64 H]) (by simp [results, Try.results12, go_sem, r3, r4, r5]) rfl ⟨rfl, ?_⟩
      exact (((hW.setCell (by simp; omega) _).setCell (by simp; omega) _).setCell (by simp; omega) _).drew
end Go.Proofs.Ytienmcfmaegenaa
