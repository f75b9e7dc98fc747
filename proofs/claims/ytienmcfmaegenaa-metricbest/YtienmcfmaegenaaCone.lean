/- The contract of the document's Join. -/
import Derived.Test.YtienmcfmaegenaaCond
namespace Go.Proofs.Ytienmcfmaegenaa
open Go.RowKit

set_option maxHeartbeats 1000000 in
theorem refJoin_any (b d h b' d' h' : Int) (w : World) (hd0 : -9223372036854775808 ≤ d) (hd1 : d ≤ 9223372036854775807) (hh0 : -9223372036854775808 ≤ h) (hh1 : h ≤ 9223372036854775807)
    (hd0' : -9223372036854775808 ≤ d') (hd1' : d' ≤ 9223372036854775807) (hh0' : -9223372036854775808 ≤ h') (hh1' : h' ≤ 9223372036854775807) {B D H : Int} (hB : min b b' = B) (hD : addI d d' 16777216 = D) (hH : addI h h' 100 = H) :
    Calls Try.prog 13 #[.agg #[.int .i64 b, .int .i64 d, .int .i64 h], .agg #[.int .i64 b', .int .i64 d', .int .i64 h']] w fun e w' => e = .returned (.agg #[.int .i64 B, .int .i64 D, .int .i64 H]) ∧ Below w.heap.size w w' := by
  have HD : Hid (addI d d' 16777216 = D) := hD
  have HH : Hid (addI h h' 100 = H) := hH
  clear hD hH
  have hcase : (b' < b ∧ Hid (B = b')) ∨ (¬ b' < b ∧ Hid (B = b)) := by unfold Hid; omega
  clear hB
  go_enter Try.func13, Try.ntmps13
  go_wp2
  go_cut [5] from 6 (fun s5 wx => s5 = .pointer (some ⟨w.heap.size + 1 + 1 + 1, 0, none⟩) ∧ wx = ((((w.alloc (.cells #[.int .i64 b, .int .i64 d, .int .i64 h] 23)).alloc (.cells #[.int .i64 b', .int .i64 d', .int .i64 h'] 23)).alloc (.cells #[.int .i64 0, .int .i64 0, .int .i64 0] 23)).alloc (.cells #[.int .i64 b, .int .i64 D, .int .i64 H] 23)).drew)
  case first =>
    go_region_held3 (fun w' => w'.cell? ⟨w.heap.size, 0, none⟩ = some (.int .i64 b) ∧ w'.cell? ⟨w.heap.size, 1, none⟩ = some (.int .i64 d) ∧ w'.cell? ⟨w.heap.size, 2, none⟩ = some (.int .i64 h) ∧ w'.cell? ⟨w.heap.size + 1, 0, none⟩ = some (.int .i64 b') ∧ w'.cell? ⟨w.heap.size + 1, 1, none⟩ = some (.int .i64 d') ∧ w'.cell? ⟨w.heap.size + 1, 2, none⟩ = some (.int .i64 h'))
      (go_keep)
      (first
        | (go_at_call_of 23 (Value.int IntKind.i64 100); refine (refAdd_any _ _ 100 _ hh0 hh1 hh0' hh1' (by decide) (by decide) HH.out).mono ?_; rintro e w' ⟨rfl, rfl⟩)
        | (go_at_call_of 23 (Value.int IntKind.i64 16777216); refine (refAdd_any _ _ 16777216 _ hd0 hd1 hd0' hd1' (by decide) (by decide) HD.out).mono ?_; rintro e w' ⟨rfl, rfl⟩))
    all_goals
      go_wp2_with fail
      go_meet
      exact ⟨rfl, rfl⟩
  case rest =>
    obtain ⟨rfl, rfl⟩ := hcut
    rcases hcase with ⟨hlt, HB⟩ | ⟨hlt, HB⟩
    all_goals
      go_wp2
      refine bodyPost_ret (v := .agg #[.int .i64 B, .int .i64 D, .int .i64 H]) (by simp [results, Try.results13, go_sem, HB.out]) rfl ⟨rfl, ?_⟩
      exact ((below3 _ _ _ _).alloc (by simp; omega) _).drew
end Go.Proofs.Ytienmcfmaegenaa
