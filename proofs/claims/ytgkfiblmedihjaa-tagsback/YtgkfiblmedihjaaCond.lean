/- Contracts of All, the document's own, and same. -/
import Derived.Test.YtgkfiblmedihjaaConc
import Derived.Deep.QuietTactic
import Derived.Deep.RegionWith
import Derived.WalkSmall
namespace Go.Proofs.Ytgkfiblmedihjaa
open Go.RowKit

theorem info3 : (Try.prog.info? 3).map (fun i => (i.zero, i.size, i.bytes)) = some (some (.int .i64 0), 1, 8) := by kernel_rfl
theorem int_cell (W : World) (x : Value) : (W.alloc (.cells #[x] 3)).cell? ⟨W.heap.size, 0, none⟩ = some x := by simp [go_sem]
theorem below1 (w : World) (o : Obj) : Below w.heap.size w (w.alloc o) := (Below.refl _ _).alloc (Nat.le_refl _) _

set_option maxHeartbeats 1000000 in
theorem all_any (t : Nat) (w : World) (ht : t < 65536) :
    Calls Try.prog 12 #[.int .u16 (t : Int)] w fun e w' => ∃ a c, e = .returned (.slice a (dep t) c) ∧ OwnZ w' w.heap.size 3 (.slice a (dep t) c) (dep t) (allK 16 t) ∧ Below w.heap.size w w' := by
  go_enter Try.func12, Try.ntmps12
  go_wp2
  go_loopw [3, 5] (fun v i w' => ∃ k : Nat, k ≤ 16 ∧ i = .int .i64 k ∧ OwnZ w' w.heap.size 3 v (cnt k t) (allK k t) ∧ Below w.heap.size w w') (fun _ i _ => 16 - (intOf i).toNat)
  case atStart => exact ⟨0, by omega, rfl, ownZ_nil _ _ _, Below.refl _ _⟩
  case round =>
    obtain ⟨k, hk, rfl, hown, hb⟩ := hrel
    have HO : Hid (OwnZ wr w.heap.size 3 u3 (cnt k t) (allK k t)) := hown
    clear hown
    have hz : w.heap.size ≤ wr.heap.size := hb.size
    have hcl := cnt_le k t
    by_cases hlt : k < 16
    · have hd : domB (k : Int) = true := domB_true (by omega) (by omega)
      cases h1 : t.testBit k
      · have hh : hasB t (k : Int) = false := by simp [hasB, h1]
        have HE : Hid (cnt (k + 1) t = cnt k t ∧ allK (k + 1) t = allK k t) := by simp [Hid, cnt, allK, h1]
        clear h1
        go_wp2_with (go_at_call 14; refine (has_any t _ _ ht hh).mono ?_; rintro e w' ⟨rfl, rfl⟩)
        go_roundw
        case rel => exact ⟨k + 1, by omega, by go_num, by rw [HE.out.1, HE.out.2]; exact HO.out, hb⟩
        case measure => simp [intOf]; omega
      · have hh : hasB t (k : Int) = true := by simp [hasB, h1, hd]
        have HE : Hid (cnt (k + 1) t = cnt k t + 1 ∧ allK (k + 1) t = allK k t ++ [(k : Int)]) := by simp [Hid, cnt, allK, h1]
        clear h1
        go_wp2_with (first
          | (go_at_call 14; refine (has_any t _ _ ht hh).mono ?_; rintro e w' ⟨rfl, rfl⟩)
          | (at_builtin; refine wpList_appZ _ rfl (.tmp 11) (.tmp 13) 25 3 rfl w.heap.size Try.underlying25 info3 u3 (cnt k t) (allK k t) rfl (HO.out.later (below1 _ _)) _ 1 (k : Int) rfl (int_cell _ _) (by omega) (by simp; omega) ?_; intro a1 c1 w1 own1 hb1))
        go_roundw
        case rel => exact ⟨k + 1, by omega, by go_num, by rw [HE.out.1, HE.out.2]; exact own1, (hb.alloc hz _).trans hb1⟩
        case measure => simp [intOf]; omega
    · obtain rfl : k = 16 := by omega
      obtain ⟨a1, c1, hv⟩ := HO.out.shape
      subst hv
      go_wp2
      go_ret
      exact ⟨a1, c1, rfl, HO.out, hb⟩

set_option maxHeartbeats 1000000 in
theorem refAll_any (t : Nat) (w : World) (ht : t < 65536) :
    Calls Try.prog 13 #[.int .u16 (t : Int)] w fun e w' => ∃ a c, e = .returned (.slice a (dep t) c) ∧ OwnZ w' w.heap.size 3 (.slice a (dep t) c) (dep t) (allK 16 t) ∧ Below w.heap.size w w' := by
  go_enter Try.func13, Try.ntmps13
  go_wp2
  go_loopw [3, 4] (fun v i w' => ∃ k : Nat, k ≤ 16 ∧ i = .int .i64 k ∧ OwnZ w' w.heap.size 3 v (cnt k t) (allK k t) ∧ Below w.heap.size w w') (fun _ i _ => 16 - (intOf i).toNat)
  case atStart => exact ⟨0, by omega, rfl, ownZ_nil _ _ _, Below.refl _ _⟩
  case round =>
    obtain ⟨k, hk, rfl, hown, hb⟩ := hrel
    have HO : Hid (OwnZ wr w.heap.size 3 u3 (cnt k t) (allK k t)) := hown
    clear hown
    have hz : w.heap.size ≤ wr.heap.size := hb.size
    have hcl := cnt_le k t
    by_cases hlt : k < 16
    · have hd : domB (k : Int) = true := domB_true (by omega) (by omega)
      cases h1 : t.testBit k
      · have hh : hasB t (k : Int) = false := by simp [hasB, h1]
        have HE : Hid (cnt (k + 1) t = cnt k t ∧ allK (k + 1) t = allK k t) := by simp [Hid, cnt, allK, h1]
        clear h1
        go_wp2_with (go_at_call 15; refine (refHas_any t _ _ ht hh).mono ?_; rintro e w' ⟨rfl, rfl⟩)
        go_roundw
        case rel => exact ⟨k + 1, by omega, by go_num, by rw [HE.out.1, HE.out.2]; exact HO.out, hb⟩
        case measure => simp [intOf]; omega
      · have hh : hasB t (k : Int) = true := by simp [hasB, h1, hd]
        have HE : Hid (cnt (k + 1) t = cnt k t + 1 ∧ allK (k + 1) t = allK k t ++ [(k : Int)]) := by simp [Hid, cnt, allK, h1]
        clear h1
        go_wp2_with (first
          | (go_at_call 15; refine (refHas_any t _ _ ht hh).mono ?_; rintro e w' ⟨rfl, rfl⟩)
          | (at_builtin; refine wpList_appZ _ rfl (.tmp 14) (.tmp 16) 25 3 rfl w.heap.size Try.underlying25 info3 u3 (cnt k t) (allK k t) rfl (HO.out.later (below1 _ _)) _ 1 (k : Int) rfl (int_cell _ _) (by omega) (by simp; omega) ?_; intro a1 c1 w1 own1 hb1))
        go_roundw
        case rel => exact ⟨k + 1, by omega, by go_num, by rw [HE.out.1, HE.out.2]; exact own1, (hb.alloc hz _).trans hb1⟩
        case measure => simp [intOf]; omega
    · obtain rfl : k = 16 := by omega
      obtain ⟨a1, c1, hv⟩ := HO.out.shape
      subst hv
      go_wp2
      go_ret
      exact ⟨a1, c1, rfl, HO.out, hb⟩

set_option maxHeartbeats 1000000 in
theorem same_any (a b : Option Addr) (n c d : Nat) (l : List Int) (w : World) (ha : RowZ w a n l) (hb : RowZ w b n l) :
    Calls Try.prog 11 #[.slice a n c, .slice b n d] w fun e w' => e = .returned (.bool true) ∧ Below w.heap.size w w' := by
  have hm := ha.2.1
  have HA : Hid (RowZ w a n l) := ha
  have HB : Hid (RowZ w b n l) := hb
  clear ha hb
  go_enter Try.func11, Try.ntmps11
  go_wp2
  go_loopw [5] (fun i w' => ∃ k j : Nat, k ≤ n ∧ i = .int .i64 k ∧ w' = w.drewN j) (fun i _ => n - (intOf i).toNat)
  case atStart => exact ⟨0, 0, by omega, rfl, rfl⟩
  case round =>
    obtain ⟨k, j, hk, rfl, rfl⟩ := hrel
    by_cases hlt : k < n
    · obtain ⟨b1, o1, rfl, hc1⟩ := HA.out.2.2 k hlt
      obtain ⟨b2, o2, rfl, hc2⟩ := HB.out.2.2 k hlt
      clear HA HB
      generalize l[k]?.getD 0 = v at hc1 hc2
      go_wp2
      go_quiet (fail)
      go_wp2
      go_roundw
      case rel => exact ⟨k + 1, _, by omega, by go_num, rfl⟩
      case measure => simp [intOf]; omega
    · obtain rfl : k = n := by omega
      clear HA HB
      go_wp2
      go_ret
      exact ⟨rfl, below_drewN (Below.refl _ _) _⟩
end Go.Proofs.Ytgkfiblmedihjaa
