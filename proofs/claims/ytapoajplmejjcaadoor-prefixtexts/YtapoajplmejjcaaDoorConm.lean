/- The contract of the document's Parse: a number above 255. -/
import Derived.Test.YtapoajplmejjcaaDoorConl
namespace Go.Proofs.YtapoajplmejjcaaDoor
open Go.RowKit

set_option maxRecDepth 100000 in
set_option maxHeartbeats 2000000 in
theorem refParse_big (s : ByteArray) (w : World) (hs : s.size ≤ 18) (n0 n1 n2 n3 n4 : Nat) (x0 x1 x2 x3 x4 : Int) (hns : Hid (splitN s.data.toList [] 0 = [n0, n1, n2, n3, n4]))
    (hx : Hid ((n0 : Int) = x0 ∧ (n1 : Int) = x1 ∧ (n2 : Int) = x2 ∧ (n3 : Int) = x3 ∧ (n4 : Int) = x4))
    (hbig : 255 < x0 ∨ (x0 ≤ 255 ∧ 255 < x1) ∨ (x0 ≤ 255 ∧ x1 ≤ 255 ∧ 255 < x2) ∨ (x0 ≤ 255 ∧ x1 ≤ 255 ∧ x2 ≤ 255 ∧ 255 < x3)) :
    Calls Tryd.prog 27 #[.string s] w fun e w' => e = .returned (.tuple #[.agg #[.int .u32 0, .int .i64 0], .int .i64 2]) ∧ Below w.heap.size w w' := by
  go_enter Tryd.func27, Tryd.ntmps27
  go_wp2
  go_loopw [4, 5, 6] (fun v x i w' => ∃ (k y m : Nat) (acc : List Nat), k ≤ s.size ∧ y < 10 ^ k ∧ m ≤ k ∧ i = .int .i64 k ∧ x = .int .i64 y ∧ OwnI w' (w.heap.size + 1) 3 v m acc ∧ Below (w.heap.size + 1) (w.alloc (.cells #[.int .u32 0, .int .i64 0] 24)) w' ∧ splitN s.data.toList [] 0 = splitN (s.data.toList.drop k) acc y) (fun _ _ i _ => s.size - (intOf i).toNat)
  case atStart => exact ⟨0, 0, 0, [], by omega, by simp, Nat.le_refl _, rfl, rfl, ownI_nil _ _ _, Below.refl _ _, by simp⟩
  case round =>
    obtain ⟨k, y, m, acc, hk, hy, hmk, rfl, rfl, hown, hb, hsp⟩ := hrel
    have HR : Hid (splitN s.data.toList [] 0 = splitN (s.data.toList.drop k) acc y) := hsp
    have HO : Hid (OwnI wr (w.heap.size + 1) 3 u4 m acc) := hown
    clear hsp hown
    have hz : w.heap.size + 1 ≤ wr.heap.size := by have := hb.size; simpa using this
    by_cases hlt : k < s.size
    · have hy2 : y < 100000000000000000 := Nat.lt_of_lt_of_le hy (pow_bd k (by omega))
      by_cases hd : 48 ≤ (s[k].toNat : Int) ∧ (s[k].toNat : Int) ≤ 57
      · obtain ⟨hd0, hd1⟩ := hd
        have HR' := HR.out.trans (split_step hlt hd0 hd1)
        have HR2 := (show Hid (splitN s.data.toList [] 0 = splitN (s.data.toList.drop (k + 1)) acc (10 * y + (s[k].toNat - 48))) from HR')
        have HY : Hid (10 * y + (s[k].toNat - 48) < 10 ^ (k + 1)) := by unfold Hid; rw [Nat.pow_succ]; omega
        clear HR' hy
        go_wp2
        go_roundw
        case rel => exact ⟨k + 1, 10 * y + (s[k].toNat - 48), m, acc, by omega, HY.out, by omega, by go_num, by go_num, HO.out, hb, HR2.out⟩
        case measure => simp [intOf]; omega
      · have HR2 := (show Hid (splitN s.data.toList [] 0 = splitN (s.data.toList.drop (k + 1)) (acc ++ [y]) 0) from HR.out.trans (split_cut hlt hd))
        have hdd : (s[k].toNat : Int) < 48 ∨ (48 ≤ (s[k].toNat : Int) ∧ 57 < (s[k].toNat : Int)) := by omega
        clear hd hy
        rcases hdd with hd0 | ⟨hd0, hd1⟩
        all_goals
          go_wp2_with (at_builtin; refine wpList_appI _ rfl (.tmp 37) (.tmp 39) 46 3 rfl (w.heap.size + 1) Tryd.underlying46 info3 u4 m acc rfl (HO.out.later (below1 _ _)) wr.heap.size 1 y rfl (int_cell _ _) (by omega) (by simp; omega) ?_; intro a1 c1 w1 own1 hb1)
          go_roundw
          case rel => exact ⟨k + 1, 0, m + 1, acc ++ [y], by omega, Nat.pow_pos (by omega), by omega, by go_num, rfl, own1, (hb.alloc hz _).trans hb1, HR2.out⟩
          case measure => simp [intOf]; omega
    · obtain rfl : k = s.size := by omega
      have HL := (show Hid (splitN s.data.toList [] 0 = acc ++ [y]) from HR.out.trans split_end)
      clear HR hy
      obtain rfl : m = 4 := by
        have := congrArg List.length (HL.out.symm.trans hns.out)
        rw [List.length_append, HO.out.len] at this
        simp only [List.length_cons, List.length_nil] at this
        omega
      have HL5 : Hid (acc ++ [y] = [n0, n1, n2, n3, n4]) := HL.out.symm.trans hns.out
      clear HL
      rcases hbig with h0 | ⟨h0, h1⟩ | ⟨h0, h1, h2⟩ | ⟨h0, h1, h2, h3⟩
      all_goals
        go_wp2_with (at_builtin; refine wpList_appI _ rfl (.tmp 41) (.tmp 43) 46 3 rfl (w.heap.size + 1) Tryd.underlying46 info3 u4 4 acc rfl (HO.out.later (below1 _ _)) wr.heap.size 1 y rfl (int_cell _ _) (by omega) (by simp; omega) ?_; intro a1 c1 w1 own1 hb1; have hB := (hb.alloc hz _).trans hb1; obtain ⟨cA, cB, fA, fB, z0⟩ := rcell hB; rw [HL5.out] at own1; obtain ⟨g, rfl, hg0, hg1, d0, d1, d2, d3, d4⟩ := five own1 hx.out.1 hx.out.2.1 hx.out.2.2.1 hx.out.2.2.2.1 hx.out.2.2.2.2)
        refine bodyPost_ret (v := .tuple #[.agg #[.int .u32 0, .int .i64 0], .int .i64 2]) (by simp [results, Tryd.results27, go_sem, cA, cB]) rfl ⟨rfl, ?_⟩
        exact ((rbelow hB).setCell (Nat.le_refl _) _).setCell (Nat.le_refl _) _

end Go.Proofs.YtapoajplmejjcaaDoor
