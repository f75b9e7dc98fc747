/- The contract of the document's Parse: a prefix that may not be. -/
import Derived.Test.YtapoajplmejjcaaDoorConl
namespace Go.Proofs.YtapoajplmejjcaaDoor
open Go.RowKit

theorem tl {w w1 w2 : World} {a l : Value} (hB : Below (w.heap.size + 1) (w.alloc (.cells #[.int .u32 0, .int .i64 0] 24)) w1)
    (hb2 : Below (w1.alloc (.cells #[a, l] 24)).drew.heap.size (w1.alloc (.cells #[a, l] 24)).drew w2) :
    Below (w.heap.size + 1) (w.alloc (.cells #[.int .u32 0, .int .i64 0] 24)) w2 ∧ (w2.cell? ⟨w1.heap.size, 0, none⟩ = some a ∧ w2.cell? ⟨w1.heap.size, 1, none⟩ = some l ∧ w1.heap.size < w2.heap.size) := by
  have h1 : Below (w1.alloc (.cells #[a, l] 24)).heap.size (w1.alloc (.cells #[a, l] 24)) w2 := (Below.refl _ _).drew.trans hb2
  have hz := (rcell hB).2.2.2.2
  exact ⟨(hB.alloc hz _).trans (h1.mono (by simp; omega)), later2 (new2 w1 a l 24) h1⟩

set_option maxRecDepth 100000 in
set_option maxHeartbeats 2000000 in
theorem refParse_may (s : ByteArray) (w : World) (hs : s.size ≤ 18) (n0 n1 n2 n3 n4 : Nat) (x0 x1 x2 x3 x4 : Int) (hns : Hid (splitN s.data.toList [] 0 = [n0, n1, n2, n3, n4]))
    (hx : Hid ((n0 : Int) = x0 ∧ (n1 : Int) = x1 ∧ (n2 : Int) = x2 ∧ (n3 : Int) = x3 ∧ (n4 : Int) = x4))
    (b0 : 0 ≤ x0) (b1 : 0 ≤ x1) (b2 : 0 ≤ x2) (b3 : 0 ≤ x3) (b4 : 0 ≤ x4) (h0 : x0 ≤ 255) (h1 : x1 ≤ 255) (h2 : x2 ≤ 255) (h3 : x3 ≤ 255) (h4 : x4 ≤ 9223372036854775807)
    (hm : mayB (x0 * 16777216 + x1 * 65536 + x2 * 256 + x3) x4 = false) :
    Calls Tryd.prog 27 #[.string s] w fun e w' => e = .returned (.tuple #[.agg #[.int .u32 0, .int .i64 0], .int .i64 2]) ∧ Below w.heap.size w w' := by
  go_enter Tryd.func27, Tryd.ntmps27
  go_wp2
  go_loopw [4, 5, 6] (fun v x i w' => ∃ (k y m : Nat) (acc : List Nat), k ≤ s.size ∧ y < 10 ^ k ∧ m ≤ k ∧ i = .int .i64 k ∧ x = .int .i64 y ∧ OwnI w' (w.heap.size + 1) 3 v m acc ∧ Below (w.heap.size + 1) (w.alloc (.cells #[.int .u32 0, .int .i64 0] 24)) w' ∧ splitN s.data.toList [] 0 = splitN (s.data.toList.drop k) acc y) (fun _ _ i _ => s.size - (intOf i).toNat)
  case atStart => exact ⟨0, 0, 0, [], by omega, by simp, Nat.le_refl _, rfl, rfl, ownI_nil _ _ _, Below.refl _ _, by simp⟩
  case round =>
    obtain ⟨k, y, m, acc, hk, hy, hmk, rfl, rfl, hown, hb, hsp⟩ := hrel
    have HR : Hid (splitN s.data.toList [] 0 = splitN (s.data.toList.drop k) acc y) := hsp
    have HO : Hid (OwnI wr (w.heap.size + 1) 3 u4 m acc) := hown
    clear hsp hown
    have hz : w.heap.size + 1 ≤ wr.heap.size := by have := hb.size; simpa using this
    by_cases hlt : k < s.size
    · have hy2 : y < 100000000000000000 := Nat.lt_of_lt_of_le hy (pow_bd k (by omega))
      by_cases hd : 48 ≤ (s[k].toNat : Int) ∧ (s[k].toNat : Int) ≤ 57
      · obtain ⟨hd0, hd1⟩ := hd
        have HR' := HR.out.trans (split_step hlt hd0 hd1)
        have HR2 := (show Hid (splitN s.data.toList [] 0 = splitN (s.data.toList.drop (k + 1)) acc (10 * y + (s[k].toNat - 48))) from HR')
        have HY : Hid (10 * y + (s[k].toNat - 48) < 10 ^ (k + 1)) := by unfold Hid; rw [Nat.pow_succ]; omega
        clear HR' hy
        go_wp2
        go_roundw
        case rel => exact ⟨k + 1, 10 * y + (s[k].toNat - 48), m, acc, by omega, HY.out, by omega, by go_num, by go_num, HO.out, hb, HR2.out⟩
        case measure => simp [intOf]; omega
      · have HR2 := (show Hid (splitN s.data.toList [] 0 = splitN (s.data.toList.drop (k + 1)) (acc ++ [y]) 0) from HR.out.trans (split_cut hlt hd))
        have hdd : (s[k].toNat : Int) < 48 ∨ (48 ≤ (s[k].toNat : Int) ∧ 57 < (s[k].toNat : Int)) := by omega
        clear hd hy
        rcases hdd with hd0 | ⟨hd0, hd1⟩
        all_goals
          go_wp2_with (at_builtin; refine wpList_appI _ rfl (.tmp 37) (.tmp 39) 46 3 rfl (w.heap.size + 1) Tryd.underlying46 info3 u4 m acc rfl (HO.out.later (below1 _ _)) wr.heap.size 1 y rfl (int_cell _ _) (by omega) (by simp; omega) ?_; intro a1 c1 w1 own1 hb1)
          go_roundw
          case rel => exact ⟨k + 1, 0, m + 1, acc ++ [y], by omega, Nat.pow_pos (by omega), by omega, by go_num, rfl, own1, (hb.alloc hz _).trans hb1, HR2.out⟩
          case measure => simp [intOf]; omega
    · obtain rfl : k = s.size := by omega
      have HL := (show Hid (splitN s.data.toList [] 0 = acc ++ [y]) from HR.out.trans split_end)
      clear HR hy
      obtain rfl : m = 4 := by
        have := congrArg List.length (HL.out.symm.trans hns.out)
        rw [List.length_append, HO.out.len] at this
        simp only [List.length_cons, List.length_nil] at this
        omega
      have HL5 : Hid (acc ++ [y] = [n0, n1, n2, n3, n4]) := HL.out.symm.trans hns.out
      clear HL
      have e1 : IntKind.i64.wrap (x0 * 16777216) = x0 * 16777216 := wrap_in (by omega) (by omega)
      have e2 : IntKind.i64.wrap (x1 * 65536) = x1 * 65536 := wrap_in (by omega) (by omega)
      have e3 : IntKind.i64.wrap (x0 * 16777216 + x1 * 65536) = x0 * 16777216 + x1 * 65536 := wrap_in (by omega) (by omega)
      have e4 : IntKind.i64.wrap (x2 * 256) = x2 * 256 := wrap_in (by omega) (by omega)
      have e5 : IntKind.i64.wrap (x0 * 16777216 + x1 * 65536 + x2 * 256) = x0 * 16777216 + x1 * 65536 + x2 * 256 := wrap_in (by omega) (by omega)
      have e6 : IntKind.i64.wrap (x0 * 16777216 + x1 * 65536 + x2 * 256 + x3) = x0 * 16777216 + x1 * 65536 + x2 * 256 + x3 := wrap_in (by omega) (by omega)
      have e7 : IntKind.u32.wrap (x0 * 16777216 + x1 * 65536 + x2 * 256 + x3) = x0 * 16777216 + x1 * 65536 + x2 * 256 + x3 := by rw [IntKind.wrap_u32']; omega
      go_wp2_with (at_builtin; refine wpList_appI _ rfl (.tmp 41) (.tmp 43) 46 3 rfl (w.heap.size + 1) Tryd.underlying46 info3 u4 4 acc rfl (HO.out.later (below1 _ _)) wr.heap.size 1 y rfl (int_cell _ _) (by omega) (by simp; omega) ?_; intro a1 c1 w1 own1 hb1; have hB := (hb.alloc hz _).trans hb1; obtain ⟨cA, cB, fA, fB, z0⟩ := rcell hB; rw [HL5.out] at own1; obtain ⟨g, rfl, hg0, hg1, d0, d1, d2, d3, d4⟩ := five own1 hx.out.1 hx.out.2.1 hx.out.2.2.1 hx.out.2.2.2.1 hx.out.2.2.2.2)
      go_region_held3 (fun w' => w'.cell? ⟨g, 0, none⟩ = some (.int .i64 x0) ∧ w'.cell? ⟨g, 1, none⟩ = some (.int .i64 x1) ∧ w'.cell? ⟨g, 2, none⟩ = some (.int .i64 x2) ∧ w'.cell? ⟨g, 3, none⟩ = some (.int .i64 x3) ∧ w'.cell? ⟨g, 4, none⟩ = some (.int .i64 x4)) (go_keep) (fail)
      go_wp2_with (go_at_call 19; refine (refMay_any _ _ _ (by omega) (by omega) (by omega) (by omega) hm).mono ?_; rintro e w2 ⟨rfl, hb2⟩; obtain ⟨hB2, hP2⟩ := tl hB hb2; obtain ⟨cA2, cB2, fA2, fB2, z2⟩ := rcell hB2)
      refine bodyPost_ret (v := .tuple #[.agg #[.int .u32 0, .int .i64 0], .int .i64 2]) (by simp [results, Tryd.results27, go_sem, cA2, cB2]) rfl ⟨rfl, ?_⟩
      exact ((rbelow hB2).setCell (Nat.le_refl _) _).setCell (Nat.le_refl _) _

end Go.Proofs.YtapoajplmejjcaaDoor
