/- The program's translation: To (goto). -/
import Derived.Test.YtlpfbmeelacgaaaRowB
namespace Go.Proofs.Ytlpfbmeelacgaaa
open Go.RowKit

/-- What holds when the label is jumped to. -/
def toldJ (w : World) (sl : Value) (s x v : Int) (k : Bool) (a' : Act) (w' : World) : Prop :=
  k = true ∧ Below w.heap.size w w' ∧ ∃ (u3 u4 u5 u6 u7 u9 u10 u11 u12 u13 u14 u15 u16 u17 u18 u19 u20 u21 u22 u23 u24 u25 u26 u27 u28 u29 u30 u31 u32 u33 : Value), a' = { tmps := #[sl, .int .i64 s, .int .i64 x, u3, u4, u5, u6, u7, .int .i64 v, u9, u10, u11, u12, u13, u14, u15, u16, u17, u18, u19, u20, u21, u22, u23, u24, u25, u26, u27, u28, u29, u30, u31, u32, u33], defers := [] }
set_option maxHeartbeats 2000000 in
theorem to_trans (ad : Option Addr) (n cap : Nat) (L : List Ba) (s x : Int) (w : World) (hr : RowB w ad n L) (hn : n ≤ 1000) :
    Calls Try.prog 8 #[.slice ad n cap, .int .i64 s, .int .i64 x] w fun e w' => e = .returned (.tuple #[.int .i64 (toV L s x), .bool (toK L s x)]) ∧ Below w.heap.size w w' := by
  have HL : Hid (L.length = n) := hr.1
  have HR : Hid (RowB w ad n L) := hr
  clear hr
  by_cases h0 : x < 0
  · obtain ⟨e1, e2⟩ := to_neg (L := L) (s := s) h0
    rw [e1, e2]
    clear e1 e2
    go_enter Try.func8, Try.ntmps8
    go_wp2
    refine wp_scope_jumps 0 (fun _ _ => False) (fun _ _ => 0) rfl ?_ (fun _ _ h => h.elim)
    go_wp2
    simp only [Exit.jump]
    go_ret2
    exact ⟨rfl, Below.refl _ _⟩
  obtain ⟨v, hv⟩ : ∃ v, toV L s x = v := ⟨_, rfl⟩
  obtain ⟨k, hk⟩ : ∃ k, toK L s x = k := ⟨_, rfl⟩
  have HV : Hid (toV L s x = v ∧ toK L s x = k ∧ 0 ≤ x) := ⟨hv, hk, by omega⟩
  rw [hv, hk]
  clear hv hk
  go_enter Try.func8, Try.ntmps8
  go_wp2
  refine wp_scope_jumps 0 (toldJ w (.slice ad n cap) s x v k) (fun _ _ => 0) rfl ?_ ?_
  · go_wp2
    go_loopw [8, 16] (fun m_ i_ W => ∃ j : Nat, j ≤ n ∧ m_ = .int .i64 s ∧ i_ = .int .i64 j ∧ Hid (Below w.heap.size w W) ∧ Hid (findB x L = findB x (L.drop j))) (fun _ i_ _ => n - (intOf i_).toNat)
    case atStart => exact ⟨0, Nat.zero_le _, rfl, rfl, Below.refl _ _, rfl⟩
    case round =>
      obtain ⟨j, hj, rfl, rfl, HB, HJ⟩ := hrel
      by_cases hlt : j < n
      · have hlt' : (j : Int) < (n : Int) := by omega
        obtain ⟨⟨u, m⟩, b, off, he, -, rfl, q⟩ := (HR.out.later HB.out).at hlt
        obtain ⟨q0, q1⟩ := q
        simp only at q0 q1
        have HF : Hid (findB x L = if x ≤ u then some m else findB x (L.drop (j + 1))) := by unfold Hid; rw [HJ.out, findB_at he]
        clear he
        by_cases hu : x ≤ u
        · have HE : Hid (m = v ∧ true = k) := by
            have h1 := HF.out
            rw [if_pos hu] at h1
            obtain ⟨a, b⟩ := to_find (s := s) (Int.not_lt.2 HV.out.2.2) h1
            exact ⟨a.symm.trans HV.out.1, b.symm.trans HV.out.2.1⟩
          go_wp2
          go_step3
          rw [HE.out.1]
          exact ⟨rfl, HE.out.2.symm, HB.out.alloc HB.out.size _, _, _, _, _, _, _, _, _, _, _, _, _, _, _, _, _, _, _, _, _, _, _, _, _, _, _, _, _, _, _, rfl⟩
        · have HE : Hid (findB x L = findB x (L.drop (j + 1))) := by
            have h1 := HF.out
            rw [if_neg hu] at h1
            exact h1
          go_wp2
          go_roundw
          case rel => exact ⟨j + 1, by omega, rfl, by go_num, HB.out.alloc HB.out.size _, HE⟩
          case measure => simp [intOf]; omega
      · have hlt' : ¬ (j : Int) < (n : Int) := by omega
        obtain rfl : j = n := by omega
        have HF : Hid (findB x L = none) := by unfold Hid; rw [HJ.out]; exact findB_end HL.out.symm
        by_cases hs : 1 ≤ s ∧ s < 4294967295
        · have HE : Hid (s = v ∧ true = k) := by
            obtain ⟨a, b⟩ := to_seed (Int.not_lt.2 HV.out.2.2) HF.out hs
            exact ⟨a.symm.trans HV.out.1, b.symm.trans HV.out.2.1⟩
          obtain ⟨hs1, hs2⟩ := hs
          have hs1' : ¬ s < 1 := by omega
          have hs2' : ¬ s > 4294967294 := by omega
          go_wp2
          go_step3
          go_wp2
          simp only [Exit.jump]
          go_ret2
          rw [HE.out.1, ← HE.out.2]
          exact ⟨rfl, HB.out⟩
        · have HE : Hid (0 = v ∧ false = k) := by
            obtain ⟨a, b⟩ := to_none (Int.not_lt.2 HV.out.2.2) HF.out hs
            exact ⟨a.symm.trans HV.out.1, b.symm.trans HV.out.2.1⟩
          by_cases hs1 : s < 1
          · go_wp2
            simp only [Exit.jump]
            go_ret2
            rw [HE.out.1, HE.out.2]
            exact ⟨rfl, HB.out⟩
          · have hs2 : s > 4294967294 := by omega
            go_wp2
            simp only [Exit.jump]
            go_ret2
            rw [HE.out.1, HE.out.2]
            exact ⟨rfl, HB.out⟩
  · rintro a' w' ⟨hk, hb, u3, u4, u5, u6, u7, u9, u10, u11, u12, u13, u14, u15, u16, u17, u18, u19, u20, u21, u22, u23, u24, u25, u26, u27, u28, u29, u30, u31, u32, u33, rfl⟩
    subst hk
    go_wp2
    simp only [Exit.jump]
    go_ret2
    exact ⟨rfl, hb⟩
end Go.Proofs.Ytlpfbmeelacgaaa
