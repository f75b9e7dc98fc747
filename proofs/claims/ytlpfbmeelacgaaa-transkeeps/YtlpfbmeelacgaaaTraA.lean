/- The document's translation: To and May. -/
import Derived.Test.YtlpfbmeelacgaaaRowB
namespace Go.Proofs.Ytlpfbmeelacgaaa
open Go.RowKit

set_option maxHeartbeats 1000000 in
theorem refTo_any (ad : Option Addr) (n cap : Nat) (L : List Ba) (s x : Int) (w : World) (hr : RowB w ad n L) (hn : n ≤ 1000) :
    Calls Try.prog 9 #[.slice ad n cap, .int .i64 s, .int .i64 x] w fun e w' => e = .returned (.tuple #[.int .i64 (toV L s x), .bool (toK L s x)]) ∧ w' = w := by
  have HL : Hid (L.length = n) := hr.1
  have HR : Hid (RowB w ad n L) := hr
  clear hr
  by_cases h0 : x < 0
  · obtain ⟨e1, e2⟩ := to_neg (L := L) (s := s) h0
    rw [e1, e2]
    clear e1 e2
    go_enter Try.func9, Try.ntmps9
    go_wp2
    go_ret2
    exact ⟨rfl, rfl⟩
  obtain ⟨v, hv⟩ : ∃ v, toV L s x = v := ⟨_, rfl⟩
  obtain ⟨k, hk⟩ : ∃ k, toK L s x = k := ⟨_, rfl⟩
  have HV : Hid (toV L s x = v ∧ toK L s x = k ∧ 0 ≤ x) := ⟨hv, hk, by omega⟩
  rw [hv, hk]
  clear hv hk
  go_enter Try.func9, Try.ntmps9
  go_wp2
  go_loopw [8] (fun i_ W => ∃ j : Nat, j ≤ n ∧ i_ = .int .i64 j ∧ W = w ∧ Hid (findB x L = findB x (L.drop j))) (fun i_ _ => n - (intOf i_).toNat)
  case atStart => exact ⟨0, Nat.zero_le _, rfl, rfl, rfl⟩
  case round =>
    obtain ⟨j, hj, rfl, rfl, HJ⟩ := hrel
    by_cases hlt : j < n
    · have hlt' : (j : Int) < (n : Int) := by omega
      obtain ⟨⟨u, m⟩, b, off, he, -, rfl, q⟩ := HR.out.at hlt
      obtain ⟨q0, q1⟩ := q
      simp only at q0 q1
      have HF : Hid (findB x L = if x ≤ u then some m else findB x (L.drop (j + 1))) := by unfold Hid; rw [HJ.out, findB_at he]
      clear he
      by_cases hu : x ≤ u
      · have hu' : u ≥ x := hu
        have HE : Hid (m = v ∧ true = k) := by
          have h1 := HF.out
          rw [if_pos hu] at h1
          obtain ⟨a, b⟩ := to_find (s := s) (Int.not_lt.2 HV.out.2.2) h1
          exact ⟨a.symm.trans HV.out.1, b.symm.trans HV.out.2.1⟩
        go_wp2
        go_ret2
        rw [HE.out.1, HE.out.2]
        exact ⟨rfl, rfl⟩
      · have hu' : ¬ u ≥ x := hu
        have HE : Hid (findB x L = findB x (L.drop (j + 1))) := by
          have h1 := HF.out
          rw [if_neg hu] at h1
          exact h1
        go_wp2
        go_roundw
        case rel => exact ⟨j + 1, by omega, by go_num, trivial, HE⟩
        case measure => simp [intOf]; omega
    · have hlt' : ¬ (j : Int) < (n : Int) := by omega
      obtain rfl : j = n := by omega
      have HF : Hid (findB x L = none) := by unfold Hid; rw [HJ.out]; exact findB_end HL.out.symm
      by_cases hs : 1 ≤ s ∧ s < 4294967295
      · have HE : Hid (s = v ∧ true = k) := by
          obtain ⟨a, b⟩ := to_seed (Int.not_lt.2 HV.out.2.2) HF.out hs
          exact ⟨a.symm.trans HV.out.1, b.symm.trans HV.out.2.1⟩
        obtain ⟨hs1, hs2⟩ := hs
        have hs1' : ¬ s < 1 := by omega
        have hs2' : ¬ s ≥ 4294967295 := by omega
        go_wp2
        go_ret2
        rw [HE.out.1, HE.out.2]
        exact ⟨rfl, rfl⟩
      · have HE : Hid (0 = v ∧ false = k) := by
          obtain ⟨a, b⟩ := to_none (Int.not_lt.2 HV.out.2.2) HF.out hs
          exact ⟨a.symm.trans HV.out.1, b.symm.trans HV.out.2.1⟩
        by_cases hs1 : s < 1
        · go_wp2
          go_ret2
          rw [HE.out.1, HE.out.2]
          exact ⟨rfl, rfl⟩
        · have hs2 : s ≥ 4294967295 := by omega
          go_wp2
          go_ret2
          rw [HE.out.1, HE.out.2]
          exact ⟨rfl, rfl⟩
set_option maxRecDepth 100000 in
set_option maxHeartbeats 2000000 in
theorem refMayB_any (ad : Option Addr) (n cap : Nat) (L : List Ba) (w : World) (hr : RowB w ad n L) (hn : n ≤ 1000) {c : Bool} (hc : bandsB L = c) :
    Calls Try.prog 11 #[.slice ad n cap] w fun e w' => e = .returned (.bool c) ∧ Below w.heap.size w w' := by
  have HL : Hid (L.length = n) := hr.1
  have HR : Hid (RowB w ad n L) := hr
  clear hr
  by_cases h32 : (32 : Int) < (n : Int)
  · have HE : Hid (false = c) := by rw [← hc]; exact (bands_long (by rw [HL.out]; omega)).symm
    have h32' : (n : Int) > 32 := h32
    clear hc
    go_enter Try.func11, Try.ntmps11
    go_wp2
    go_ret
    rw [HE.out]
    exact ⟨rfl, Below.refl _ _⟩
  have h32' : ¬ (n : Int) > 32 := h32
  have HC : Hid (chnB none L = c) := by unfold Hid; rw [← hc]; exact (bands_short (by rw [HL.out]; omega)).symm
  clear hc
  go_enter Try.func11, Try.ntmps11
  go_wp2
  go_loopw [3] (fun i_ W => ∃ j : Nat, j ≤ n ∧ i_ = .int .i64 j ∧ Hid (Below w.heap.size w W) ∧ Hid (c = chnB (pvB L j) (L.drop j))) (fun i_ _ => n - (intOf i_).toNat)
  case atStart => exact ⟨0, Nat.zero_le _, rfl, Below.refl _ _, HC.out.symm⟩
  case round =>
    obtain ⟨j, hj, rfl, HB, HJ⟩ := hrel
    by_cases hlt : j < n
    · have hlt' : (j : Int) < (n : Int) := by omega
      obtain ⟨⟨u, m⟩, b, off, he, -, hab, q⟩ := (HR.out.later HB.out).at hlt
      obtain ⟨q0, q1⟩ := q
      simp only at q0 q1
      have HF : Hid (c = (okB ⟨u, m⟩ && lnkB (pvB L j) ⟨u, m⟩ && chnB (pvB L (j + 1)) (L.drop (j + 1)))) := by unfold Hid; rw [HJ.out, chn_at he]
      by_cases ho : okB ⟨u, m⟩ = true
      case neg =>
        have ho' : okB ⟨u, m⟩ = false := by simpa using ho
        have HE : Hid (false = c) := by rw [HF.out, ho']; rfl
        unfold okB at ho
        simp only [decide_eq_true_eq] at ho
        have key : u < 0 ∨ (¬ u < 0 ∧ u > 4294967295) ∨ (¬ u < 0 ∧ ¬ u > 4294967295 ∧ m < 1) ∨ (¬ u < 0 ∧ ¬ u > 4294967295 ∧ ¬ m < 1 ∧ m ≥ 4294967295) := by omega
        clear ho ho' he
        subst hab
        rcases key with h1 | ⟨h1, h2⟩ | ⟨h1, h2, h3⟩ | ⟨h1, h2, h3, h4⟩
        all_goals
          go_wp2
          go_ret
          rw [HE.out]
          exact ⟨rfl, HB.out⟩
      have HO : Hid (okB ⟨u, m⟩ = true) := ho
      unfold okB at ho
      simp only [decide_eq_true_eq] at ho
      obtain ⟨o1, o2, o3, o4⟩ := ho
      have h1 : ¬ u < 0 := by omega
      have h2 : ¬ u > 4294967295 := by omega
      have h3 : ¬ m < 1 := by omega
      have h4 : ¬ m ≥ 4294967295 := by omega
      have HE : Hid (L[j]? = some ⟨u, m⟩) := he
      clear he o1 o2 o3 o4
      cases j with
      | zero =>
        subst hab
        simp only [Nat.zero_mul, Nat.add_zero] at q0 q1
        have HN : Hid (c = chnB (pvB L (0 + 1)) (L.drop (0 + 1))) := by unfold Hid; rw [HF.out, HO.out]; rfl
        go_wp2
        go_quiet (fail)
        go_wp2
        go_roundw
        case rel => exact ⟨0 + 1, by omega, by go_num, below_drewN HB.out _, HN⟩
        case measure => simp [intOf]; omega
      | succ i =>
        obtain ⟨⟨pu, pm⟩, b', off', he', -, hab', q'⟩ := (HR.out.later HB.out).at (show i < n by omega)
        obtain ⟨p0, p1⟩ := q'
        rw [hab] at hab'
        simp only [Option.some.injEq, Addr.mk.injEq, and_true] at hab'
        obtain ⟨rfl, rfl⟩ := hab'
        simp only at p0 p1
        subst hab
        have hpv : pvB L (i + 1) = some ⟨pu, pm⟩ := he'
        have HN : Hid (c = (decide (pu < u ∧ pm ≤ m) && chnB (pvB L (i + 1 + 1)) (L.drop (i + 1 + 1)))) := by unfold Hid; rw [HF.out, HO.out, hpv, Bool.true_and]; rfl
        clear he' hpv
        obtain ⟨k, hk⟩ : ∃ k, i + 1 = k := ⟨_, rfl⟩
        have HK : Hid (i + 1 = k) := hk
        rw [hk] at q0 q1 hlt' hlt hj
        have hkp : 0 < k := by omega
        have hkp' : (k : Int) > 0 := by omega
        have hw1 : IntKind.i64.wrap ((k : Int) - 1) = (i : Int) := by simp [IntKind.wrap, IntKind.signed, IntKind.bits]; omega
        have hi1 : (i : Int) < (n : Int) := by omega
        rw [show ((i + 1 : Nat) : Int) = (k : Int) by omega]
        by_cases hge : pu < u ∧ pm ≤ m
        · have HN' : Hid (c = chnB (pvB L (k + 1)) (L.drop (k + 1))) := by rw [HN.out, decide_eq_true hge, Bool.true_and, hk]; rfl
          obtain ⟨g1, g2⟩ := hge
          have g1' : ¬ pu ≥ u := by omega
          have g2' : ¬ pm > m := by omega
          have g1d : decide (u ≤ pu) = false := decide_eq_false (by omega)
          have g2d : decide (m < pm) = false := decide_eq_false (by omega)
          clear hk HN
          go_wp2
          go_quiet (fail)
          go_wp2
          go_roundw
          case rel => exact ⟨k + 1, by omega, by go_num, below_drewN HB.out _, HN'⟩
          case measure => simp [intOf]; omega
        · have HN' : Hid (false = c) := by rw [HN.out, decide_eq_false hge]; rfl
          clear hk HN
          by_cases g1 : u ≤ pu
          · go_wp2
            go_quiet (fail)
            go_wp2
            go_ret
            rw [HN'.out]
            exact ⟨rfl, below_drewN HB.out _⟩
          · have g1d : decide (u ≤ pu) = false := decide_eq_false g1
            have g2 : m < pm := by omega
            clear hge
            go_wp2
            go_quiet (fail)
            go_wp2
            go_ret
            rw [HN'.out]
            exact ⟨rfl, below_drewN HB.out _⟩
    · have hlt' : ¬ (j : Int) < (n : Int) := by omega
      obtain rfl : j = n := by omega
      have HE : Hid (true = c) := by rw [HJ.out]; exact (chn_end HL.out.symm).symm
      go_wp2
      go_ret
      rw [HE.out]
      exact ⟨rfl, HB.out⟩
end Go.Proofs.Ytlpfbmeelacgaaa
