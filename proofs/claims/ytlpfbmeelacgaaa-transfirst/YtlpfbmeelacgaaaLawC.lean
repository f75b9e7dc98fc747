/- TransFirst. -/
import Derived.Test.YtlpfbmeelacgaaaLawA
namespace Go.Proofs.Ytlpfbmeelacgaaa
open Go.RowKit

set_option maxRecDepth 100000 in
set_option maxHeartbeats 2000000 in
theorem law_first (C : TraC) (ad : Option Addr) (n cap : Nat) (L : List Ba) (k : Int) (w : World) (hr : RowB w ad n L) :
    Calls Try.prog 6 #[.slice ad n cap, .int .i64 k] w fun e w' => e = .returned (.bool true) ∧ Below w.heap.size w w' := by
  have HC : Hid TraC := C
  have HR : Hid (RowB w ad n L) := hr
  have HL : Hid (L.length = n) := hr.1
  clear C hr
  by_cases hbad : n > 32 ∨ k < 0 ∨ k ≥ n
  · have key : (n : Int) > 32 ∨ (¬ (n : Int) > 32 ∧ k < 0) ∨ (¬ (n : Int) > 32 ∧ ¬ k < 0 ∧ k ≥ (n : Int)) := by omega
    clear hbad
    rcases key with h1 | ⟨h1, h2⟩ | ⟨h1, h2, h3⟩
    all_goals
      go_enter Try.func6, Try.ntmps6
      go_wp2_with (go_at_call 7; refine (awake_any HC.out _).mono ?_; rintro e W1 ⟨rfl, hb1⟩)
      go_ret
      exact ⟨rfl, hb1⟩
  obtain ⟨j, rfl⟩ : ∃ j : Nat, k = (j : Int) := ⟨k.toNat, by omega⟩
  have h1 : ¬ (n : Int) > 32 := by omega
  have h2 : ¬ (j : Int) < 0 := by omega
  have h3 : ¬ (j : Int) ≥ (n : Int) := by omega
  have hjn : j < n := by omega
  have hlt : (j : Int) < (n : Int) := by omega
  have HN : Hid (n ≤ 32) := by show n ≤ 32; omega
  obtain ⟨m, hm⟩ : ∃ m, bandsB L = m := ⟨_, rfl⟩
  have HM : Hid (bandsB L = m) := hm
  obtain ⟨⟨u, x⟩, b, off, he, -, hab, -⟩ := HR.out.at hjn
  subst hab
  have HE : Hid (L[j]? = some ⟨u, x⟩) := he
  have HQ : Hid (∀ W, Below w.heap.size w W → W.cell? ⟨b, off + j * 2, none⟩ = some (.int .i64 u) ∧ W.cell? ⟨b, off + j * 2 + 1, none⟩ = some (.int .i64 x)) := fun W hW => by
    obtain ⟨p, b', off', he', -, hab, q0, q1⟩ := (HR.out.later hW).at hjn
    rw [he] at he'
    simp only [Option.some.injEq] at he'
    subst he'
    simp only [Option.some.injEq, Addr.mk.injEq, and_true] at hab
    obtain ⟨rfl, rfl⟩ := hab
    exact ⟨q0, q1⟩
  clear hbad hm
  cases m
  · clear he
    go_enter Try.func6, Try.ntmps6
    go_wp2_with (first
      | (go_at_call 7; refine (awake_any HC.out _).mono ?_; rintro e W1 ⟨rfl, hb1⟩; have HR1 := HR.out.later hb1; have HB : Hid (Below w.heap.size w W1) := hb1; clear hb1)
      | (go_at_call 10; refine (HC.out.may _ _ _ L _ HR1 (Nat.le_trans HN.out (by decide))).mono ?_; rw [HM.out]; rintro e W4 ⟨rfl, hb4⟩; have HB4 : Hid (Below w.heap.size w W4) := stp HB.out hb4; clear hb4))
    go_ret
    exact ⟨rfl, HB4.out⟩
  obtain ⟨ho, t1, t2, t3, t4⟩ := first_to HM.out he
  unfold okB at ho
  simp only [decide_eq_true_eq] at ho t1 t2 t3 t4
  obtain ⟨o1, o2, o3, o4⟩ := ho
  clear he
  obtain ⟨v2, hv2⟩ : ∃ v, toV L 0 (u + 1) = v := ⟨_, rfl⟩
  obtain ⟨k2, hk2⟩ : ∃ k, toK L 0 (u + 1) = k := ⟨_, rfl⟩
  rw [hk2] at t3
  rw [hv2, hk2] at t4
  have HX : Hid (toV L 0 u = x ∧ toK L 0 u = true ∧ toV L 0 (u + 1) = v2 ∧ toK L 0 (u + 1) = k2) := ⟨t1, t2, hv2, hk2⟩
  have HU : Hid (I64 u ∧ I64 (u + 1)) := ⟨⟨by omega, by omega⟩, ⟨by omega, by omega⟩⟩
  clear t1 t2 hv2 hk2
  by_cases hl : j + 1 = n
  · obtain rfl := t3 (by rw [HL.out]; exact hl)
    have hl' : ((j : Int) == (n : Int) - 1) = true := by rw [beq_iff_eq]; omega
    clear t3 t4
    have HMk : Hid True := trivial
    go_enter Try.func6, Try.ntmps6
    go_wp2_with (first
      | (go_at_call 7; refine (awake_any HC.out _).mono ?_; rintro e W1 ⟨rfl, hb1⟩; have HR1 := HR.out.later hb1; have HB : Hid (Below w.heap.size w W1) := hb1; clear hb1)
      | (go_at_call 10; refine (HC.out.may _ _ _ L _ HR1 (Nat.le_trans HN.out (by decide))).mono ?_; rw [HM.out]; rintro e W4 ⟨rfl, hb4⟩; have HR4 := HR1.later hb4; have HB4 : Hid (Below w.heap.size w W4) := stp HB.out hb4; obtain ⟨q0, q1⟩ := HQ.out _ HB4.out; clear hb4)
      | (go_at_call 8; clear HMk; refine (HC.out.to _ _ _ L 0 u _ HR4 (Nat.le_trans HN.out (by decide)) ⟨by decide, by decide⟩ HU.out.1).mono ?_; rw [HX.out.1, HX.out.2.1]; rintro e W2 ⟨rfl, hb2⟩; have HR2 := HR4.later hb2; have HB2 : Hid (Below w.heap.size w W2) := stp HB4.out hb2; obtain ⟨r0, r1⟩ := HQ.out _ HB2.out; clear hb2)
      | (go_at_call 8; refine (HC.out.to _ _ _ L 0 (u + 1) _ HR2 (Nat.le_trans HN.out (by decide)) ⟨by decide, by decide⟩ HU.out.2).mono ?_; rw [HX.out.2.2.1, HX.out.2.2.2]; rintro e W3 ⟨rfl, hb3⟩; have HB3 : Hid (Below w.heap.size w W3) := stp HB2.out hb3; obtain ⟨s0, s1⟩ := HQ.out _ HB3.out; clear hb3))
    go_ret
    exact ⟨by rfl, HB3.out⟩
  · have hjn2 : j + 1 < n := by omega
    have hlt2 : (j : Int) + 1 < (n : Int) := by omega
    have hl' : ((j : Int) == (n : Int) - 1) = false := by rw [beq_eq_false_iff_ne]; omega
    obtain ⟨⟨u2, x2⟩, b2, off2, he2, -, hab2, -⟩ := HR.out.at hjn2
    simp only [Option.some.injEq, Addr.mk.injEq, and_true] at hab2
    obtain ⟨rfl, rfl⟩ := hab2
    obtain ⟨rfl, rfl⟩ := t4 _ he2
    have HQ2 : Hid (∀ W, Below w.heap.size w W → W.cell? ⟨b, off + (j + 1) * 2 + 1, none⟩ = some (.int .i64 v2)) := fun W hW => by
      obtain ⟨p, b', off', he', -, hab, q0, q1⟩ := (HR.out.later hW).at hjn2
      rw [he2] at he'
      simp only [Option.some.injEq] at he'
      subst he'
      simp only [Option.some.injEq, Addr.mk.injEq, and_true] at hab
      obtain ⟨rfl, rfl⟩ := hab
      exact q1
    clear t3 t4 he2
    have HMk : Hid True := trivial
    go_enter Try.func6, Try.ntmps6
    go_wp2_with (first
      | (go_at_call 7; refine (awake_any HC.out _).mono ?_; rintro e W1 ⟨rfl, hb1⟩; have HR1 := HR.out.later hb1; have HB : Hid (Below w.heap.size w W1) := hb1; clear hb1)
      | (go_at_call 10; refine (HC.out.may _ _ _ L _ HR1 (Nat.le_trans HN.out (by decide))).mono ?_; rw [HM.out]; rintro e W4 ⟨rfl, hb4⟩; have HR4 := HR1.later hb4; have HB4 : Hid (Below w.heap.size w W4) := stp HB.out hb4; obtain ⟨q0, q1⟩ := HQ.out _ HB4.out; clear hb4)
      | (go_at_call 8; clear HMk; refine (HC.out.to _ _ _ L 0 u _ HR4 (Nat.le_trans HN.out (by decide)) ⟨by decide, by decide⟩ HU.out.1).mono ?_; rw [HX.out.1, HX.out.2.1]; rintro e W2 ⟨rfl, hb2⟩; have HR2 := HR4.later hb2; have HB2 : Hid (Below w.heap.size w W2) := stp HB4.out hb2; obtain ⟨r0, r1⟩ := HQ.out _ HB2.out; clear hb2)
      | (go_at_call 8; refine (HC.out.to _ _ _ L 0 (u + 1) _ HR2 (Nat.le_trans HN.out (by decide)) ⟨by decide, by decide⟩ HU.out.2).mono ?_; rw [HX.out.2.2.1, HX.out.2.2.2]; rintro e W3 ⟨rfl, hb3⟩; have HB3 : Hid (Below w.heap.size w W3) := stp HB2.out hb3; obtain ⟨s0, s1⟩ := HQ.out _ HB3.out; have s2 := HQ2.out _ HB3.out; clear hb3))
    go_ret
    exact ⟨by rfl, HB3.out⟩
end Go.Proofs.Ytlpfbmeelacgaaa
