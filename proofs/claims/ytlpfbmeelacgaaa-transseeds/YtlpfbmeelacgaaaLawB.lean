/- TransKeeps, TransSeeds, TransFirst. -/
import Derived.Test.YtlpfbmeelacgaaaLawA
namespace Go.Proofs.Ytlpfbmeelacgaaa
open Go.RowKit

set_option maxRecDepth 100000 in
set_option maxHeartbeats 2000000 in
theorem law_keeps (C : TraC) (ad : Option Addr) (n cap : Nat) (L : List Ba) (a b : Int) (w : World) (hr : RowB w ad n L) (ha : I64 a) (hb : I64 b) :
    Calls Try.prog 4 #[.slice ad n cap, .int .i64 a, .int .i64 b] w fun e w' => e = .returned (.bool true) ∧ Below w.heap.size w w' := by
  have HC : Hid TraC := C
  have HR : Hid (RowB w ad n L) := hr
  have HS : Hid (I64 a ∧ I64 b) := ⟨ha, hb⟩
  clear C hr ha hb
  by_cases hbad : n > 100 ∨ a < 0 ∨ a > b
  · have key : (n : Int) > 100 ∨ (¬ (n : Int) > 100 ∧ a < 0) ∨ (¬ (n : Int) > 100 ∧ ¬ a < 0 ∧ a > b) := by omega
    clear hbad
    rcases key with h1 | ⟨h1, h2⟩ | ⟨h1, h2, h3⟩
    all_goals
      go_enter Try.func4, Try.ntmps4
      go_wp2_with (go_at_call 7; refine (awake_any HC.out _).mono ?_; rintro e W1 ⟨rfl, hb1⟩)
      go_ret
      exact ⟨rfl, hb1⟩
  have h1 : ¬ (n : Int) > 100 := by omega
  have h2 : ¬ a < 0 := by omega
  have h3 : ¬ a > b := by omega
  obtain ⟨m, hm⟩ : ∃ m, bandsB L = m := ⟨_, rfl⟩
  obtain ⟨v1, hv1⟩ : ∃ v, toV L 0 a = v := ⟨_, rfl⟩
  obtain ⟨k1, hk1⟩ : ∃ k, toK L 0 a = k := ⟨_, rfl⟩
  obtain ⟨v2, hv2⟩ : ∃ v, toV L 0 b = v := ⟨_, rfl⟩
  obtain ⟨k2, hk2⟩ : ∃ k, toK L 0 b = k := ⟨_, rfl⟩
  have HX : Hid (bandsB L = m ∧ toV L 0 a = v1 ∧ toK L 0 a = k1 ∧ toV L 0 b = v2 ∧ toK L 0 b = k2) := ⟨hm, hv1, hk1, hv2, hk2⟩
  have HN : Hid (n ≤ 100) := by show n ≤ 100; omega
  have HK : m = true → k2 = true → k1 = true ∧ v1 ≤ v2 ∧ 1 ≤ v1 ∧ v2 < 4294967295 := by
    intro e1 e2
    rw [← hm] at e1
    rw [← hk2] at e2
    have := keep_to e1 h2 (by omega) e2
    rw [hk1, hv1, hv2] at this
    exact this
  clear hm hv1 hk1 hv2 hk2 hbad
  cases m
  · clear HK
    go_enter Try.func4, Try.ntmps4
    go_wp2_with (first
      | (go_at_call 7; refine (awake_any HC.out _).mono ?_; rintro e W1 ⟨rfl, hb1⟩; have HR1 := HR.out.later hb1; have HB : Hid (Below w.heap.size w W1) := hb1; clear hb1)
      | (go_at_call 10; refine (HC.out.may _ _ _ L _ HR1 (Nat.le_trans HN.out (by decide))).mono ?_; rw [HX.out.1]; rintro e W4 ⟨rfl, hb4⟩; have HB4 : Hid (Below w.heap.size w W4) := stp HB.out hb4; clear hb4))
    go_ret
    exact ⟨rfl, HB4.out⟩
  have HK := HK rfl
  have key : k2 = false ∨ (k2 = true ∧ k1 = true ∧ v1 ≤ v2 ∧ v1 ≥ 1 ∧ v2 < 4294967295) := by
    cases k2
    · exact .inl rfl
    · exact .inr ⟨rfl, HK rfl⟩
  clear HK
  rcases key with rfl | ⟨rfl, rfl, g1, g2, g3⟩
  all_goals
    have HMk : Hid True := trivial
    go_enter Try.func4, Try.ntmps4
    go_wp2_with (first
      | (go_at_call 7; refine (awake_any HC.out _).mono ?_; rintro e W1 ⟨rfl, hb1⟩; have HR1 := HR.out.later hb1; have HB : Hid (Below w.heap.size w W1) := hb1; clear hb1)
      | (go_at_call 10; refine (HC.out.may _ _ _ L _ HR1 (Nat.le_trans HN.out (by decide))).mono ?_; rw [HX.out.1]; rintro e W4 ⟨rfl, hb4⟩; have HR4 := HR1.later hb4; have HB4 : Hid (Below w.heap.size w W4) := stp HB.out hb4; clear hb4)
      | (go_at_call 8; (have HMk' := HMk; clear HMk); refine (HC.out.to _ _ _ L 0 a _ HR4 (Nat.le_trans HN.out (by decide)) ⟨by decide, by decide⟩ HS.out.1).mono ?_; rw [HX.out.2.1, HX.out.2.2.1]; rintro e W2 ⟨rfl, hb2⟩; have HR2 := HR4.later hb2; have HB2 : Hid (Below w.heap.size w W2) := stp HB4.out hb2; clear hb2)
      | (go_at_call 8; refine (HC.out.to _ _ _ L 0 b _ HR2 (Nat.le_trans HN.out (by decide)) ⟨by decide, by decide⟩ HS.out.2).mono ?_; rw [HX.out.2.2.2.1, HX.out.2.2.2.2]; rintro e W3 ⟨rfl, hb3⟩; have HB3 : Hid (Below w.heap.size w W3) := stp HB2.out hb3; clear hb3))
    go_ret
    exact ⟨by rfl, HB3.out⟩
set_option maxRecDepth 100000 in
set_option maxHeartbeats 2000000 in
theorem law_seeds (C : TraC) (ad : Option Addr) (n cap : Nat) (L : List Ba) (one two x : Int) (w : World) (hr : RowB w ad n L) (ha : I64 one) (hb : I64 two) (hx : I64 x) :
    Calls Try.prog 5 #[.slice ad n cap, .int .i64 one, .int .i64 two, .int .i64 x] w fun e w' => e = .returned (.bool true) ∧ Below w.heap.size w w' := by
  have HC : Hid TraC := C
  have HR : Hid (RowB w ad n L) := hr
  have HS : Hid (I64 one ∧ I64 two ∧ I64 x) := ⟨ha, hb, hx⟩
  clear C hr ha hb hx
  by_cases hbad : n > 100 ∨ x < 0
  · have key : (n : Int) > 100 ∨ (¬ (n : Int) > 100 ∧ x < 0) := by omega
    clear hbad
    rcases key with h1 | ⟨h1, h2⟩
    all_goals
      go_enter Try.func5, Try.ntmps5
      go_wp2_with (go_at_call 7; refine (awake_any HC.out _).mono ?_; rintro e W1 ⟨rfl, hb1⟩)
      go_ret
      exact ⟨rfl, hb1⟩
  have h1 : ¬ (n : Int) > 100 := by omega
  have h2 : ¬ x < 0 := by omega
  obtain ⟨v1, hv1⟩ : ∃ v, toV L one x = v := ⟨_, rfl⟩
  obtain ⟨k1, hk1⟩ : ∃ k, toK L one x = k := ⟨_, rfl⟩
  obtain ⟨v2, hv2⟩ : ∃ v, toV L two x = v := ⟨_, rfl⟩
  obtain ⟨k2, hk2⟩ : ∃ k, toK L two x = k := ⟨_, rfl⟩
  obtain ⟨v3, hv3⟩ : ∃ v, toV L 0 x = v := ⟨_, rfl⟩
  obtain ⟨k3, hk3⟩ : ∃ k, toK L 0 x = k := ⟨_, rfl⟩
  have HX : Hid (toV L one x = v1 ∧ toK L one x = k1 ∧ toV L two x = v2 ∧ toK L two x = k2 ∧ toV L 0 x = v3 ∧ toK L 0 x = k3) := ⟨hv1, hk1, hv2, hk2, hv3, hk3⟩
  have HN : Hid (n ≤ 100) := by show n ≤ 100; omega
  have key : (k3 = true ∧ k1 = true ∧ k2 = true ∧ v1 = v2) ∨ (k3 = false ∧ k1 = decide (1 ≤ one ∧ one < 4294967295) ∧ (k1 = true → v1 = one) ∧ k2 = decide (1 ≤ two ∧ two < 4294967295) ∧ (k2 = true → v2 = two)) := by
    have s1 := seed_to (L := L) (one := one) (two := two) h2
    have s2 := seed_to (L := L) (one := two) (two := one) h2
    rw [hk1, hk2, hk3, hv1, hv2] at s1
    rw [hk1, hk2, hk3, hv1, hv2] at s2
    cases k3
    · exact .inr ⟨rfl, (s1.2 rfl).1, (s1.2 rfl).2, (s2.2 rfl).1, (s2.2 rfl).2⟩
    · have := s1.1 rfl
      exact .inl ⟨rfl, this⟩
  clear hv1 hk1 hv2 hk2 hv3 hk3 hbad
  have key2 : (k3 = true ∧ k1 = true ∧ k2 = true ∧ v1 = v2) ∨ (k3 = false ∧ ((k1 = true ∧ one ≥ 1 ∧ one < 4294967295 ∧ one = v1) ∨ (k1 = false ∧ ¬ one ≥ 1) ∨ (k1 = false ∧ one ≥ 1 ∧ decide (one < 4294967295) = false)) ∧ ((k2 = true ∧ two ≥ 1 ∧ two < 4294967295 ∧ two = v2) ∨ (k2 = false ∧ ¬ two ≥ 1) ∨ (k2 = false ∧ two ≥ 1 ∧ decide (two < 4294967295) = false))) := by
    rcases key with h | ⟨e, e1, f1, e2, f2⟩
    · exact .inl h
    · refine .inr ⟨e, ?_, ?_⟩
      · by_cases g : 1 ≤ one ∧ one < 4294967295
        · rw [decide_eq_true g] at e1
          exact .inl ⟨e1, g.1, g.2, (f1 e1).symm⟩
        · rw [decide_eq_false g] at e1
          by_cases g1 : ¬ one ≥ 1
          · exact .inr (.inl ⟨e1, g1⟩)
          · exact .inr (.inr ⟨e1, by omega, decide_eq_false (by omega)⟩)
      · by_cases g : 1 ≤ two ∧ two < 4294967295
        · rw [decide_eq_true g] at e2
          exact .inl ⟨e2, g.1, g.2, (f2 e2).symm⟩
        · rw [decide_eq_false g] at e2
          by_cases g1 : ¬ two ≥ 1
          · exact .inr (.inl ⟨e2, g1⟩)
          · exact .inr (.inr ⟨e2, by omega, decide_eq_false (by omega)⟩)
  clear key
  rcases key2 with ⟨rfl, rfl, rfl, rfl⟩ | ⟨rfl, ⟨rfl, g1, g2, rfl⟩ | ⟨rfl, g1⟩ | ⟨rfl, g1, g2⟩, ⟨rfl, g3, g4, rfl⟩ | ⟨rfl, g3⟩ | ⟨rfl, g3, g4⟩⟩
  all_goals
    have HM1 : Hid True := trivial
    have HM2 : Hid True := trivial
    go_enter Try.func5, Try.ntmps5
    go_wp2_with (first
      | (go_at_call 7; refine (awake_any HC.out _).mono ?_; rintro e W1 ⟨rfl, hb1⟩; have HR1 := HR.out.later hb1; have HB : Hid (Below w.heap.size w W1) := hb1; clear hb1)
      | (go_at_call 8; clear HM1; refine (HC.out.to _ _ _ L one x _ HR1 (Nat.le_trans HN.out (by decide)) HS.out.1 HS.out.2.2).mono ?_; rw [HX.out.1, HX.out.2.1]; rintro e W2 ⟨rfl, hb2⟩; have HR2 := HR1.later hb2; have HB2 : Hid (Below w.heap.size w W2) := stp HB.out hb2; clear hb2)
      | (go_at_call 8; clear HM2; refine (HC.out.to _ _ _ L two x _ HR2 (Nat.le_trans HN.out (by decide)) HS.out.2.1 HS.out.2.2).mono ?_; rw [HX.out.2.2.1, HX.out.2.2.2.1]; rintro e W3 ⟨rfl, hb3⟩; have HR3 := HR2.later hb3; have HB3 : Hid (Below w.heap.size w W3) := stp HB2.out hb3; clear hb3)
      | (go_at_call 8; refine (HC.out.to _ _ _ L 0 x _ HR3 (Nat.le_trans HN.out (by decide)) ⟨by decide, by decide⟩ HS.out.2.2).mono ?_; rw [HX.out.2.2.2.2.1, HX.out.2.2.2.2.2]; rintro e W4 ⟨rfl, hb4⟩; have HB4 : Hid (Below w.heap.size w W4) := stp HB3.out hb4; clear hb4))
    go_ret
    exact ⟨by rfl, HB4.out⟩
end Go.Proofs.Ytlpfbmeelacgaaa
