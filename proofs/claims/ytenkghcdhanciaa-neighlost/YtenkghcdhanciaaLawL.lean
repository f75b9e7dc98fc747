/- The law NeighLost over what is asked of the program's neighbour. -/
import Derived.Test.YtenkghcdhanciaaLawF
namespace Go.Proofs.Ytenkghcdhanciaa
open Go.RowKit

theorem misses_none {s : Nh} (hy : s.y = false) : ∀ k, missesN k s = s
  | 0 => rfl
  | k + 1 => by
    show missN (missesN k s) = s
    rw [misses_none hy k]
    unfold missN
    rw [hy]
    rfl
theorem missesN_t (s : Nh) : ∀ k, (missesN k s).t = s.t
  | 0 => rfl
  | k + 1 => (miss_t _).trans (missesN_t s k)
theorem rx_lost {s : Nh} (h : firstN s.h < 2) (ht : s.t ≤ 65535) : rxN s = 65535 ∧ costN s = 65535 := by
  have hr : rxN s = 65535 := by unfold rxN; rw [if_pos h]
  refine ⟨hr, ?_⟩
  unfold costN
  rw [hr, if_neg (by omega)]
theorem first_two (m : List Bool) : firstN (false :: false :: m) < 2 := by
  have h0 : bitN false = 0 := rfl
  cases m with
  | nil => decide
  | cons x m =>
    have := bitN_le x
    simp only [firstN, List.take, List.foldl_cons, List.foldl_nil, h0]
    omega
theorem lost_is {s : Nh} (G : GoodN s) (hz : s.y = false → s.h = zeroN) {k : Nat} (hk : 2 ≤ k) :
    rxN (missesN k s) = 65535 ∧ costN (missesN k s) = 65535 ∧ (16 ≤ k → numN (missesN k s).h = 0) := by
  have ht : (missesN k s).t ≤ 65535 := by rw [missesN_t]; exact G.t1
  cases hy : s.y
  · have hh := hz hy
    rw [misses_none hy]
    rw [misses_none hy] at ht
    have hf : firstN s.h < 2 := by rw [hh]; decide
    exact ⟨(rx_lost hf ht).1, (rx_lost hf ht).2, fun _ => by rw [hh]; decide⟩
  · obtain ⟨hb, -⟩ := misses_bits G hy k
    have hf : firstN (missesN k s).h < 2 := by
      rw [hb]
      obtain ⟨j, rfl⟩ : ∃ j, k = j + 2 := ⟨k - 2, by omega⟩
      rw [List.replicate_succ, List.replicate_succ]
      exact first_two _
    refine ⟨(rx_lost hf ht).1, (rx_lost hf ht).2, fun h16 => ?_⟩
    rw [hb, List.take_append_of_le_length (by simpa using h16), List.take_replicate, Nat.min_eq_left h16]
    decide
section
variable {TM : World → (Nat → Prop) → Addr → Nh → Prop}
set_option maxRecDepth 100000 in
set_option maxHeartbeats 2000000 in
theorem law_lost (C : NegC TM) (ad : Option Addr) (n cap : Nat) (cs : List Op) (ms : Int) (w : World) (hr : RowP w ad n cs) :
    Calls Try.prog 4 #[.slice ad n cap, .int .i64 ms] w fun e w' => e = .returned (.bool true) ∧ Below w.heap.size w w' := by
  have HC : Hid (NegC TM) := C
  have HR : Hid (RowP w ad n cs) := hr
  clear C hr
  by_cases hbad : 200 < n ∨ ¬ 200 < n ∧ ms < 2 ∨ ¬ 200 < n ∧ ¬ ms < 2 ∧ 100 < ms
  · have HBd : Hid (_) := hbad
    clear hbad
    rcases HBd.out with r1 | ⟨r1, r2⟩ | ⟨r1, r2, r3⟩
    case' inl => have r1' : (200 : Int) < (n : Int) := by omega
    case' inr.inl => have r1' : ¬ (200 : Int) < (n : Int) := by omega
    case' inr.inr => have r1' : ¬ (200 : Int) < (n : Int) := by omega
    all_goals
      clear HBd
      go_enter Try.func4, Try.ntmps4
      go_wp2_with (first
        | (go_at_call 9; refine (awake_any HC.out _).mono ?_; rintro e W1 ⟨rfl, hb1⟩)
        | (go_at_call 10; refine (HC.out.new _).mono ?_; rintro e W2 ⟨p, B, rfl, T2, hB2, hb2⟩; have he : ∀ W : World, (binOp .eql 24 (.pointer (some p)) (.pointer none)).run Try.prog W = .ok (.bool false) W := run_nilP _; have he' : ∀ W : World, (binOp .neq 24 (.pointer (some p)) (.pointer none)).run Try.prog W = .ok (.bool true) W := run_nilN _))
      go_ret
      exact ⟨rfl, stp hb1 hb2⟩
  obtain ⟨M, rfl⟩ : ∃ M : Nat, ms = (M : Int) := ⟨ms.toNat, by omega⟩
  have hn' : ¬ (200 : Int) < (n : Int) := by omega
  have r2 : ¬ (M : Int) < 2 := by omega
  have r3 : ¬ 100 < (M : Int) := by omega
  have HM : Hid (2 ≤ M ∧ M ≤ 100) := by unfold Hid; omega
  clear hbad
  go_enter Try.func4, Try.ntmps4
  go_wp2_with (first
    | (go_at_call 9; refine (awake_any HC.out _).mono ?_; rintro e W1 ⟨rfl, hb1⟩)
    | (go_at_call 10; refine (HC.out.new _).mono ?_; rintro e W2 ⟨p, B, rfl, T2, hB2, hb2⟩; have hO := OneG.new (w := w) T2 hB2 hb1 hb2; have he : ∀ W : World, (binOp .eql 24 (.pointer (some p)) (.pointer none)).run Try.prog W = .ok (.bool false) W := run_nilP _; clear T2 hB2 hb1 hb2))
  clear he
  go_loopw [7] (fun i_ W => ∃ (j : Nat) (s : Nh) (B : Nat → Prop), j ≤ n ∧ i_ = .int .i64 j ∧ Hid (OneG TM w p s B W ∧ (s.y = false → s.h = zeroN))) (fun i_ _ => n - (intOf i_).toNat)
  case atStart => exact ⟨0, _, B, Nat.zero_le _, rfl, hO, fun _ => rfl⟩
  case round =>
    clear hO
    obtain ⟨j, s, B, hj, rfl, HBB⟩ := hrel
    have HB : Hid (OneG TM w p s B wr) := HBB.out.1
    have HZ : Hid (s.y = false → s.h = zeroN) := HBB.out.2
    clear HBB
    by_cases hlt : j < n
    · have hlt' : (j : Int) < (n : Int) := by omega
      obtain ⟨⟨ck, ca⟩, b, off, he, hok, rfl, q5⟩ := HR.out.at hlt
      have HOK : Hid (-9223372036854775808 ≤ ca ∧ ca ≤ 9223372036854775807) := ⟨hok.a0, hok.a1⟩
      obtain ⟨d0, d1⟩ := ops_tail (q5.later HB.out.b)
      by_cases hk0 : ck = 0
      · subst hk0
        obtain ⟨q, hq⟩ : ∃ q, ca % 65536 = q := ⟨_, rfl⟩
        have hw : IntKind.u16.wrap ca = q := by rw [u16_wrap]; exact hq
        have HQ : Hid (0 ≤ q ∧ q < 65536) := by unfold Hid; omega
        clear hok q5 he hq
        go_wp2_with (go_at_call 12; refine (HC.out.hello q HB.out.t HQ.out.1 HQ.out.2).mono ?_; intro e W3 hd; obtain ⟨rfl, B3, hO3⟩ := HB.out.step hd)
        go_roundw
        case rel => exact ⟨j + 1, _, B3, by omega, by go_num, hO3, fun h => by cases h⟩
        case measure => simp [intOf]; omega
      · have hk0' : (ck == 0) = false := by simpa using hk0
        clear hok q5 he
        go_wp2_with (go_at_call 16; refine (HC.out.ihu ca HB.out.t HOK.out.1 HOK.out.2).mono ?_; intro e W3 hd; obtain ⟨rfl, B3, hO3⟩ := HB.out.step hd)
        go_roundw
        case rel => exact ⟨j + 1, _, B3, by omega, by go_num, hO3, HZ.out⟩
        case measure => simp [intOf]; omega
    · have hlt' : ¬ (j : Int) < (n : Int) := by omega
      go_wp2
      have HF0 : Hid (OneG TM w p (missesN 0 s) B wr) := HB.out
      have HL : Hid (_) := lost_is (HC.out.good HB.out.t) HZ.out HM.out.1
      clear HB HZ
      go_loopw [8] (fun i_ W => ∃ (k : Nat) (B : Nat → Prop), k ≤ M ∧ i_ = .int .i64 k ∧ Hid (OneG TM w p (missesN k s) B W)) (fun i_ _ => M - (intOf i_).toNat)
      case atStart => exact ⟨0, B, Nat.zero_le _, rfl, HF0⟩
      case round =>
        clear HF0
        obtain ⟨k, B, hk, rfl, HB⟩ := hrel
        by_cases hle : k < M
        · have hle' : (k : Int) < (M : Int) := by omega
          have hM100 : M ≤ 100 := HM.out.2
          go_wp2_with (go_at_call 14; refine (HC.out.miss HB.out.t).mono ?_; intro e W3 hd; obtain ⟨rfl, B3, hO3⟩ := HB.out.step hd)
          go_roundw
          case rel => exact ⟨k + 1, B3, by omega, by go_num, hO3⟩
          case measure => simp [intOf]; omega
        · have hle' : ¬ (k : Int) < (M : Int) := by omega
          obtain rfl : k = M := by omega
          by_cases h16 : (k : Int) < 16
          · go_wp2_with (first
              | (go_at_call 22; refine (HC.out.cost HB.out.t).mono ?_; rw [HL.out.2.1]; rintro e W4 ⟨rfl, hb4⟩; have hO4 := HB.out.later HC.out hb4; clear hb4)
              | (go_at_call 20; refine (HC.out.rx hO4.t).mono ?_; rw [HL.out.1]; rintro e W5 ⟨rfl, hb5⟩; have hO5 := hO4.later HC.out hb5; clear hb5))
            go_ret
            exact ⟨rfl, hO5.b⟩
          · have HN0 : Hid (numN (missesN k s).h = 0) := HL.out.2.2 (by omega)
            go_wp2_with (first
              | (go_at_call 22; refine (HC.out.cost HB.out.t).mono ?_; rw [HL.out.2.1]; rintro e W4 ⟨rfl, hb4⟩; have hO4 := HB.out.later HC.out hb4; clear hb4)
              | (go_at_call 20; refine (HC.out.rx hO4.t).mono ?_; rw [HL.out.1]; rintro e W5 ⟨rfl, hb5⟩; have hO5 := hO4.later HC.out hb5; clear hb5)
              | (go_at_call 18; refine (HC.out.hist hO5.t).mono ?_; rw [HN0.out]; rintro e W6 ⟨rfl, hb6⟩; have hO6 := hO5.later HC.out hb6; clear hb6))
            go_ret
            exact ⟨rfl, hO6.b⟩
end
end Go.Proofs.Ytenkghcdhanciaa
