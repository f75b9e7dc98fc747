/- The laws NeighFar, NeighTold, NeighBack over what is asked of the program's neighbour. -/
import Derived.Test.YtenkghcdhanciaaLawA
namespace Go.Proofs.Ytenkghcdhanciaa
open Go.RowKit

theorem miss_t (s : Nh) : (missN s).t = s.t := by unfold missN; split <;> rfl
theorem rxN_or (s : Nh) : rxN s = 96 ∨ rxN s = 65535 := by unfold rxN; split <;> simp
theorem cost_untold {s : Nh} (h : s.t = 65535) : costN s = 65535 := by
  unfold costN
  rcases rxN_or s with e | e <;> rw [e, h] <;> decide
theorem cost_told (s : Nh) (c : Int) : rxN (ihuN s c) ≤ costN (ihuN s c) ∧ costN (ihuN s c) ≤ 65535 ∧ (c < 0 ∨ ¬ c < 0 ∧ 65535 < c ∨ ¬ c < 0 ∧ ¬ 65535 < c ∧ c ≤ costN (ihuN s c)) := by
  have h1 := rxN_or (ihuN s c)
  have h2 : 0 ≤ (ihuN s c).t ∧ (ihuN s c).t ≤ 65535 ∧ (¬ c < 0 → ¬ 65535 < c → (ihuN s c).t = c) := by
    show 0 ≤ toldN c ∧ toldN c ≤ 65535 ∧ (¬ c < 0 → ¬ 65535 < c → toldN c = c)
    unfold toldN
    refine ⟨?_, ?_, fun a b => ?_⟩
    · split <;> (try split) <;> omega
    · split <;> (try split) <;> omega
    · rw [if_neg a, if_neg b]
  unfold costN
  split <;> omega
theorem back_is {s : Nh} (G : GoodN s) (q c : Int) (c0 : ¬ c < 0) (c1 : ¬ 65535 < c) :
    rxN (ihuN (helloN (helloN s q) ((q + 1) % 65536)) c) = 96 ∧ costN (ihuN (helloN (helloN s q) ((q + 1) % 65536)) c) = (if c < 96 then 96 else c) ∧ 49152 ≤ numN (ihuN (helloN (helloN s q) ((q + 1) % 65536)) c).h := by
  obtain ⟨l, hl, hl14⟩ := hello_next G q
  obtain ⟨h1, h2⟩ := num_two hl14
  generalize helloN (helloN s q) ((q + 1) % 65536) = z at hl
  have hr : rxN (ihuN z c) = 96 := h2 _ hl
  have ht : (ihuN z c).t = c := by show toldN c = c; unfold toldN; rw [if_neg c0, if_neg c1]
  refine ⟨hr, ?_, ?_⟩
  · unfold costN
    rw [hr, ht]
    split <;> split <;> omega
  · show 49152 ≤ numN z.h
    rw [hl]; exact h1
section
variable {TM : World → (Nat → Prop) → Addr → Nh → Prop}
set_option maxRecDepth 100000 in
set_option maxHeartbeats 2000000 in
theorem law_far (C : NegC TM) (ad : Option Addr) (n cap : Nat) (cs : List Op) (seq : Int) (w : World) (hr : RowP w ad n cs) (s0 : 0 ≤ seq) (s1 : seq < 65536) :
    Calls Try.prog 8 #[.slice ad n cap, .int .u16 seq] w fun e w' => e = .returned (.bool true) ∧ Below w.heap.size w w' := by
  have HC : Hid (NegC TM) := C
  have HR : Hid (RowP w ad n cs) := hr
  have HS : Hid (0 ≤ seq ∧ seq < 65536) := ⟨s0, s1⟩
  clear C hr s0 s1
  by_cases hn : n ≤ 200
  case neg =>
    have hn' : (200 : Int) < (n : Int) := by omega
    all_goals
      go_enter Try.func8, Try.ntmps8
      go_wp2_with (first
        | (go_at_call 9; refine (awake_any HC.out _).mono ?_; rintro e W1 ⟨rfl, hb1⟩)
        | (go_at_call 10; refine (HC.out.new _).mono ?_; rintro e W2 ⟨p, B, rfl, T2, hB2, hb2⟩; have he : ∀ W : World, (binOp .eql 24 (.pointer (some p)) (.pointer none)).run Try.prog W = .ok (.bool false) W := run_nilP _; have he' : ∀ W : World, (binOp .neq 24 (.pointer (some p)) (.pointer none)).run Try.prog W = .ok (.bool true) W := run_nilN _))
      go_ret
      exact ⟨rfl, stp hb1 hb2⟩
  have hn' : ¬ (200 : Int) < (n : Int) := by omega
  go_enter Try.func8, Try.ntmps8
  go_wp2_with (first
    | (go_at_call 9; refine (awake_any HC.out _).mono ?_; rintro e W1 ⟨rfl, hb1⟩)
    | (go_at_call 10; refine (HC.out.new _).mono ?_; rintro e W2 ⟨p, B, rfl, T2, hB2, hb2⟩; have hO := OneG.new (w := w) T2 hB2 hb1 hb2; have he : ∀ W : World, (binOp .eql 24 (.pointer (some p)) (.pointer none)).run Try.prog W = .ok (.bool false) W := run_nilP _; clear T2 hB2 hb1 hb2))
  clear he
  go_loopw [7] (fun i_ W => ∃ (j : Nat) (s : Nh) (B : Nat → Prop), j ≤ n ∧ i_ = .int .i64 j ∧ Hid (OneG TM w p s B W ∧ s.t = 65535)) (fun i_ _ => n - (intOf i_).toNat)
  case atStart => exact ⟨0, _, B, Nat.zero_le _, rfl, hO, rfl⟩
  case round =>
    clear hO
    obtain ⟨j, s, B, hj, rfl, HBB⟩ := hrel
    have HB : Hid (OneG TM w p s B wr) := HBB.out.1
    have HTo : Hid (s.t = 65535) := HBB.out.2
    clear HBB
    by_cases hlt : j < n
    · have hlt' : (j : Int) < (n : Int) := by omega
      obtain ⟨⟨ck, ca⟩, b, off, he, hok, rfl, q5⟩ := HR.out.at hlt
      have HQ5 : Hid (∀ W, Below w.heap.size w W → _) := fun W hb => ops_tail (q5.later (W' := W) hb)
      obtain ⟨d0, d1⟩ := HQ5.out wr HB.out.b
      obtain ⟨q, hq⟩ : ∃ q, ca % 65536 = q := ⟨_, rfl⟩
      have hw : IntKind.u16.wrap ca = q := by rw [u16_wrap]; exact hq
      have HQ : Hid (0 ≤ q ∧ q < 65536) := by unfold Hid; omega
      clear hok q5 he hq
      by_cases hk0 : ck = 0
      · subst hk0
        go_wp2_with (go_at_call 12; refine (HC.out.hello q HB.out.t HQ.out.1 HQ.out.2).mono ?_; intro e W3 hd; obtain ⟨rfl, B3, hO3⟩ := HB.out.step hd; obtain ⟨d0, d1⟩ := HQ5.out W3 hO3.b)
        go_roundw
        case rel => exact ⟨j + 1, _, B3, by omega, by go_num, hO3, HTo.out⟩
        case measure => simp [intOf]; omega
      · have hk0' : (ck == 0) = false := by simpa using hk0
        go_wp2
        go_roundw
        case rel => exact ⟨j + 1, _, B, by omega, by go_num, HB.out, HTo.out⟩
        case measure => simp [intOf]; omega
    · have hlt' : ¬ (j : Int) < (n : Int) := by omega
      have HT : Hid (_) := hello_far s seq
      obtain ⟨qd, hqd⟩ : ∃ q, (seq + 32768) % 65536 = q := ⟨_, rfl⟩
      rw [hqd] at HT
      have hwd : IntKind.u16.wrap (seq + 32768) = qd := by rw [u16_wrap]; exact hqd
      have HQ : Hid (0 ≤ qd ∧ qd < 65536) := by unfold Hid; omega
      have HMk : Hid True := trivial
      clear hqd
      go_wp2_with (first
        | (go_at_call 12; have HMk' := HMk; clear HMk HMk'; refine (HC.out.hello seq HB.out.t HS.out.1 HS.out.2).mono ?_; intro e W3 hd; obtain ⟨rfl, B3, hO3⟩ := HB.out.step hd; clear hd)
        | (go_at_call 12; refine (HC.out.hello qd hO3.t HQ.out.1 HQ.out.2).mono ?_; intro e W5 hd; obtain ⟨rfl, B5, hO5⟩ := hO3.step hd; clear hd hO3)
        | (go_at_call 18; refine (HC.out.hist hO5.t).mono ?_; rw [HT.out.1]; rintro e W6 ⟨rfl, hb6⟩; have hO6 := hO5.later HC.out hb6; clear hb6 hO5)
        | (go_at_call 20; refine (HC.out.rx hO6.t).mono ?_; rw [HT.out.2]; rintro e W7 ⟨rfl, hb7⟩; have hO7 := hO6.later HC.out hb7; clear hb7))
      go_ret
      exact ⟨rfl, hO7.b⟩
set_option maxRecDepth 100000 in
set_option maxHeartbeats 2000000 in
theorem law_told (C : NegC TM) (ad : Option Addr) (n cap : Nat) (cs : List Op) (cost : Int) (w : World) (hr : RowP w ad n cs) (hc : -9223372036854775808 ≤ cost ∧ cost ≤ 9223372036854775807) :
    Calls Try.prog 7 #[.slice ad n cap, .int .i64 cost] w fun e w' => e = .returned (.bool true) ∧ Below w.heap.size w w' := by
  have HC : Hid (NegC TM) := C
  have HR : Hid (RowP w ad n cs) := hr
  have HS : Hid (-9223372036854775808 ≤ cost ∧ cost ≤ 9223372036854775807) := hc
  clear C hr hc
  by_cases hn : n ≤ 200
  case neg =>
    have hn' : (200 : Int) < (n : Int) := by omega
    all_goals
      go_enter Try.func7, Try.ntmps7
      go_wp2_with (first
        | (go_at_call 9; refine (awake_any HC.out _).mono ?_; rintro e W1 ⟨rfl, hb1⟩)
        | (go_at_call 10; refine (HC.out.new _).mono ?_; rintro e W2 ⟨p, B, rfl, T2, hB2, hb2⟩; have he : ∀ W : World, (binOp .eql 24 (.pointer (some p)) (.pointer none)).run Try.prog W = .ok (.bool false) W := run_nilP _; have he' : ∀ W : World, (binOp .neq 24 (.pointer (some p)) (.pointer none)).run Try.prog W = .ok (.bool true) W := run_nilN _))
      go_ret
      exact ⟨rfl, stp hb1 hb2⟩
  have hn' : ¬ (200 : Int) < (n : Int) := by omega
  go_enter Try.func7, Try.ntmps7
  go_wp2_with (first
    | (go_at_call 9; refine (awake_any HC.out _).mono ?_; rintro e W1 ⟨rfl, hb1⟩)
    | (go_at_call 10; refine (HC.out.new _).mono ?_; rintro e W2 ⟨p, B, rfl, T2, hB2, hb2⟩; have hO := OneG.new (w := w) T2 hB2 hb1 hb2; have he : ∀ W : World, (binOp .eql 24 (.pointer (some p)) (.pointer none)).run Try.prog W = .ok (.bool false) W := run_nilP _; clear T2 hB2 hb1 hb2))
  clear he
  go_loopw [7] (fun i_ W => ∃ (j : Nat) (s : Nh) (B : Nat → Prop), j ≤ n ∧ i_ = .int .i64 j ∧ Hid (OneG TM w p s B W ∧ s.t = 65535)) (fun i_ _ => n - (intOf i_).toNat)
  case atStart => exact ⟨0, _, B, Nat.zero_le _, rfl, hO, rfl⟩
  case round =>
    clear hO
    obtain ⟨j, s, B, hj, rfl, HBB⟩ := hrel
    have HB : Hid (OneG TM w p s B wr) := HBB.out.1
    have HTo : Hid (s.t = 65535) := HBB.out.2
    clear HBB
    by_cases hlt : j < n
    · have hlt' : (j : Int) < (n : Int) := by omega
      obtain ⟨⟨ck, ca⟩, b, off, he, hok, rfl, q5⟩ := HR.out.at hlt
      have HQ5 : Hid (∀ W, Below w.heap.size w W → _) := fun W hb => ops_tail (q5.later (W' := W) hb)
      obtain ⟨d0, d1⟩ := HQ5.out wr HB.out.b
      obtain ⟨q, hq⟩ : ∃ q, ca % 65536 = q := ⟨_, rfl⟩
      have hw : IntKind.u16.wrap ca = q := by rw [u16_wrap]; exact hq
      have HQ : Hid (0 ≤ q ∧ q < 65536) := by unfold Hid; omega
      clear hok q5 he hq
      by_cases hk0 : ck = 0
      · subst hk0
        go_wp2_with (go_at_call 12; refine (HC.out.hello q HB.out.t HQ.out.1 HQ.out.2).mono ?_; intro e W3 hd; obtain ⟨rfl, B3, hO3⟩ := HB.out.step hd; obtain ⟨d0, d1⟩ := HQ5.out W3 hO3.b)
        go_roundw
        case rel => exact ⟨j + 1, _, B3, by omega, by go_num, hO3, HTo.out⟩
        case measure => simp [intOf]; omega
      · have hk0' : (ck == 0) = false := by simpa using hk0
        by_cases hk1 : ck = 1
        · subst hk1
          go_wp2_with (go_at_call 14; refine (HC.out.miss HB.out.t).mono ?_; intro e W3 hd; obtain ⟨rfl, B3, hO3⟩ := HB.out.step hd)
          go_roundw
          case rel => exact ⟨j + 1, _, B3, by omega, by go_num, hO3, (miss_t s).trans HTo.out⟩
          case measure => simp [intOf]; omega
        · have hk1' : (ck == 1) = false := by simpa using hk1
          go_wp2
          go_roundw
          case rel => exact ⟨j + 1, _, B, by omega, by go_num, HB.out, HTo.out⟩
          case measure => simp [intOf]; omega
    · have hlt' : ¬ (j : Int) < (n : Int) := by omega
      have HU : Hid (costN s = 65535) := cost_untold HTo.out
      obtain ⟨u, hu⟩ : ∃ u, numN s.h = u := ⟨_, rfl⟩
      have HN1 : Hid (numN s.h = u) := hu
      have HN2 : Hid (numN (ihuN s cost).h = u) := hu
      have hct := cost_told s cost
      obtain ⟨x, hx⟩ : ∃ x, costN (ihuN s cost) = x := ⟨_, rfl⟩
      obtain ⟨r, hr⟩ : ∃ r, rxN (ihuN s cost) = r := ⟨_, rfl⟩
      rw [hx, hr] at hct
      have HXR : Hid (costN (ihuN s cost) = x ∧ rxN (ihuN s cost) = r) := ⟨hx, hr⟩
      obtain ⟨t1, t2, t3⟩ := hct
      have HMk : Hid True := trivial
      have HMk2 : Hid True := trivial
      clear hu hx hr
      rcases t3 with t3 | ⟨t3, t4⟩ | ⟨t3, t4, t5⟩
      all_goals
        go_wp2_with (first
          | (go_at_call 22; have HMk' := HMk; clear HMk HMk'; refine (HC.out.cost HB.out.t).mono ?_; rw [HU.out]; rintro e W3 ⟨rfl, hb3⟩; have hO3 := HB.out.later HC.out hb3; clear hb3)
          | (go_at_call 18; have HMk' := HMk2; clear HMk2 HMk'; refine (HC.out.hist hO3.t).mono ?_; rw [HN1.out]; rintro e W4 ⟨rfl, hb4⟩; have hO4 := hO3.later HC.out hb4; clear hb4 hO3)
          | (go_at_call 16; refine (HC.out.ihu cost hO4.t HS.out.1 HS.out.2).mono ?_; intro e W5 hd; obtain ⟨rfl, B5, hO5⟩ := hO4.step hd; clear hd hO4)
          | (go_at_call 22; refine (HC.out.cost hO5.t).mono ?_; rw [HXR.out.1]; rintro e W6 ⟨rfl, hb6⟩; have hO6 := hO5.later HC.out hb6; clear hb6 hO5)
          | (go_at_call 18; refine (HC.out.hist hO6.t).mono ?_; rw [HN2.out]; rintro e W7 ⟨rfl, hb7⟩; have hO7 := hO6.later HC.out hb7; clear hb7 hO6)
          | (go_at_call 20; refine (HC.out.rx hO7.t).mono ?_; rw [HXR.out.2]; rintro e W8 ⟨rfl, hb8⟩; have hO8 := hO7.later HC.out hb8; clear hb8))
        go_ret
        exact ⟨rfl, hO8.b⟩
set_option maxRecDepth 100000 in
set_option maxHeartbeats 2000000 in
theorem law_back (C : NegC TM) (ad : Option Addr) (n cap : Nat) (cs : List Op) (seq cost : Int) (w : World) (hr : RowP w ad n cs) (s0 : 0 ≤ seq) (s1 : seq < 65536) :
    Calls Try.prog 5 #[.slice ad n cap, .int .u16 seq, .int .i64 cost] w fun e w' => e = .returned (.bool true) ∧ Below w.heap.size w w' := by
  have HC : Hid (NegC TM) := C
  have HR : Hid (RowP w ad n cs) := hr
  have HS : Hid (0 ≤ seq ∧ seq < 65536) := ⟨s0, s1⟩
  clear C hr s0 s1
  by_cases hbad : 200 < n ∨ ¬ 200 < n ∧ cost < 0 ∨ ¬ 200 < n ∧ ¬ cost < 0 ∧ 65535 < cost
  · have HBd : Hid (_) := hbad
    clear hbad
    rcases HBd.out with r1 | ⟨r1, r2⟩ | ⟨r1, r2, r3⟩
    case' inl => have r1' : (200 : Int) < (n : Int) := by omega
    case' inr.inl => have r1' : ¬ (200 : Int) < (n : Int) := by omega
    case' inr.inr => have r1' : ¬ (200 : Int) < (n : Int) := by omega
    all_goals
      clear HBd
      go_enter Try.func5, Try.ntmps5
      go_wp2_with (first
        | (go_at_call 9; refine (awake_any HC.out _).mono ?_; rintro e W1 ⟨rfl, hb1⟩)
        | (go_at_call 10; refine (HC.out.new _).mono ?_; rintro e W2 ⟨p, B, rfl, T2, hB2, hb2⟩; have he : ∀ W : World, (binOp .eql 24 (.pointer (some p)) (.pointer none)).run Try.prog W = .ok (.bool false) W := run_nilP _; have he' : ∀ W : World, (binOp .neq 24 (.pointer (some p)) (.pointer none)).run Try.prog W = .ok (.bool true) W := run_nilN _))
      go_ret
      exact ⟨rfl, stp hb1 hb2⟩
  have hn' : ¬ (200 : Int) < (n : Int) := by omega
  have r2 : ¬ cost < 0 := by omega
  have r3 : ¬ 65535 < cost := by omega
  have HRg : Hid (¬ cost < 0 ∧ ¬ 65535 < cost) := ⟨r2, r3⟩
  clear hbad
  go_enter Try.func5, Try.ntmps5
  go_wp2_with (first
    | (go_at_call 9; refine (awake_any HC.out _).mono ?_; rintro e W1 ⟨rfl, hb1⟩)
    | (go_at_call 10; refine (HC.out.new _).mono ?_; rintro e W2 ⟨p, B, rfl, T2, hB2, hb2⟩; have hO := OneG.new (w := w) T2 hB2 hb1 hb2; have he : ∀ W : World, (binOp .eql 24 (.pointer (some p)) (.pointer none)).run Try.prog W = .ok (.bool false) W := run_nilP _; clear T2 hB2 hb1 hb2))
  clear he
  go_loopw [9] (fun i_ W => ∃ (j : Nat) (s : Nh) (B : Nat → Prop), j ≤ n ∧ i_ = .int .i64 j ∧ Hid (OneG TM w p s B W ∧ s.t = 65535)) (fun i_ _ => n - (intOf i_).toNat)
  case atStart => exact ⟨0, _, B, Nat.zero_le _, rfl, hO, rfl⟩
  case round =>
    clear hO
    obtain ⟨j, s, B, hj, rfl, HBB⟩ := hrel
    have HB : Hid (OneG TM w p s B wr) := HBB.out.1
    have HTo : Hid (s.t = 65535) := HBB.out.2
    clear HBB
    by_cases hlt : j < n
    · have hlt' : (j : Int) < (n : Int) := by omega
      obtain ⟨⟨ck, ca⟩, b, off, he, hok, rfl, q5⟩ := HR.out.at hlt
      have HQ5 : Hid (∀ W, Below w.heap.size w W → _) := fun W hb => ops_tail (q5.later (W' := W) hb)
      obtain ⟨d0, d1⟩ := HQ5.out wr HB.out.b
      obtain ⟨q, hq⟩ : ∃ q, ca % 65536 = q := ⟨_, rfl⟩
      have hw : IntKind.u16.wrap ca = q := by rw [u16_wrap]; exact hq
      have HQ : Hid (0 ≤ q ∧ q < 65536) := by unfold Hid; omega
      clear hok q5 he hq
      by_cases hk0 : ck = 0
      · subst hk0
        go_wp2_with (go_at_call 12; refine (HC.out.hello q HB.out.t HQ.out.1 HQ.out.2).mono ?_; intro e W3 hd; obtain ⟨rfl, B3, hO3⟩ := HB.out.step hd; obtain ⟨d0, d1⟩ := HQ5.out W3 hO3.b)
        go_roundw
        case rel => exact ⟨j + 1, _, B3, by omega, by go_num, hO3, HTo.out⟩
        case measure => simp [intOf]; omega
      · have hk0' : (ck == 0) = false := by simpa using hk0
        by_cases hk1 : ck = 1
        · subst hk1
          go_wp2_with (go_at_call 14; refine (HC.out.miss HB.out.t).mono ?_; intro e W3 hd; obtain ⟨rfl, B3, hO3⟩ := HB.out.step hd)
          go_roundw
          case rel => exact ⟨j + 1, _, B3, by omega, by go_num, hO3, (miss_t s).trans HTo.out⟩
          case measure => simp [intOf]; omega
        · have hk1' : (ck == 1) = false := by simpa using hk1
          go_wp2
          go_roundw
          case rel => exact ⟨j + 1, _, B, by omega, by go_num, HB.out, HTo.out⟩
          case measure => simp [intOf]; omega
    · have hlt' : ¬ (j : Int) < (n : Int) := by omega
      have HT : Hid (_) := back_is (HC.out.good HB.out.t) seq cost (by have := HRg.out.1; omega) (by have := HRg.out.2; omega)
      obtain ⟨qd, hqd⟩ : ∃ q, (seq + 1) % 65536 = q := ⟨_, rfl⟩
      rw [hqd] at HT
      have hwd : IntKind.u16.wrap (seq + 1) = qd := by rw [u16_wrap]; exact hqd
      have HQ : Hid (0 ≤ qd ∧ qd < 65536) := by unfold Hid; omega
      obtain ⟨u, hu⟩ : ∃ u, numN (ihuN (helloN (helloN s seq) qd) cost).h = u := ⟨_, rfl⟩
      have hu2 : 49152 ≤ u := by rw [← hu]; exact HT.out.2.2
      have HN1 : Hid (numN (ihuN (helloN (helloN s seq) qd) cost).h = u) := hu
      have HMk : Hid True := trivial
      clear hqd hu
      by_cases hw96 : cost < 96
      case' pos => have HCo : Hid (costN (ihuN (helloN (helloN s seq) qd) cost) = 96) := by unfold Hid; rw [HT.out.2.1, if_pos hw96]
      case' neg => have HCo : Hid (costN (ihuN (helloN (helloN s seq) qd) cost) = cost) := by unfold Hid; rw [HT.out.2.1, if_neg hw96]
      all_goals
        go_wp2_with (first
          | (go_at_call 12; have HMk' := HMk; clear HMk HMk'; refine (HC.out.hello seq HB.out.t HS.out.1 HS.out.2).mono ?_; intro e W3 hd; obtain ⟨rfl, B3, hO3⟩ := HB.out.step hd; clear hd)
          | (go_at_call 12; refine (HC.out.hello qd hO3.t HQ.out.1 HQ.out.2).mono ?_; intro e W4 hd; obtain ⟨rfl, B4, hO4⟩ := hO3.step hd; clear hd hO3)
          | (go_at_call 16; refine (HC.out.ihu cost hO4.t (by have := HRg.out.1; omega) (by have := HRg.out.2; omega)).mono ?_; intro e W5 hd; obtain ⟨rfl, B5, hO5⟩ := hO4.step hd; clear hd hO4)
          | (go_at_call 20; refine (HC.out.rx hO5.t).mono ?_; rw [HT.out.1]; rintro e W6 ⟨rfl, hb6⟩; have hO6 := hO5.later HC.out hb6; clear hb6 hO5)
          | (go_at_call 22; refine (HC.out.cost hO6.t).mono ?_; rw [HCo.out]; rintro e W7 ⟨rfl, hb7⟩; have hO7 := hO6.later HC.out hb7; clear hb7 hO6)
          | (go_at_call 18; refine (HC.out.hist hO7.t).mono ?_; rw [HN1.out]; rintro e W8 ⟨rfl, hb8⟩; have hO8 := hO7.later HC.out hb8; clear hb8))
        go_ret
        exact ⟨rfl, hO8.b⟩
end
end Go.Proofs.Ytenkghcdhanciaa
