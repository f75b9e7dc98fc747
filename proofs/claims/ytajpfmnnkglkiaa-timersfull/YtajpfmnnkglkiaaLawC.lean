/- The law TimersFull over what is asked of the program's timers. -/
import Derived.Test.YtajpfmnnkglkiaaLawB
namespace Go.Proofs.Ytajpfmnnkglkiaa
open Go.RowKit

/-- The first j of those that are set there. -/
def fullT (j : Nat) : List Tm := (List.range j).map fun (k : Nat) => ⟨(k : Int), 10 + (k : Int)⟩
theorem mem_fullT {j : Nat} {p : Tm} : p ∈ fullT j ↔ ∃ k, k < j ∧ p = ⟨(k : Int), 10 + (k : Int)⟩ := by
  simp only [fullT, List.mem_map, List.mem_range]
  constructor
  · rintro ⟨k, h, rfl⟩; exact ⟨k, h, rfl⟩
  · rintro ⟨k, h, rfl⟩; exact ⟨k, h, rfl⟩
theorem fullT_len (j : Nat) : (fullT j).length = j := by simp [fullT]
theorem fullT_succ (j : Nat) : fullT (j + 1) = fullT j ++ [⟨(j : Int), 10 + (j : Int)⟩] := by simp [fullT, List.range_succ]
theorem goodT_full : ∀ j, j ≤ 256 → GoodT (fullT j)
  | 0, _ => goodT_nil
  | j + 1, hj => by
    have ih := goodT_full j (by omega)
    rw [fullT_succ]
    refine ⟨?_, ?_, fun p hp => ?_, fun p hp => ?_⟩
    · refine List.pairwise_append.2 ⟨ih.s, List.pairwise_singleton .., fun x hx y hy => ?_⟩
      rw [List.mem_singleton] at hy
      obtain ⟨k, hk, rfl⟩ := mem_fullT.1 hx
      subst hy
      unfold Tm.lt
      simp only
      omega
    · refine List.pairwise_append.2 ⟨ih.u, List.pairwise_singleton .., fun x hx y hy => ?_⟩
      rw [List.mem_singleton] at hy
      obtain ⟨k, hk, rfl⟩ := mem_fullT.1 hx
      subst hy
      simp only
      omega
    all_goals
      rw [List.mem_append, List.mem_singleton] at hp
      rcases hp with hp | rfl
    · exact ih.r p hp
    · simp only; omega
    · exact ih.z p hp
    · simp only; omega
theorem hasI_full {i : Int} {j : Nat} : hasI i (fullT j) = true ↔ 0 ≤ i ∧ i < j := by
  rw [hasI_iff]
  constructor
  · rintro ⟨p, hp, rfl⟩
    obtain ⟨k, hk, rfl⟩ := mem_fullT.1 hp
    simp only
    omega
  · rintro ⟨h1, h2⟩
    exact ⟨⟨i, 10 + i⟩, mem_fullT.2 ⟨i.toNat, by omega, by congr <;> omega⟩, rfl⟩
theorem set_full {j : Nat} (hj : j < 256) : setTX (fullT j) j (10 + (j : Int)) = 0 ∧ setT (fullT j) j (10 + (j : Int)) = fullT (j + 1) := by
  have hn : hasI (j : Int) (fullT j) = false := by
    cases h : hasI (j : Int) (fullT j)
    · rfl
    · have := hasI_full.1 h; omega
  have hx : setTX (fullT j) j (10 + (j : Int)) = 0 := by
    unfold setTX
    rw [if_neg (by omega), hn, if_neg (by decide), if_neg (by rw [fullT_len]; omega)]
  refine ⟨hx, srtT_ext (goodT_set (goodT_full j (by omega)) ⟨by omega, by omega⟩).s (goodT_full (j + 1) (by omega)).s fun x => ?_⟩
  rw [mem_setT hx, fullT_succ, List.mem_append, List.mem_singleton]
  constructor
  · rintro (h | h)
    · exact .inr h
    · exact .inl h.1
  · rintro (h | h)
    · exact .inr ⟨h, hasI_not.1 hn x h⟩
    · exact .inl h
theorem full_rest {i a : Int} (hz : -9223372036854775808 ≤ i ∧ i ≤ 9223372036854775807) (hi : ¬ (0 ≤ i ∧ i < 256)) (ha : 0 ≤ a ∧ a ≤ 1000) :
    setTX (fullT 256) i a = 4 ∧ setT (fullT 256) i a = fullT 256 ∧ setTX (fullT 256) 0 5 = 0 ∧ dueL 5 (setT (fullT 256) 0 5) = [⟨0, 5⟩] ∧ setTX (dueR 5 (setT (fullT 256) 0 5)) i a = 0 ∧ (setT (dueR 5 (setT (fullT 256) 0 5)) i a).length = 256 := by
  have hn : hasI i (fullT 256) = false := by
    cases h : hasI i (fullT 256)
    · rfl
    · have := hasI_full.1 h; omega
  have hx : setTX (fullT 256) i a = 4 := by
    unfold setTX
    rw [if_neg (by omega), hn, if_neg (by decide), if_pos (by rw [fullT_len]; omega)]
  have h0 : hasI 0 (fullT 256) = true := hasI_full.2 (by decide)
  have hx0 : setTX (fullT 256) 0 5 = 0 := by
    unfold setTX
    rw [if_neg (by omega), h0, if_pos rfl]
  have hg := goodT_full 256 (Nat.le_refl _)
  have hg0 := goodT_set hg (i := 0) (a := 5) ⟨by decide, by decide⟩
  have hm : ∀ x, x ∈ setT (fullT 256) 0 5 ↔ x = ⟨0, 5⟩ ∨ x ∈ fullT 256 ∧ x.i ≠ 0 := fun x => mem_setT hx0
  have hl : dueL 5 (setT (fullT 256) 0 5) = [⟨0, 5⟩] := by
    refine (due_is hg0.s (List.pairwise_singleton ..) fun p => ?_).symm
    rw [hm, List.mem_singleton]
    constructor
    · rintro rfl
      exact ⟨.inl rfl, by simp⟩
    · rintro ⟨h | h, h3⟩
      · exact h
      · obtain ⟨k, hk, rfl⟩ := mem_fullT.1 h.1
        simp only at h3
        omega
  have hl1 : (setT (fullT 256) 0 5).length = 256 := by rw [setT_len hg hx0, h0, if_pos rfl, fullT_len]
  have hr : (dueR 5 (setT (fullT 256) 0 5)).length = 255 := by
    have := due_len 5 (setT (fullT 256) 0 5)
    rw [hl, hl1] at this
    simp only [List.length_singleton] at this
    omega
  have hgr := (goodT_due hg0 5).2
  have hnr : hasI i (dueR 5 (setT (fullT 256) 0 5)) = false := by
    rw [hasI_not]
    intro p hp
    have h1 := ((mem_due 5 hg0.s).2 p).1 hp
    rcases (hm p).1 h1.1 with rfl | h2
    · have := h1.2; simp at this
    · exact hasI_not.1 hn p h2.1
  have hx1 : setTX (dueR 5 (setT (fullT 256) 0 5)) i a = 0 := by
    unfold setTX
    rw [if_neg (by omega), hnr, if_neg (by decide), if_neg (by rw [hr]; omega)]
  refine ⟨hx, setT_same (by rw [hx]; decide), hx0, hl, hx1, ?_⟩
  rw [setT_len hgr hx1, hnr, if_neg (by decide), hr]
section
variable {TM : World → (Nat → Prop) → Addr → List Tm → Nat → Prop}
set_option maxHeartbeats 2000000 in
theorem law_full (C : TimC TM) (id at_ : Int) (w : World) (hi : -9223372036854775808 ≤ id ∧ id ≤ 9223372036854775807) (ha : -9223372036854775808 ≤ at_ ∧ at_ ≤ 9223372036854775807) :
    Calls Try.prog 7 #[.int .i64 id, .int .i64 at_] w fun e w' => e = .returned (.bool true) ∧ Below w.heap.size w w' := by
  have HC : Hid (TimC TM) := C
  clear C
  by_cases hr : at_ < 0 ∨ ¬ at_ < 0 ∧ 1000 < at_ ∨ ¬ at_ < 0 ∧ ¬ 1000 < at_ ∧ 0 ≤ id ∧ id < 256
  · have HR : Hid (_) := hr
    clear hr
    rcases HR.out with r1 | ⟨r1, r2⟩ | ⟨r1, r2, r3, r4⟩
    all_goals
      clear HR
      go_enter Try.func7, Try.ntmps7
      go_wp2_with (first
        | (go_at_call 8; refine (awake_any HC.out _).mono ?_; rintro e W1 ⟨rfl, hb1⟩)
        | (go_at_call 9; refine (HC.out.new _).mono ?_; rintro e W2 ⟨p, B, rfl, T2, hB2, hb2⟩; have he : ∀ W : World, (binOp .eql 24 (.pointer (some p)) (.pointer none)).run Try.prog W = .ok (.bool false) W := run_nilP _; have he' : ∀ W : World, (binOp .neq 24 (.pointer (some p)) (.pointer none)).run Try.prog W = .ok (.bool true) W := run_nilN _))
      go_ret
      exact ⟨rfl, stp hb1 hb2⟩
  have r1 : ¬ at_ < 0 := by omega
  have r2 : ¬ 1000 < at_ := by omega
  have HX : Hid (_) := full_rest (i := id) (a := at_) hi (by omega) ⟨by omega, by omega⟩
  have HO1 : Hid (Tm.Ok ⟨id, at_⟩) := ok10 ⟨hi.1, hi.2, ha.1, ha.2⟩
  have hcase : ¬ 0 ≤ id ∨ 0 ≤ id ∧ ¬ id < 256 := by omega
  clear hr hi ha
  rcases hcase with r3 | ⟨r3, r4⟩
  all_goals
    go_enter Try.func7, Try.ntmps7
    go_wp2_with (first
      | (go_at_call 8; refine (awake_any HC.out _).mono ?_; rintro e W1 ⟨rfl, hb1⟩)
      | (go_at_call 9; refine (HC.out.new _).mono ?_; rintro e W2 ⟨p, B, rfl, T2, hB2, hb2⟩; have hO := OneK.new (w := w) T2 hB2 hb1 hb2; have he : ∀ W : World, (binOp .eql 24 (.pointer (some p)) (.pointer none)).run Try.prog W = .ok (.bool false) W := run_nilP _; clear T2 hB2 hb1 hb2))
    clear he
    go_loopw [7] (fun i_ W => ∃ (j : Nat) (B : Nat → Prop), j ≤ 256 ∧ i_ = .int .i64 j ∧ Hid (OneK TM w p (fullT j) j B W)) (fun i_ _ => 256 - (intOf i_).toNat)
    case atStart => exact ⟨0, B, Nat.zero_le _, rfl, hO⟩
    case round =>
      clear hO
      obtain ⟨j, B, hj, rfl, HB⟩ := hrel
      by_cases hlt : j < 256
      · have hlt' : (j : Int) < 256 := by omega
        have HP : Hid (_) := set_full hlt
        have HOj : Hid (Tm.Ok ⟨(j : Int), 10 + (j : Int)⟩) := ok10 ⟨by omega, by omega, by omega, by omega⟩
        go_wp2_with (go_at_call 10; refine (HC.out.set _ _ HB.out.t (by omega) HOj.out).mono ?_; rw [HP.out.1, HP.out.2]; intro e W3 hd; obtain ⟨rfl, B3, hO3⟩ := HB.out.step hd)
        go_roundw
        case rel => exact ⟨j + 1, B3, by omega, by go_num, hO3⟩
        case measure => simp [intOf]; omega
      · have hlt' : ¬ (j : Int) < 256 := by omega
        obtain rfl : j = 256 := by omega
        have HMk : Hid True := trivial
        have HK : Hid (_) := HB.out
        clear HB
        go_wp2_with (first
          | (go_at_call 10; have HMk' := HMk; clear HMk HMk'; refine (HC.out.set id at_ HK.out.t (by decide) HO1.out).mono ?_; rw [HX.out.1, HX.out.2.1]; intro e W4 hd; obtain ⟨rfl, B4, hO4⟩ := HK.out.step hd)
          | (go_at_call_of 10 (Value.int IntKind.i64 0); refine (HC.out.set 0 5 hO4.t (by decide) (ok10 (by decide))).mono ?_; rw [HX.out.2.2.1]; intro e W5 hd; obtain ⟨rfl, B5, hO5⟩ := hO4.step hd)
          | (go_at_call 15; refine (HC.out.due 5 hO5.t (by decide) (by decide) (by decide)).mono ?_; intro e W6 hd; obtain ⟨B6, ad, k, cap, rfl, hO6, own, -⟩ := hO5.dued hd; rw [HX.out.2.2.2.1] at own; obtain rfl : k = 1 := own.len.symm; clear own)
          | (go_at_call 10; refine (HC.out.set id at_ hO6.t (by decide) HO1.out).mono ?_; rw [HX.out.2.2.2.2.1]; intro e W7 hd; obtain ⟨rfl, B7, hO7⟩ := hO6.step hd)
          | (go_at_call 18; refine (HC.out.len hO7.t (by decide)).mono ?_; rw [HX.out.2.2.2.2.2]; rintro e W8 ⟨rfl, hb8⟩; have hO8 := hO7.later HC.out hb8))
        go_ret
        exact ⟨rfl, hO8.b⟩
end
end Go.Proofs.Ytajpfmnnkglkiaa
