/- The walk of the law PrefixTexts. -/
import Derived.Test.YtapoajplmejjcaaDoorLawBack
import Derived.Test.YtapoajplmejjcaaDoorConm
import Derived.Test.YtapoajplmejjcaaDoorCono
import Derived.Test.YtapoajplmejjcaaDoorConp
namespace Go.Proofs.YtapoajplmejjcaaDoor
open Go.RowKit

theorem split_bd : ∀ (l : List UInt8) (acc : List Nat) (x e : Nat), e ∈ splitN l acc x → e ∈ acc ∨ e < 10 ^ l.length * (x + 1)
  | [], acc, x, e, h => by
    rw [splitN, List.mem_append, List.mem_singleton] at h
    rcases h with h | rfl
    · exact .inl h
    · right; simp
  | c :: r, acc, x, e, h => by
    rw [splitN] at h
    have hp : 10 ^ (r.length + 1) = 10 * 10 ^ r.length := by rw [Nat.pow_succ, Nat.mul_comm]
    have h0 : 0 < 10 ^ r.length := Nat.pow_pos (by omega)
    rw [List.length_cons, hp]
    split at h
    · rcases split_bd r acc _ e h with h | h
      · exact .inl h
      · right
        refine Nat.lt_of_lt_of_le h ?_
        rw [show 10 * 10 ^ r.length * (x + 1) = 10 ^ r.length * (10 * (x + 1)) by rw [Nat.mul_comm 10 (10 ^ r.length), Nat.mul_assoc]]
        exact Nat.mul_le_mul_left _ (by omega)
    · rcases split_bd r _ _ e h with h | h
      · rw [List.mem_append, List.mem_singleton] at h
        rcases h with h | rfl
        · exact .inl h
        · right
          have : 1 * (e + 1) ≤ 10 * 10 ^ r.length * (e + 1) := Nat.mul_le_mul_right _ (by omega)
          omega
      · right
        refine Nat.lt_of_lt_of_le h ?_
        exact Nat.mul_le_mul (by omega) (by omega)

theorem refParse_none {s : ByteArray} (hs : s.size ≤ 3000) (h : parseF s.data.toList = none) (W : World) :
    Calls Tryd.prog 27 #[.string s] W fun e w' => e = .returned (.tuple #[.agg #[.int .u32 0, .int .i64 0], .int .i64 2]) ∧ Below W.heap.size W w' := by
  by_cases hl : 18 < s.size
  · exact refParse_long s W hl hs
  · have hl' : s.size ≤ 18 := by omega
    by_cases h5 : (splitN s.data.toList [] 0).length = 5
    · obtain ⟨n0, n1, n2, n3, n4, hn⟩ : ∃ n0 n1 n2 n3 n4, splitN s.data.toList [] 0 = [n0, n1, n2, n3, n4] := by
        match hq : splitN s.data.toList [] 0, h5 with
        | [n0, n1, n2, n3, n4], _ => exact ⟨n0, n1, n2, n3, n4, rfl⟩
      have hb : n4 < 1000000000000000000 := by
        rcases split_bd s.data.toList [] 0 n4 (by rw [hn]; simp) with h | h
        · simp at h
        · have h1 : 10 ^ s.data.toList.length ≤ 10 ^ 18 := Nat.pow_le_pow_right (by omega) (show s.size ≤ 18 from hl')
          omega
      by_cases hbig : n0 ≤ 255 ∧ n1 ≤ 255 ∧ n2 ≤ 255 ∧ n3 ≤ 255
      · obtain ⟨b0, b1, b2, b3⟩ := hbig
        have hA : ((n0 * 16777216 + n1 * 65536 + n2 * 256 + n3 : Nat) : Int) = (n0 : Int) * 16777216 + (n1 : Int) * 65536 + (n2 : Int) * 256 + (n3 : Int) := by omega
        cases hm : mayB ((n0 : Int) * 16777216 + (n1 : Int) * 65536 + (n2 : Int) * 256 + (n3 : Int)) (n4 : Int)
        · exact refParse_may s W hl' n0 n1 n2 n3 n4 _ _ _ _ _ hn ⟨rfl, rfl, rfl, rfl, rfl⟩ (by omega) (by omega) (by omega) (by omega) (by omega) (by omega) (by omega) (by omega) (by omega) (by omega) hm
        · have hl4 := may_len hm
          have hne := ref_no h (n0 * 16777216 + n1 * 65536 + n2 * 256 + n3) n4 (by omega) (by rw [hA]; exact hm)
          rw [hA] at hne
          refine refParse_show s W hl' n0 n1 n2 n3 n4 _ _ _ _ _ hn ⟨rfl, rfl, rfl, rfl, rfl⟩ (by omega) (by omega) (by omega) (by omega) (by omega) (by omega) (by omega) (by omega) (by omega) (by omega) hm
            ⟨(showL ((n0 : Int) * 16777216 + (n1 : Int) * 65536 + (n2 : Int) * 256 + (n3 : Int)) (n4 : Int)).toArray⟩ ?_ (fun V => refShow_any _ _ V (by omega) (by omega) (by omega) (by omega))
          rw [ByteArray.toList_eq, ByteArray.toList_eq]
          simpa using hne
      · exact refParse_big s W hl' n0 n1 n2 n3 n4 _ _ _ _ _ hn ⟨rfl, rfl, rfl, rfl, rfl⟩ (by omega)
    · exact refParse_len s W hl' h5

theorem refParse_some {s : ByteArray} {A B : Nat} (h : parseF s.data.toList = some (A, B)) (W : World) :
    Calls Tryd.prog 27 #[.string s] W fun e w' => e = .returned (.tuple #[.agg #[.int .u32 (A : Int), .int .i64 (B : Int)], .int .i64 0]) ∧ Below W.heap.size W w' := by
  obtain ⟨h1, h2, h3, h4, h5, h6⟩ := ref_yes h
  have b0 := byN_le A 0
  have b1 := byN_le A 1
  have b2 := byN_le A 2
  have b3 := byN_le A 3
  have hA : (byN A 0 : Int) * 16777216 + (byN A 1 : Int) * 65536 + (byN A 2 : Int) * 256 + (byN A 3 : Int) = (A : Int) := by
    have := byN_join A h3
    omega
  have hr := refParse_ok s W h1 _ _ _ _ _ (byN A 0 : Int) (byN A 1 : Int) (byN A 2 : Int) (byN A 3 : Int) (B : Int) h2 ⟨rfl, rfl, rfl, rfl, rfl⟩ (by omega) (by omega) (by omega) (by omega) (by omega) (by omega) (by omega) (by omega) (by omega) (by omega)
    (by rw [hA]; exact h5) (fun V => by
      have := refShow_any (A : Int) (B : Int) V (by omega) (by omega) (by omega) (by omega)
      rw [bytes_of h6] at this
      rw [hA]
      exact this)
  rw [hA] at hr
  exact hr

theorem texts_out (a l : Int) (s : ByteArray) (w : World) (h : 1000000000 < l ∨ (l ≤ 1000000000 ∧ l < -1000000000) ∨ (l ≤ 1000000000 ∧ -1000000000 ≤ l ∧ 3000 < s.size)) (hs : s.size ≤ 9223372036854775807) :
    Calls Tryd.prog 5 #[.agg #[.int .u32 a, .int .i64 l], .string s] w fun e w' => e = .returned (.bool true) ∧ Below w.heap.size w w' := by
  rcases h with h | ⟨h, h'⟩ | ⟨h, h', h2⟩
  all_goals
    go_enter Tryd.func5, Tryd.ntmps5
    go_wp2_with (go_at_call 11; refine (awake_any _).mono ?_; rintro e w1 ⟨rfl, hb⟩; obtain ⟨c0, c1, z0⟩ := box1 hb)
    go_ret
    exact ⟨rfl, Below.out1 hb⟩

set_option maxHeartbeats 1000000 in
theorem texts_in (a l : Int) (s : ByteArray) (w : World) (hl0 : -1000000000 ≤ l) (hl1 : l ≤ 1000000000) (hs : s.size ≤ 3000) (rA rL rE : Int) (T : ByteArray)
    (HP : Hid (∀ W, Calls Tryd.prog 26 #[.string s] W fun e w' => e = .returned (.tuple #[.agg #[.int .u32 rA, .int .i64 rL], .int .i64 rE]) ∧ Below W.heap.size W w'))
    (HQ : Hid (∀ W, Calls Tryd.prog 27 #[.string s] W fun e w' => e = .returned (.tuple #[.agg #[.int .u32 rA, .int .i64 rL], .int .i64 rE]) ∧ Below W.heap.size W w'))
    (HS : Hid (∀ W, Below w.heap.size w W → Calls Tryd.prog 28 #[.agg #[.int .u32 a, .int .i64 l]] W fun e w' => e = .returned (.string T) ∧ Below W.heap.size W w'))
    (HR : Hid (∀ W, Calls Tryd.prog 29 #[.agg #[.int .u32 a, .int .i64 l]] W fun e w' => e = .returned (.string T) ∧ Below W.heap.size W w')) :
    Calls Tryd.prog 5 #[.agg #[.int .u32 a, .int .i64 l], .string s] w fun e w' => e = .returned (.bool true) ∧ Below w.heap.size w w' := by
  go_enter Tryd.func5, Tryd.ntmps5
  go_wp2_with (first
    | (go_at_call 11; refine (awake_any _).mono ?_; rintro e w1 ⟨rfl, hb⟩; obtain ⟨c0, c1, z0⟩ := box1 hb)
    | (go_at_call 26; refine (HP.out _).mono ?_; rintro e w2 ⟨rfl, hb2⟩)
    | (go_at_call 27; refine (HQ.out _).mono ?_; rintro e w3 ⟨rfl, hb3⟩))
  have p2 := later2 ⟨c0, c1, z0⟩ hb2
  have p3 := alloc2 (later2 (alloc2 p2 (.cells #[.int .u32 rA, .int .i64 rL] 24)) hb3) (.cells #[.int .u32 rA, .int .i64 rL] 24)
  have q3 := alloc2 (later2 (new2 w2 (.int .u32 rA) (.int .i64 rL) 24) hb3) (.cells #[.int .u32 rA, .int .i64 rL] 24)
  have r3 := new2 w3 (.int .u32 rA) (.int .i64 rL) 24
  have hB := stp (stp1 (stp (Below.out1 hb) hb2) hb3) (below1 w3 (.cells #[.int .u32 rA, .int .i64 rL] 24))
  have k0 := cell_regrown p3.1
  have k1 := cell_regrown p3.2.1
  have k2 := cell_regrown q3.1
  have k3 := cell_regrown q3.2.1
  have k4 := cell_regrown r3.1
  have k5 := cell_regrown r3.2.1
  refine wp_region_quiet_below (by kernel_rfl) (by kernel_rfl) ?_
  repeat (go_big_quiet_step (first
    | (go_at_call 28; exact Calls.regrown_of (HS.out _ (stp hB (below_regrown _ _ _))))
    | (go_at_call 29; exact Calls.regrown_of (HR.out _))))
  refine wpQuiet_nil ?_
  intro _ hw'
  obtain ⟨⟨dq, osq⟩, hw''⟩ := hw'
  subst hw''
  go_wp2
  go_ret
  exact ⟨rfl, stp hB (below_regrown _ dq osq)⟩

theorem law_texts (a l : Int) (s : ByteArray) (w : World) (ha0 : 0 ≤ a) (ha1 : a < 4294967296) (hl0 : -9223372036854775808 ≤ l) (hl1 : l ≤ 9223372036854775807) (hz : s.size ≤ maxLen)
    (htab : Lib.TabIs Tryd.prog w "internal/strconv.uint64pow10" .u64 Lib.pow10Tab) :
    Calls Tryd.prog 5 #[.agg #[.int .u32 a, .int .i64 l], .string s] w fun e w' => e = .returned (.bool true) ∧ Below w.heap.size w w' := by
  unfold maxLen at hz
  by_cases h : -1000000000 ≤ l ∧ l ≤ 1000000000 ∧ s.size ≤ 3000
  · obtain ⟨h1, h2, h3⟩ := h
    cases hp : parseF s.data.toList with
    | none => exact texts_in a l s w h1 h2 h3 _ _ _ _ (parse_none h3 hp) (refParse_none h3 hp) (show_tab a l w ha0 ha1 hl0 hl1 htab) (fun W => refShow_any a l W ha0 ha1 h1 h2)
    | some q =>
      obtain ⟨A, B⟩ := q
      exact texts_in a l s w h1 h2 h3 _ _ _ _ (parse_some h3 hp) (refParse_some hp) (show_tab a l w ha0 ha1 hl0 hl1 htab) (fun W => refShow_any a l W ha0 ha1 h1 h2)
  · exact texts_out a l s w (by omega) hz
end Go.Proofs.YtapoajplmejjcaaDoor
