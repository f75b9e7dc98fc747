/- The walk of the law PrefixBack. -/
import Derived.Test.YtapoajplmejjcaaDoorConi
import Derived.Test.YtapoajplmejjcaaDoorMatg
namespace Go.Proofs.YtapoajplmejjcaaDoor
open Go.RowKit

set_option maxHeartbeats 2000000 in
theorem back_nn (a l : Int) (s : ByteArray) (w : World) (hs : s.size ≤ 3000) (ha0 : 0 ≤ a) (ha1 : a < 4294967296) (hm : mayB a l = false)
    (HQ : Hid (∀ W, Calls Tryd.prog 26 #[.string s] W fun e w' => e = .returned (.tuple #[.agg #[.int .u32 0, .int .i64 0], .int .i64 2]) ∧ Below W.heap.size W w')) :
    Calls Tryd.prog 6 #[.agg #[.int .u32 a, .int .i64 l], .string s] w fun e w' => e = .returned (.bool true) ∧ Below w.heap.size w w' := by
  go_enter Tryd.func6, Tryd.ntmps6
  go_wp2_with (first
    | (go_at_call 11; refine (awake_any _).mono ?_; rintro e w1 ⟨rfl, hb⟩; obtain ⟨c0, c1, z0⟩ := box1 hb; have hB := Below.out1 hb)
    | (go_at_call_of 26 (Value.string s); refine (HQ.out _).mono ?_; rintro e w5 ⟨rfl, hb5⟩; have hB5 := stp hB hb5)
    | (go_at_call_of 18 (Value.agg #[Value.int IntKind.u32 a, Value.int IntKind.i64 l]); refine (may_any _ _ _ ha0 ha1 hm).mono ?_; rintro e w2 ⟨rfl, hb2⟩; have hP := later2 ⟨c0, c1, z0⟩ hb2; have hB := stp hB hb2))
  go_ret
  exact ⟨rfl, stp hB5 (below1 _ _)⟩

set_option maxHeartbeats 2000000 in
theorem back_ns (a l : Int) (s : ByteArray) (w : World) (hs : s.size ≤ 3000) (ha0 : 0 ≤ a) (ha1 : a < 4294967296) (hm : mayB a l = false)
    (A B : Int) (hA0 : 0 ≤ A) (hA1 : A < 4294967296) (hmA : mayB A B = true) (HR : Hid (∀ W, Below w.heap.size w W → Calls Tryd.prog 28 #[.agg #[.int .u32 A, .int .i64 B]] W fun e w' => e = .returned (.string s) ∧ Below W.heap.size W w'))
    (HQ : Hid (∀ W, Calls Tryd.prog 26 #[.string s] W fun e w' => e = .returned (.tuple #[.agg #[.int .u32 A, .int .i64 B], .int .i64 0]) ∧ Below W.heap.size W w')) :
    Calls Tryd.prog 6 #[.agg #[.int .u32 a, .int .i64 l], .string s] w fun e w' => e = .returned (.bool true) ∧ Below w.heap.size w w' := by
  go_enter Tryd.func6, Tryd.ntmps6
  go_wp2_with (first
    | (go_at_call 11; refine (awake_any _).mono ?_; rintro e w1 ⟨rfl, hb⟩; obtain ⟨c0, c1, z0⟩ := box1 hb; have hB := Below.out1 hb)
    | (go_at_call_of 26 (Value.string s); refine (HQ.out _).mono ?_; rintro e w5 ⟨rfl, hb5⟩; have hB5 := stp hB hb5)
    | (go_at_call_of 28 (Value.agg #[Value.int IntKind.u32 A, Value.int IntKind.i64 B]); refine (HR.out _ (stp hB5 (below1 _ _))).mono ?_; rintro e w6 ⟨rfl, hb6⟩; have hN := later2 (new2 w5 (.int .u32 A) (.int .i64 B) 24) hb6; have hB6 := stp1 hB5 hb6)
    | (go_at_call_of 18 (Value.agg #[Value.int IntKind.u32 A, Value.int IntKind.i64 B]); refine (may_any _ _ _ hA0 hA1 hmA).mono ?_; rintro e w7 ⟨rfl, hb7⟩; have hB7 := stp hB6 hb7)
    | (go_at_call_of 18 (Value.agg #[Value.int IntKind.u32 a, Value.int IntKind.i64 l]); refine (may_any _ _ _ ha0 ha1 hm).mono ?_; rintro e w2 ⟨rfl, hb2⟩; have hP := later2 ⟨c0, c1, z0⟩ hb2; have hB := stp hB hb2))
  go_ret
  exact ⟨rfl, hB7⟩

set_option maxHeartbeats 2000000 in
theorem back_yn (a l : Int) (s : ByteArray) (w : World) (hs : s.size ≤ 3000) (ha0 : 0 ≤ a) (ha1 : a < 4294967296) (hm : mayB a l = true) (T : ByteArray)
    (HS : Hid (∀ W, Below w.heap.size w W → Calls Tryd.prog 28 #[.agg #[.int .u32 a, .int .i64 l]] W fun e w' => e = .returned (.string T) ∧ Below W.heap.size W w'))
    (HP : Hid (∀ W, Calls Tryd.prog 26 #[.string T] W fun e w' => e = .returned (.tuple #[.agg #[.int .u32 a, .int .i64 l], .int .i64 0]) ∧ Below W.heap.size W w'))
    (HQ : Hid (∀ W, Calls Tryd.prog 26 #[.string s] W fun e w' => e = .returned (.tuple #[.agg #[.int .u32 0, .int .i64 0], .int .i64 2]) ∧ Below W.heap.size W w')) :
    Calls Tryd.prog 6 #[.agg #[.int .u32 a, .int .i64 l], .string s] w fun e w' => e = .returned (.bool true) ∧ Below w.heap.size w w' := by
  go_enter Tryd.func6, Tryd.ntmps6
  go_wp2_with (first
    | (go_at_call 11; refine (awake_any _).mono ?_; rintro e w1 ⟨rfl, hb⟩; obtain ⟨c0, c1, z0⟩ := box1 hb; have hB := Below.out1 hb)
    | (go_at_call_of 28 (Value.agg #[Value.int IntKind.u32 a, Value.int IntKind.i64 l]); refine (HS.out _ hB).mono ?_; rintro e w3 ⟨rfl, hb3⟩; have hP3 := later2 hP hb3; have hB3 := stp hB hb3)
    | (go_at_call_of 26 (Value.string T); refine (HP.out _).mono ?_; rintro e w4 ⟨rfl, hb4⟩; have hP4 := later2 hP3 hb4; have hB4 := stp hB3 hb4)
    | (go_at_call_of 26 (Value.string s); refine (HQ.out _).mono ?_; rintro e w5 ⟨rfl, hb5⟩; have hB5 := stp1 hB4 hb5)
    | (go_at_call_of 18 (Value.agg #[Value.int IntKind.u32 a, Value.int IntKind.i64 l]); refine (may_any _ _ _ ha0 ha1 hm).mono ?_; rintro e w2 ⟨rfl, hb2⟩; have hP := later2 ⟨c0, c1, z0⟩ hb2; have hB := stp hB hb2))
  go_ret
  exact ⟨rfl, stp hB5 (below1 _ _)⟩

set_option maxHeartbeats 2000000 in
theorem back_ys (a l : Int) (s : ByteArray) (w : World) (hs : s.size ≤ 3000) (ha0 : 0 ≤ a) (ha1 : a < 4294967296) (hm : mayB a l = true) (T : ByteArray)
    (HS : Hid (∀ W, Below w.heap.size w W → Calls Tryd.prog 28 #[.agg #[.int .u32 a, .int .i64 l]] W fun e w' => e = .returned (.string T) ∧ Below W.heap.size W w'))
    (HP : Hid (∀ W, Calls Tryd.prog 26 #[.string T] W fun e w' => e = .returned (.tuple #[.agg #[.int .u32 a, .int .i64 l], .int .i64 0]) ∧ Below W.heap.size W w'))
    (A B : Int) (hA0 : 0 ≤ A) (hA1 : A < 4294967296) (hmA : mayB A B = true) (HR : Hid (∀ W, Below w.heap.size w W → Calls Tryd.prog 28 #[.agg #[.int .u32 A, .int .i64 B]] W fun e w' => e = .returned (.string s) ∧ Below W.heap.size W w'))
    (HQ : Hid (∀ W, Calls Tryd.prog 26 #[.string s] W fun e w' => e = .returned (.tuple #[.agg #[.int .u32 A, .int .i64 B], .int .i64 0]) ∧ Below W.heap.size W w')) :
    Calls Tryd.prog 6 #[.agg #[.int .u32 a, .int .i64 l], .string s] w fun e w' => e = .returned (.bool true) ∧ Below w.heap.size w w' := by
  go_enter Tryd.func6, Tryd.ntmps6
  go_wp2_with (first
    | (go_at_call 11; refine (awake_any _).mono ?_; rintro e w1 ⟨rfl, hb⟩; obtain ⟨c0, c1, z0⟩ := box1 hb; have hB := Below.out1 hb)
    | (go_at_call_of 28 (Value.agg #[Value.int IntKind.u32 a, Value.int IntKind.i64 l]); refine (HS.out _ hB).mono ?_; rintro e w3 ⟨rfl, hb3⟩; have hP3 := later2 hP hb3; have hB3 := stp hB hb3)
    | (go_at_call_of 26 (Value.string T); refine (HP.out _).mono ?_; rintro e w4 ⟨rfl, hb4⟩; have hP4 := later2 hP3 hb4; have hB4 := stp hB3 hb4)
    | (go_at_call_of 26 (Value.string s); refine (HQ.out _).mono ?_; rintro e w5 ⟨rfl, hb5⟩; have hB5 := stp1 hB4 hb5)
    | (go_at_call_of 28 (Value.agg #[Value.int IntKind.u32 A, Value.int IntKind.i64 B]); refine (HR.out _ (stp hB5 (below1 _ _))).mono ?_; rintro e w6 ⟨rfl, hb6⟩; have hN := later2 (new2 w5 (.int .u32 A) (.int .i64 B) 24) hb6; have hB6 := stp1 hB5 hb6)
    | (go_at_call_of 18 (Value.agg #[Value.int IntKind.u32 A, Value.int IntKind.i64 B]); refine (may_any _ _ _ hA0 hA1 hmA).mono ?_; rintro e w7 ⟨rfl, hb7⟩; have hB7 := stp hB6 hb7)
    | (go_at_call_of 18 (Value.agg #[Value.int IntKind.u32 a, Value.int IntKind.i64 l]); refine (may_any _ _ _ ha0 ha1 hm).mono ?_; rintro e w2 ⟨rfl, hb2⟩; have hP := later2 ⟨c0, c1, z0⟩ hb2; have hB := stp hB hb2))
  go_ret
  exact ⟨rfl, hB7⟩

theorem back_long (a l : Int) (s : ByteArray) (w : World) (hs : 3000 < s.size) :
    Calls Tryd.prog 6 #[.agg #[.int .u32 a, .int .i64 l], .string s] w fun e w' => e = .returned (.bool true) ∧ Below w.heap.size w w' := by
  go_enter Tryd.func6, Tryd.ntmps6
  go_wp2_with (go_at_call 11; refine (awake_any _).mono ?_; rintro e w1 ⟨rfl, hb⟩)
  go_ret
  exact ⟨rfl, Below.out1 hb⟩

theorem show_tab (a l : Int) (w : World) (ha0 : 0 ≤ a) (ha1 : a < 4294967296) (hl0 : -9223372036854775808 ≤ l) (hl1 : l ≤ 9223372036854775807)
    (htab : Lib.TabIs Tryd.prog w "internal/strconv.uint64pow10" .u64 Lib.pow10Tab) (W : World) (hW : Below w.heap.size w W) :
    Calls Tryd.prog 28 #[.agg #[.int .u32 a, .int .i64 l]] W fun e w' => e = .returned (.string ⟨(showL a l).toArray⟩) ∧ Below W.heap.size W w' := by
  have ht := tab_later hW htab
  exact show_any a l W ha0 ha1 hl0 hl1 (fun k _ => it_tab W _ (by have := byteI_bd a k; omega) (by have := byteI_bd a k; omega) ht) (it_tab W l hl0 hl1 ht)
theorem parse_none {s : ByteArray} (hs : s.size ≤ 3000) (h : parseF s.data.toList = none) (W : World) :
    Calls Tryd.prog 26 #[.string s] W fun e w' => e = .returned (.tuple #[.agg #[.int .u32 0, .int .i64 0], .int .i64 2]) ∧ Below W.heap.size W w' := by
  have hp := par_none h
  have := parse_any s W hs
  rw [hp.1, hp.2.1, hp.2.2] at this
  exact this
theorem parse_some {s : ByteArray} (hs : s.size ≤ 3000) {A B : Nat} (h : parseF s.data.toList = some (A, B)) (W : World) :
    Calls Tryd.prog 26 #[.string s] W fun e w' => e = .returned (.tuple #[.agg #[.int .u32 (A : Int), .int .i64 (B : Int)], .int .i64 0]) ∧ Below W.heap.size W w' := by
  have hp := par_some h
  have := parse_any s W hs
  rw [hp.1, hp.2.1, hp.2.2] at this
  exact this
theorem bytes_of {s : ByteArray} {l : List UInt8} (h : l = s.data.toList) : (⟨l.toArray⟩ : ByteArray) = s := by
  apply ByteArray.ext
  simp [h]
theorem parse_back {a l : Int} (ha0 : 0 ≤ a) (ha1 : a < 4294967296) (hm : mayB a l = true) (W : World) :
    Calls Tryd.prog 26 #[.string ⟨(showL a l).toArray⟩] W fun e w' => e = .returned (.tuple #[.agg #[.int .u32 a, .int .i64 l], .int .i64 0]) ∧ Below W.heap.size W w' := by
  have hl : 0 ≤ l ∧ l ≤ 32 := by rw [mayB, decide_eq_true_eq] at hm; exact ⟨hm.1, hm.2.1⟩
  obtain ⟨x, rfl⟩ := Int.eq_ofNat_of_zero_le ha0
  obtain ⟨y, rfl⟩ := Int.eq_ofNat_of_zero_le hl.1
  refine parse_some (s := ⟨(showL (x : Int) (y : Int)).toArray⟩) ?_ ?_ W
  · show (showL (x : Int) (y : Int)).toArray.size ≤ 3000
    have h1 := showP_len (x : Int) 4
    have h2 := Lib.itoa_length_le (y : Int) (by omega) (by omega)
    simp only [List.size_toArray, showL, List.length_append]
    omega
  · have := parse_show x y (by omega) hm
    simpa using this

theorem law_back (a l : Int) (s : ByteArray) (w : World) (ha0 : 0 ≤ a) (ha1 : a < 4294967296) (hl0 : -9223372036854775808 ≤ l) (hl1 : l ≤ 9223372036854775807)
    (htab : Lib.TabIs Tryd.prog w "internal/strconv.uint64pow10" .u64 Lib.pow10Tab) :
    Calls Tryd.prog 6 #[.agg #[.int .u32 a, .int .i64 l], .string s] w fun e w' => e = .returned (.bool true) ∧ Below w.heap.size w w' := by
  by_cases hs : 3000 < s.size
  · exact back_long a l s w hs
  · have hs' : s.size ≤ 3000 := by omega
    cases hp : parseF s.data.toList with
    | none =>
      cases hm : mayB a l
      · exact back_nn a l s w hs' ha0 ha1 hm (parse_none hs' hp)
      · exact back_yn a l s w hs' ha0 ha1 hm _ (show_tab a l w ha0 ha1 hl0 hl1 htab) (parse_back ha0 ha1 hm) (parse_none hs' hp)
    | some q =>
      obtain ⟨A, B⟩ := q
      obtain ⟨h1, h2, h3, h4⟩ := show_parse hp
      have hr := show_tab (A : Int) (B : Int) w (by omega) (by omega) (by omega) (by omega) htab
      rw [bytes_of h1] at hr
      cases hm : mayB a l
      · exact back_ns a l s w hs' ha0 ha1 hm A B (by omega) (by omega) h2 hr (parse_some hs' hp)
      · exact back_ys a l s w hs' ha0 ha1 hm _ (show_tab a l w ha0 ha1 hl0 hl1 htab) (parse_back ha0 ha1 hm) A B (by omega) (by omega) h2 hr (parse_some hs' hp)
end Go.Proofs.YtapoajplmejjcaaDoor
