/- Contracts of the program's isFramed, mayEntry, may. -/
import Derived.Test.YtnlgdkbpolckcaaPrB
import Derived.Test.YtnlgdkbpolckcaaMatG
namespace Go.Proofs.Ytnlgdkbpolckcaa
open Go.RowKit

theorem wrap_i {x : Int} (h0 : -9223372036854775808 ≤ x) (h1 : x ≤ 9223372036854775807) : IntKind.i64.wrap x = x := by
  simp [IntKind.wrap, IntKind.signed, IntKind.bits]; omega
theorem isFramed_any (a : Option Addr) (n cap : Nat) (l : List Int) (w : World) (hr : Row8 w a n l) (hn : n ≤ 3000) {v : Bool} (hv : framed l = v) :
    Calls Try.prog 22 #[.slice a n cap] w fun e w' => e = .returned (.bool v) ∧ w' = w := by
  have HL : Hid (l.length = n) := hr.1
  by_cases h16 : n < 16
  · have HV : Hid (v = false) := by unfold Hid; rw [← hv]; unfold framed; rw [HL.out, decide_eq_false (by omega)]; rfl
    have i16 : ¬ (16 : Int) ≤ (n : Int) := by omega
    clear hr hv
    go_enter Try.func22, Try.ntmps22
    go_wp2
    go_ret
    exact ⟨ret_bool HV.out.symm, rfl⟩
  have i16 : (16 : Int) ≤ (n : Int) := by omega
  obtain ⟨r, hrr⟩ : ∃ r, n - 16 = r := ⟨_, rfl⟩
  have w0 : (n : Int) - 16 = (r : Int) := by omega
  obtain ⟨q, hq⟩ : ∃ q : Nat, r % 20 = q := ⟨_, rfl⟩
  have w2 : (r : Int) % 20 = (q : Int) := by omega
  by_cases hq0 : q = 0
  case neg =>
    have HV : Hid (v = false) := by unfold Hid; rw [← hv]; unfold framed; rw [HL.out, hrr, hq, decide_eq_false hq0]; simp
    have e1 : ((q : Int) == 0) = false := by rw [beq_eq_false_iff_ne]; omega
    have e2 : (((n : Int) - 16) % 20 == 0) = false := by rw [w0, w2]; exact e1
    clear hr hv hq hrr w0 w2
    go_enter Try.func22, Try.ntmps22
    go_wp2
    go_ret
    exact ⟨ret_bool HV.out.symm, rfl⟩
  obtain ⟨hl, hm, hB, hc⟩ := hr
  obtain ⟨b, off, rfl, d0⟩ := hc 0 (by omega)
  rw [Nat.add_zero] at d0
  have E0 : Hid (at8 l 0 = l[0]?.getD 0) := rfl
  generalize l[0]?.getD 0 = x at d0 E0
  have HV : Hid ((x == 2) = v) := by unfold Hid; rw [← hv]; unfold framed; rw [HL.out, hrr, hq, E0.out, decide_eq_true (by omega), decide_eq_true hq0]; rfl
  have e2 : (((n : Int) - 16) % 20 == 0) = true := by rw [w0, w2, hq0]; rfl
  clear hc hB hl hv hq hrr w0 w2
  go_enter Try.func22, Try.ntmps22
  go_wp2
  go_ret
  exact ⟨ret_bool HV.out, rfl⟩
theorem mayEntry_any (a l b d h t : Int) (w : World) (ha0 : 0 ≤ a) (ha1 : a < 4294967296) {v : Bool} (hv : mayE ⟨a, l, b, d, h, t⟩ = v) :
    Calls Try.prog 28 #[valE a l b d h t] w fun e w' => e = .returned (.bool v) ∧ Below w.heap.size w w' := by
  subst hv
  obtain ⟨x, hx⟩ : ∃ x, mayB a l = x := ⟨_, rfl⟩
  obtain ⟨y, hy⟩ : ∃ y, mayV h b d = y := ⟨_, rfl⟩
  have HM : Hid (mayE ⟨a, l, b, d, h, t⟩ = (x && (y || noV h b d))) := by unfold Hid mayE; simp only; rw [hx, hy]
  have HX : Hid (mayB a l = x) := hx
  have HY : Hid (mayV h b d = y) := hy
  clear hx hy
  cases x
  · go_enter Try.func28, Try.ntmps28
    go_wp2_with (first
      | (go_at_call 39; refine (may_any _ _ _ ha0 ha1 HX.out).mono ?_; rintro e W1 ⟨rfl, hb1⟩; obtain ⟨c0, c1, c2, c3, c4, c5⟩ := ((E6.new w a l b d h t).later hb1).z))
    go_ret
    exact ⟨ret_bool (by rw [HM.out]; rfl), Below.out1 hb1⟩
  cases y
  all_goals
    go_enter Try.func28, Try.ntmps28
    go_wp2_with (first
      | (go_at_call 39; refine (may_any _ _ _ ha0 ha1 HX.out).mono ?_; rintro e W1 ⟨rfl, hb1⟩; obtain ⟨c0, c1, c2, c3, c4, c5⟩ := ((E6.new w a l b d h t).later hb1).z)
      | (go_at_call 40; refine (mayVec_any _ _ _ _ HY.out).mono ?_; rintro e W2 ⟨rfl, hb2⟩; obtain ⟨c0, c1, c2, c3, c4, c5⟩ := (((E6.new w a l b d h t).later hb1).later hb2).z))
    all_goals
      go_ret
      refine ⟨ret_bool ?_, Below.out1 (stp hb1 hb2)⟩
      rw [HM.out]
      unfold noV
      clear HM HX HY hb1 hb2
      first | rfl | simp_all
set_option maxHeartbeats 2000000 in
theorem mayPk_any (c : Int) (i : Bool) (s k : Int) (ad : Option Addr) (n cap : Nat) (es : List Ent) (w : World) (hr : RowE w ad n es) (hn : n ≤ 200) {v : Bool} (hv : mayP ⟨c, i, s, k, es⟩ = v) :
    Calls Try.prog 15 #[valP c i s k ad n cap] w fun e w' => e = .returned (.bool v) ∧ Below w.heap.size w w' := by
  have HR : Hid (RowE w ad n es) := hr
  have HL : Hid (es.length = n) := hr.1
  have HV : Hid (mayP ⟨c, i, s, k, es⟩ = v) := hv
  clear hr hv
  have no : ∀ (_ : codeOk ⟨c, i, s, k, es⟩ = false), v = false := fun h => by rw [← HV.out]; unfold mayP; rw [h]; rfl
  by_cases hc0 : c < 0
  · have HX : Hid (v = false) := no (by unfold codeOk; simp only; rw [decide_eq_false (by omega)]; rfl)
    clear no
    go_enter Try.func15, Try.ntmps15
    go_wp2
    go_ret
    exact ⟨ret_bool HX.out.symm, below1 _ _⟩
  by_cases hc3 : 3 < c
  · have HX : Hid (v = false) := no (by unfold codeOk; simp only; rw [decide_eq_false (p := c ≤ 3) (by omega)]; simp)
    clear no
    go_enter Try.func15, Try.ntmps15
    go_wp2
    go_ret
    exact ⟨ret_bool HX.out.symm, below1 _ _⟩
  have c0 : 0 ≤ c := by omega
  have c3 : c ≤ 3 := by omega
  have key : (c == 0) = false ∨ (c == 0) = true ∧ (¬ (0 : Int) < (n : Int) ∨ (0 : Int) < (n : Int)) := by
    cases h : (c == 0)
    · exact .inl rfl
    · exact .inr ⟨rfl, by omega⟩
  have bad : (c == 0) = true → (0 : Int) < (n : Int) → v = false := fun h1 h2 => no (by
    unfold codeOk; simp only
    rw [h1, HL.out, decide_eq_true (p := 0 < n) (by omega)]; simp)
  have HGood : Hid ((c == 0) = false ∨ ¬ (0 : Int) < (n : Int) → codeOk ⟨c, i, s, k, es⟩ = true) := fun h => by
    unfold codeOk; simp only
    rw [decide_eq_true c0, decide_eq_true c3, HL.out]
    rcases h with h | h
    · rw [h]; rfl
    · rw [decide_eq_false (p := 0 < n) (by omega)]; simp
  have HBad : Hid (_) := bad
  clear no bad
  rcases key with kc | ⟨kc, kn | kn⟩
  case inr.inr =>
    have HX : Hid (v = false) := HBad.out kc kn
    clear HBad HGood
    go_enter Try.func15, Try.ntmps15
    go_wp2
    go_ret
    exact ⟨ret_bool HX.out.symm, below1 _ _⟩
  all_goals
    have HCO : Hid (codeOk ⟨c, i, s, k, es⟩ = true) := HGood.out (by first | exact .inl kc | exact .inr kn)
    have HVA : Hid (v = es.all mayE) := by unfold Hid; rw [← HV.out]; unfold mayP; rw [HCO.out]; rfl
    clear HBad HGood HV
    go_enter Try.func15, Try.ntmps15
    go_wp2
    go_loopw [27] (fun i_ W => ∃ (j : Nat), j ≤ n ∧ i_ = .int .i64 j ∧ Hid ((es.take j).all mayE = true) ∧ Below (w.heap.size + 1) (w.alloc (objP c i s k ad n cap)) W) (fun i_ _ => n - (intOf i_).toNat)
    case atStart => exact ⟨0, Nat.zero_le _, rfl, rfl, Below.refl _ _⟩
    case round =>
      obtain ⟨j, hj, rfl, HT, hB⟩ := hrel
      by_cases hlt : j < n
      · first
          | (exfalso; omega)
          | (have hlt' : (j : Int) < (n : Int) := by omega
             obtain ⟨⟨ea, el, eb, ed, eh, et⟩, b, off, he, hok, rfl, h5⟩ := (HR.out.later (out8 hB)).at hlt
             obtain ⟨d0, d1, d2, d3, d4, d5⟩ := h5
             simp only at d0 d1 d2 d3 d4 d5
             have ea0 : 0 ≤ ea := hok.a0
             have ea1 : ea < 4294967296 := hok.a1
             have sB := hB.size
             obtain ⟨u, hu⟩ : ∃ u, mayE ⟨ea, el, eb, ed, eh, et⟩ = u := ⟨_, rfl⟩
             have HU : Hid (mayE ⟨ea, el, eb, ed, eh, et⟩ = u) := hu
             cases u
             · have HX : Hid (v = false) := by
                 unfold Hid; rw [HVA.out]
                 have := all_not he hu
                 simpa using this
               clear hok he hu
               go_wp2_with (go_at_call 28; refine (mayEntry_any _ _ _ _ _ _ _ ea0 ea1 HU.out).mono ?_; rintro e W1 ⟨rfl, hb1⟩)
               go_ret
               exact ⟨ret_bool HX.out.symm, stp1 (out8 hB) hb1⟩
             · have HT' : Hid ((es.take (j + 1)).all mayE = true) := all_next he hu HT.out
               clear hok he hu
               go_wp2_with (go_at_call 28; refine (mayEntry_any _ _ _ _ _ _ _ ea0 ea1 HU.out).mono ?_; rintro e W1 ⟨rfl, hb1⟩; have hB1 := (hB.alloc (by simpa using sB) (objE ea el eb ed eh et)).trans (hb1.mono (by simp at sB ⊢; omega)))
               go_roundw
               case rel => exact ⟨j + 1, by omega, by go_num, HT', hB1⟩
               case measure => simp [intOf]; omega)
      · have hlt' : ¬ (j : Int) < (n : Int) := by omega
        obtain rfl : j = n := by omega
        have HX : Hid (v = true) := by unfold Hid; rw [HVA.out]; have := HT.out; rw [show es.take j = es by rw [← HL.out]; exact List.take_length] at this; exact this
        go_wp2
        go_ret
        exact ⟨ret_bool HX.out.symm, out8 hB⟩
end Go.Proofs.Ytnlgdkbpolckcaa
