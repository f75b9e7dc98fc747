/- The contract of Same. -/
import Derived.Test.YtabpillcpnnidaaCon9
namespace Go.Proofs.Ytabpillcpnnidaa
open Go.RowKit

def sameB (c : Int) (wh : Bool) (es : List Ent) (c' : Int) (wh' : Bool) (es' : List Ent) : Bool := decide (c = c' ∧ wh = wh' ∧ es = es')
theorem same_no {c c' : Int} {wh wh' : Bool} {es es' : List Ent} (h : ¬ (c = c' ∧ wh = wh' ∧ es.length = es'.length)) : sameB c wh es c' wh' es' = false := by
  unfold sameB; rw [decide_eq_false_iff_not]; rintro ⟨h1, h2, h3⟩; exact h ⟨h1, h2, by rw [h3]⟩
theorem same_at {c c' : Int} {wh wh' : Bool} {es es' : List Ent} {k : Nat} {e e' : Ent} (h1 : es[k]? = some e) (h2 : es'[k]? = some e') (h : e ≠ e') : sameB c wh es c' wh' es' = false := by
  unfold sameB; rw [decide_eq_false_iff_not]; rintro ⟨_, _, h3⟩; rw [h3, h2] at h1; exact h (Option.some.inj h1).symm
theorem same_yes {c : Int} {wh : Bool} {es es' : List Ent} {n : Nat} (h1 : es.length = n) (h2 : es'.length = n) (h : es.take n = es'.take n) : sameB c wh es c wh es' = true := by
  unfold sameB; rw [decide_eq_true_eq]
  rw [List.take_of_length_le (by omega), List.take_of_length_le (by omega)] at h
  exact ⟨rfl, rfl, h⟩
theorem take_both {es es' : List Ent} {k : Nat} {e : Ent} (h1 : es[k]? = some e) (h2 : es'[k]? = some e) (h : es.take k = es'.take k) : es.take (k + 1) = es'.take (k + 1) := by
  have k1 := (List.getElem?_eq_some_iff.1 h1)
  have k2 := (List.getElem?_eq_some_iff.1 h2)
  obtain ⟨l1, e1⟩ := k1
  obtain ⟨l2, e2⟩ := k2
  rw [List.take_succ_eq_append_getElem l1, List.take_succ_eq_append_getElem l2, h, e1, e2]

set_option maxHeartbeats 1000000 in
theorem same_any (c c' : Int) (wh wh' : Bool) (a a' : Option Addr) (n cap n' cap' : Nat) (es es' : List Ent) (w : World) (hr : RowE w a n es) (hr' : RowE w a' n' es') (hn : n ≤ 100) (hn' : n' ≤ 100) {v : Bool} (hv : sameB c wh es c' wh' es' = v) :
    Calls Try.prog 15 #[.agg #[.int .i64 c, .bool wh, .slice a n cap], .agg #[.int .i64 c', .bool wh', .slice a' n' cap']] w fun e w' => e = .returned (.bool v) ∧ Below w.heap.size w w' := by
  subst hv
  have HL : Hid (es.length = n) := hr.1
  have HL' : Hid (es'.length = n') := hr'.1
  have HR : Hid (RowE w a n es) := hr
  have HR' : Hid (RowE w a' n' es') := hr'
  clear hr hr'
  by_cases hc : c = c'
  · subst hc
    by_cases hw : wh = wh'
    · subst hw
      by_cases hl : n = n'
      · subst hl
        go_enter Try.func15, Try.ntmps15
        go_wp2
        go_loopw [5] (fun i W => ∃ k : Nat, k ≤ n ∧ i = .int .i64 k ∧ Below (w.heap.size + 1 + 1) ((w.alloc (objP c wh a n cap)).alloc (objP c wh a' n cap')) W ∧ Hid (es.take k = es'.take k)) (fun i _ => n - (intOf i).toNat)
        case atStart => exact ⟨0, Nat.zero_le _, rfl, Below.refl _ _, rfl⟩
        case round =>
          obtain ⟨k, hk, rfl, hB, HT⟩ := hrel
          obtain ⟨p0, p1, p2, pz⟩ := ((P3.new w c wh a n cap).later (below1 _ (objP c wh a' n cap'))).later (by simpa using hB)
          obtain ⟨r0, r1, r2, rz⟩ := (P3.new (w.alloc (objP c wh a n cap)) c wh a' n cap').later (by simpa using hB)
          simp only [World.size_alloc] at r0 r1 r2 rz
          have hBw : Below w.heap.size w wr := (below2 w _ _).trans (hB.mono (by omega))
          by_cases hlt : k < n
          · have hlt' : (k : Int) < (n : Int) := by omega
            obtain ⟨⟨ea, el, et, ex, em⟩, b, off, he, hok, rfl, h5⟩ := (HR.out.later hBw).at hlt
            obtain ⟨⟨fa, fl, ft, fx, fm⟩, b', off', he', hok', rfl, h5'⟩ := (HR'.out.later hBw).at hlt
            obtain ⟨d0, d1, d2, d3, d4⟩ := h5
            obtain ⟨f0, f1, f2, f3, f4⟩ := h5'
            simp only at d0 d1 d2 d3 d4 f0 f1 f2 f3 f4
            by_cases heq : (⟨ea, el, et, ex, em⟩ : Ent) = ⟨fa, fl, ft, fx, fm⟩
            · have HT' : Hid (es.take (k + 1) = es'.take (k + 1)) := take_both he (by rw [heq]; exact he') HT.out
              simp only [Ent.mk.injEq] at heq
              obtain ⟨rfl, rfl, rfl, rfl, rfl⟩ := heq
              clear hok hok' he he'
              go_wp2
              go_quiet (fail)
              go_wp2
              go_roundw
              case rel => exact ⟨k + 1, by omega, by go_num, below_drewN hB _, HT'⟩
              case measure => simp [intOf]; omega
            · have HS : Hid (sameB c wh es c wh es' = false) := same_at he he' heq
              have hne : ea ≠ fa ∨ (ea = fa ∧ el ≠ fl) ∨ (ea = fa ∧ el = fl ∧ et ≠ ft) ∨ (ea = fa ∧ el = fl ∧ et = ft ∧ ex ≠ fx) ∨ (ea = fa ∧ el = fl ∧ et = ft ∧ ex = fx ∧ em ≠ fm) := by
                simp only [Ent.mk.injEq, not_and] at heq
                by_cases h1 : ea = fa
                · by_cases h2 : el = fl
                  · by_cases h3 : et = ft
                    · by_cases h4 : ex = fx
                      · exact .inr (.inr (.inr (.inr ⟨h1, h2, h3, h4, heq h1 h2 h3 h4⟩)))
                      · exact .inr (.inr (.inr (.inl ⟨h1, h2, h3, h4⟩)))
                    · exact .inr (.inr (.inl ⟨h1, h2, h3⟩))
                  · exact .inr (.inl ⟨h1, h2⟩)
                · exact .inl h1
              clear hok hok' he he' heq
              rcases hne with h | ⟨rfl, h⟩ | ⟨rfl, rfl, h⟩ | ⟨rfl, rfl, rfl, h⟩ | ⟨rfl, rfl, rfl, rfl, h⟩
              all_goals
                have hd := beq_eq_false_iff_ne.2 h
                clear h
                go_wp2
                go_quiet (fail)
                go_wp2
                go_ret
                exact ⟨ret_bool HS.out.symm, below_drewN hBw _⟩
          · obtain rfl : k = n := by omega
            have HS : Hid (sameB c wh es c wh es' = true) := same_yes HL.out HL'.out HT.out
            go_wp2
            go_ret
            exact ⟨ret_bool HS.out.symm, hBw⟩
      · have HS : Hid (sameB c wh es c wh es' = false) := same_no (fun h => hl (by rw [← HL.out, ← HL'.out]; exact h.2.2))
        have e1 : ((n : Int) != (n' : Int)) = true := by rw [bne_iff_ne]; omega
        clear hl
        go_enter Try.func15, Try.ntmps15
        go_wp2
        go_ret
        exact ⟨ret_bool HS.out.symm, below2 _ _ _⟩
    · have HS : Hid (sameB c wh es c wh' es' = false) := same_no (fun h => hw h.2.1)
      have hw' : wh = !wh' := by cases wh <;> cases wh' <;> simp at hw ⊢
      subst hw'
      clear hw
      cases wh'
      all_goals
        go_enter Try.func15, Try.ntmps15
        go_wp2
        go_ret
        exact ⟨ret_bool HS.out.symm, below2 _ _ _⟩
  · have HS : Hid (sameB c wh es c' wh' es' = false) := same_no (fun h => hc h.1)
    have e1 : (c != c') = true := by rw [bne_iff_ne]; exact hc
    clear hc
    go_enter Try.func15, Try.ntmps15
    go_wp2
    go_ret
    exact ⟨ret_bool HS.out.symm, below2 _ _ _⟩
end Go.Proofs.Ytabpillcpnnidaa
