/- The document's Same. -/
import Derived.Test.YtnlgdkbpolckcaaRefD
namespace Go.Proofs.Ytnlgdkbpolckcaa
open Go.RowKit

theorem same_len {p q : Pk} (h : p.es.length ≠ q.es.length) : decide (p = q) = false := by rw [decide_eq_false_iff_not]; rintro rfl; exact h rfl
theorem same_at {p q : Pk} {k : Nat} {e e' : Ent} (h1 : p.es[k]? = some e) (h2 : q.es[k]? = some e') (h : e ≠ e') : decide (p = q) = false := by
  rw [decide_eq_false_iff_not]; rintro rfl; rw [h1] at h2; exact h (Option.some.inj h2)
theorem take_both {es es' : List Ent} {k : Nat} {e : Ent} (h1 : es[k]? = some e) (h2 : es'[k]? = some e) (h : es.take k = es'.take k) : es.take (k + 1) = es'.take (k + 1) := by rw [take_next h1, take_next h2, h]
theorem below_n (N : Nat) (w : World) {n : Nat} : Below N w (w.drewN n) := below_drewN (Below.refl _ _) n
set_option maxHeartbeats 2000000 in
theorem refSame_any (c c' : Int) (i i' : Bool) (s s' k k' : Int) (a a' : Option Addr) (n cap n' cap' : Nat) (es es' : List Ent) (w : World) (hr : RowE w a n es) (hr' : RowE w a' n' es') (hn : n ≤ 200) (hn' : n' ≤ 200) {v : Bool} (hv : decide ((⟨c, i, s, k, es⟩ : Pk) = ⟨c', i', s', k', es'⟩) = v) :
    Calls Try.prog 14 #[valP c i s k a n cap, valP c' i' s' k' a' n' cap'] w fun e w' => e = .returned (.bool v) ∧ Below w.heap.size w w' := by
  have HV : Hid (decide ((⟨c, i, s, k, es⟩ : Pk) = ⟨c', i', s', k', es'⟩) = v) := hv
  have HL : Hid (es.length = n) := hr.1
  have HL' : Hid (es'.length = n') := hr'.1
  have HR : Hid (RowE w a n es) := hr
  have HR' : Hid (RowE w a' n' es') := hr'
  clear hr hr' hv
  by_cases hc : c = c'
  case neg =>
    obtain rfl : false = v := by rw [← HV.out, eq_comm, decide_eq_false_iff_not]; intro h; exact hc (congrArg Pk.c h)
    have e1 : (c != c') = true := by rw [bne_iff_ne]; exact hc
    clear hc
    go_enter Try.func14, Try.ntmps14
    go_wp2
    go_ret
    exact ⟨rfl, below2 _ _ _⟩
  subst hc
  by_cases hi : i = i'
  case neg =>
    obtain rfl : false = v := by rw [← HV.out, eq_comm, decide_eq_false_iff_not]; intro h; exact hi (congrArg Pk.i h)
    have hw' : i = !i' := by cases i <;> cases i' <;> simp at hi ⊢
    subst hw'
    clear hi
    cases i'
    all_goals
      go_enter Try.func14, Try.ntmps14
      go_wp2
      go_ret
      exact ⟨rfl, below2 _ _ _⟩
  subst hi
  by_cases hs : s = s'
  case neg =>
    obtain rfl : false = v := by rw [← HV.out, eq_comm, decide_eq_false_iff_not]; intro h; exact hs (congrArg Pk.s h)
    have e1 : (s != s') = true := by rw [bne_iff_ne]; exact hs
    clear hs
    go_enter Try.func14, Try.ntmps14
    go_wp2
    go_ret
    exact ⟨rfl, below2 _ _ _⟩
  subst hs
  by_cases hk : k = k'
  case neg =>
    obtain rfl : false = v := by rw [← HV.out, eq_comm, decide_eq_false_iff_not]; intro h; exact hk (congrArg Pk.k h)
    have e1 : (k != k') = true := by rw [bne_iff_ne]; exact hk
    clear hk
    go_enter Try.func14, Try.ntmps14
    go_wp2
    go_ret
    exact ⟨rfl, below2 _ _ _⟩
  subst hk
  by_cases hl : n = n'
  case neg =>
    obtain rfl : false = v := by rw [← HV.out]; exact (same_len (by simp only; rw [HL.out, HL'.out]; exact hl)).symm
    have e1 : ((n : Int) != (n' : Int)) = true := by rw [bne_iff_ne]; omega
    clear hl
    go_enter Try.func14, Try.ntmps14
    go_wp2
    go_ret
    exact ⟨rfl, below2 _ _ _⟩
  subst hl
  go_enter Try.func14, Try.ntmps14
  go_wp2
  go_loopw [5] (fun i_ W => ∃ j : Nat, j ≤ n ∧ i_ = .int .i64 j ∧ Below (w.heap.size + 1 + 1) ((w.alloc (objP c i s k a n cap)).alloc (objP c i s k a' n cap')) W ∧ Hid (es.take j = es'.take j)) (fun i_ _ => n - (intOf i_).toNat)
  case atStart => exact ⟨0, Nat.zero_le _, rfl, Below.refl _ _, rfl⟩
  case round =>
    obtain ⟨j, hj, rfl, hB, HT⟩ := hrel
    obtain ⟨p0, p1, p2, p3, p4, pz⟩ := ((P5.new w c i s k a n cap).later (below1 _ (objP c i s k a' n cap'))).later (by simpa using hB)
    obtain ⟨r0, r1, r2, r3, r4, rz⟩ := (P5.new (w.alloc (objP c i s k a n cap)) c i s k a' n cap').later (by simpa using hB)
    simp only [World.size_alloc] at r0 r1 r2 r3 r4 rz
    have hBw : Below w.heap.size w wr := (below2 w _ _).trans (hB.mono (by omega))
    by_cases hlt : j < n
    · have hlt' : (j : Int) < (n : Int) := by omega
      obtain ⟨⟨ea, el, eb, ed, eh, et⟩, b, off, he, hok, rfl, h5⟩ := (HR.out.later hBw).at hlt
      obtain ⟨⟨fa, fl, fb, fd, fh, ft⟩, b', off', he', hok', rfl, h5'⟩ := (HR'.out.later hBw).at hlt
      obtain ⟨d0, d1, d2, d3, d4, d5⟩ := h5
      obtain ⟨f0, f1, f2, f3, f4, f5⟩ := h5'
      simp only at d0 d1 d2 d3 d4 d5 f0 f1 f2 f3 f4 f5
      by_cases heq : (⟨ea, el, eb, ed, eh, et⟩ : Ent) = ⟨fa, fl, fb, fd, fh, ft⟩
      · have HT' : Hid (es.take (j + 1) = es'.take (j + 1)) := take_both he (by rw [heq]; exact he') HT.out
        simp only [Ent.mk.injEq] at heq
        obtain ⟨rfl, rfl, rfl, rfl, rfl, rfl⟩ := heq
        clear hok hok' he he'
        go_wp2
        go_quiet (fail)
        go_wp2
        go_roundw
        case rel => exact ⟨j + 1, by omega, by go_num, below_drewN hB _, HT'⟩
        case measure => simp [intOf]; omega
      · obtain rfl : false = v := by rw [← HV.out]; exact (same_at (p := ⟨c, i, s, k, es⟩) (q := ⟨c, i, s, k, es'⟩) he he' heq).symm
        have hne : ea ≠ fa ∨ (ea = fa ∧ el ≠ fl) ∨ (ea = fa ∧ el = fl ∧ eb ≠ fb) ∨ (ea = fa ∧ el = fl ∧ eb = fb ∧ ed ≠ fd) ∨ (ea = fa ∧ el = fl ∧ eb = fb ∧ ed = fd ∧ eh ≠ fh) ∨ (ea = fa ∧ el = fl ∧ eb = fb ∧ ed = fd ∧ eh = fh ∧ et ≠ ft) := by
          simp only [Ent.mk.injEq, not_and] at heq
          by_cases h1 : ea = fa
          · by_cases h2 : el = fl
            · by_cases h3 : eb = fb
              · by_cases h4 : ed = fd
                · by_cases h5 : eh = fh
                  · exact .inr (.inr (.inr (.inr (.inr ⟨h1, h2, h3, h4, h5, heq h1 h2 h3 h4 h5⟩))))
                  · exact .inr (.inr (.inr (.inr (.inl ⟨h1, h2, h3, h4, h5⟩))))
                · exact .inr (.inr (.inr (.inl ⟨h1, h2, h3, h4⟩)))
              · exact .inr (.inr (.inl ⟨h1, h2, h3⟩))
            · exact .inr (.inl ⟨h1, h2⟩)
          · exact .inl h1
        clear hok hok' he he' heq
        rcases hne with h | ⟨rfl, h⟩ | ⟨rfl, rfl, h⟩ | ⟨rfl, rfl, rfl, h⟩ | ⟨rfl, rfl, rfl, rfl, h⟩ | ⟨rfl, rfl, rfl, rfl, rfl, h⟩
        all_goals
          have hd := beq_eq_false_iff_ne.2 h
          clear h
          go_wp2
          go_quiet (fail)
          go_wp2
          go_ret
          exact ⟨rfl, below_drewN hBw _⟩
    · obtain rfl : j = n := by omega
      have hlt' : ¬ (j : Int) < (j : Int) := by omega
      obtain rfl : true = v := by
        rw [← HV.out, eq_comm, decide_eq_true_eq]
        have := HT.out
        rw [List.take_of_length_le (by rw [HL.out]; omega), List.take_of_length_le (by rw [HL'.out]; omega)] at this
        rw [this]
      go_wp2
      go_ret
      exact ⟨rfl, hBw⟩
end Go.Proofs.Ytnlgdkbpolckcaa
