/- The contracts of the document's New and Same; routes compared. -/
import Derived.Test.YtcabeclbdjfoaaaRibF
namespace Go.Proofs.Ytcabeclbdjfoaaa
open Go.RowKit

theorem eqR_iff {a l d s m n t a' l' d' s' m' n' t' : Int} : ((⟨a, l, d, s, m, n, t⟩ : Rt) = ⟨a', l', d', s', m', n', t'⟩) ↔ a = a' ∧ l = l' ∧ d = d' ∧ s = s' ∧ m = m' ∧ n = n' ∧ t = t' := by simp
set_option maxHeartbeats 1000000 in
theorem run_eqR (x y : Rt) (v : Bool) (h : decide (x = y) = v) (W : World) : Sem.run Try.prog (binOp .eql 27 (valR x.a x.l x.d x.s x.m x.n x.t) (valR y.a y.l y.d y.s y.m y.n y.t)) W = .ok (.bool v) W := by
  obtain ⟨a, l, d, s, m, n, t⟩ := x
  obtain ⟨a', l', d', s', m', n', t'⟩ := y
  subst h
  by_cases h1 : a = a'
  · subst h1
    by_cases h2 : l = l'
    · subst h2
      by_cases h3 : d = d'
      · subst h3
        by_cases h4 : s = s'
        · subst h4
          by_cases h5 : m = m'
          · subst h5
            by_cases h6 : n = n'
            · subst h6
              by_cases h7 : t = t'
              · subst h7; go_simp
              · have e : (t == t') = false := beq_eq_false_iff_ne.2 h7
                go_simp
            · have e : (n == n') = false := beq_eq_false_iff_ne.2 h6
              go_simp
          · have e : (m == m') = false := beq_eq_false_iff_ne.2 h5
            go_simp
        · have e : (s == s') = false := beq_eq_false_iff_ne.2 h4
          go_simp
      · have e : (d == d') = false := beq_eq_false_iff_ne.2 h3
        go_simp
    · have e : (l == l') = false := beq_eq_false_iff_ne.2 h2
      go_simp
  · have e : (a == a') = false := beq_eq_false_iff_ne.2 h1
    go_simp
end Go.Proofs.Ytcabeclbdjfoaaa
