/- The walk of the law MetricBest. -/
import Derived.Test.YtienmcfmaegenaaMatb
namespace Go.Proofs.Ytienmcfmaegenaa
open Go.RowKit

set_option maxHeartbeats 1000000 in
theorem law_best (b d h b' d' h' b'' d'' h'' : Int) (w : World) :
    Calls Try.prog 8 #[.agg #[.int .i64 b, .int .i64 d, .int .i64 h], .agg #[.int .i64 b', .int .i64 d', .int .i64 h'], .agg #[.int .i64 b'', .int .i64 d'', .int .i64 h'']] w fun e w' => e = .returned (.bool true) ∧ Below w.heap.size w w' := by
  have f0 := better_self b d h
  have hc : (betterB b d h b' d' h' = false) ∨ (betterB b d h b' d' h' = true ∧ betterB b' d' h' b d h = false ∧ betterB b' d' h' b'' d'' h'' = false) ∨
      (betterB b d h b' d' h' = true ∧ betterB b' d' h' b d h = false ∧ betterB b' d' h' b'' d'' h'' = true ∧ betterB b d h b'' d'' h'' = true) := by
    cases e : betterB b d h b' d' h'
    · exact .inl rfl
    · refine .inr ?_
      cases e' : betterB b' d' h' b'' d'' h''
      · exact .inl ⟨rfl, better_anti e, rfl⟩
      · exact .inr ⟨rfl, better_anti e, rfl, better_trans e e'⟩
  rcases hc with f1 | ⟨f1, f2, f3⟩ | ⟨f1, f2, f3, f4⟩
  all_goals
    go_enter Try.func8, Try.ntmps8
    go_wp2_with (first
      | (go_at_call 11; refine (awake_any _).mono ?_; rintro e w1 ⟨rfl, hb⟩; obtain ⟨⟨c0, c1, c2, z0⟩, ⟨c3, c4, c5, z1⟩, ⟨c6, c7, c8, z2⟩⟩ := box3 hb; have hB := Below.out3 hb; clear hb)
      | (go_at_call 20; refine (better_any _ _ _ _ _ _ _ rfl).mono ?_; rintro e w2 ⟨rfl, hb⟩; obtain ⟨c0, c1, c2, z0⟩ := later3 ⟨c0, c1, c2, z0⟩ hb; obtain ⟨c3, c4, c5, z1⟩ := later3 ⟨c3, c4, c5, z1⟩ hb; obtain ⟨c6, c7, c8, z2⟩ := later3 ⟨c6, c7, c8, z2⟩ hb; have hB := stp hB hb; clear hb))
    go_ret
    exact ⟨rfl, hB⟩
end Go.Proofs.Ytienmcfmaegenaa
