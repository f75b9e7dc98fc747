/- For every three tags the law octroilaw03.TagsWithin answers true: what has all of another one has at least as much; of two that have each other all is one; and so over three. No condition. -/
import Derived.Test.YtgkfiblmedihjaaRows
import Derived.Test.YtgkfiblmedihjaaConc
import Derived.Deep.RegionWith
import Derived.WalkKit
import Derived.ProofKit
import Derived.OpenShut
import Derived.ShutString
namespace Go.Proofs.Ytgkfiblmedihjaa.tagsWithin
open Go.ChangeShapes Go.WideShapes Go.ChangeAt Go.RowKit
open Go.ChangeMaps (open_string shut_string)
set_option linter.unusedVariables false      -- a walk need not use every 'w<i>' (that an integer argument fits its kind)

theorem own : ownKnob Try.prog.godebug = none := by kernel_rfl



/-! ### STEP 1: THE WALK: the Go text returns true. 'Grown w w'': the world has at most new blocks (Derived/RowKit3.lean). Part the cases AHEAD of 'go_enter' where a test parts the walk; take each callee by a contract of your own. -/
theorem walk (a0 : Int) (a1 : Int) (a2 : Int) (w0 : (Lit.int .u16 a0).wf = true) (w1 : (Lit.int .u16 a1).wf = true) (w2 : (Lit.int .u16 a2).wf = true) (w : World) :
    Calls Try.prog 8 #[.int .u16 a0, .int .u16 a1, .int .u16 a2] w fun e w' => e = .returned (.bool true) ∧ Grown w w' := by
  have b0 := bounds_u16 w0
  obtain ⟨x, rfl⟩ := Int.eq_ofNat_of_zero_le b0.1
  have hx : x < 65536 := by omega
  clear w0 b0
  have b1 := bounds_u16 w1
  obtain ⟨y, rfl⟩ := Int.eq_ofNat_of_zero_le b1.1
  have hy : y < 65536 := by omega
  clear w1 b1
  have b2 := bounds_u16 w2
  obtain ⟨z, rfl⟩ := Int.eq_ofNat_of_zero_le b2.1
  have hz : z < 65536 := by omega
  clear w2 b2
  have ho := u16_or_nat x y hx hy
  have ha := u16_and_nat x y hx hy
  have ho2 := or_lt hx hy
  have ha2 : x &&& y < 65536 := and_lt hx
  have f1 := wit_or hx hy
  have f2 := wit_and (b := y) hx
  have f3 := wit_zero hx
  have d1 := dep_le x
  have d2 := dep_le y
  generalize x ||| y = o at *
  generalize x &&& y = n at *
  have hz0 : 0 < 65536 := by omega
  cases g1 : wit x y
  case false =>
    go_enter Try.func8, Try.ntmps8
    go_wp2_with (first
      | (go_at_call 10; refine (awake_any _).mono ?_; rintro e w' ⟨rfl, rfl⟩)
      | (go_at_call_of 18 (Value.int IntKind.u16 0); refine (within_any 0 _ _ (by omega) hx f3).mono ?_; rintro e w' ⟨rfl, rfl⟩)
      | (go_at_call 18; refine (within_any _ _ _ (by assumption) (by assumption) rfl).mono ?_; rintro e w' ⟨rfl, rfl⟩))
    go_ret
    exact ⟨rfl, grown_ups _⟩
  case true =>
    have g2 : ¬ ((dep y : Int) < (dep x : Int)) := by have := wit_dep hx hy g1; omega
    have g3 : wit y z = false ∨ (wit y z = true ∧ wit x z = true) := by
      cases e : wit y z
      · exact .inl rfl
      · exact .inr ⟨rfl, wit_trans hx hy hz g1 e⟩
    have g4 : wit y x = false ∨ (wit y x = true ∧ ((x : Int) != (y : Int)) = false) := by
      cases e : wit y x
      · exact .inl rfl
      · exact .inr ⟨rfl, by rw [wit_anti hx hy g1 e]; simp⟩
    rcases g3 with g3 | ⟨g3, g3'⟩ <;> rcases g4 with g4 | ⟨g4, g4'⟩
    all_goals
      go_enter Try.func8, Try.ntmps8
      go_wp2_with (first
        | (go_at_call 10; refine (awake_any _).mono ?_; rintro e w' ⟨rfl, rfl⟩)
        | (go_at_call 16; refine (depth_any _ _ (by assumption)).mono ?_; rintro e w' ⟨rfl, rfl⟩)
        | (go_at_call_of 18 (Value.int IntKind.u16 0); refine (within_any 0 _ _ (by omega) hx f3).mono ?_; rintro e w' ⟨rfl, rfl⟩)
        | (go_at_call 18; refine (within_any _ _ _ (by assumption) (by assumption) rfl).mono ?_; rintro e w' ⟨rfl, rfl⟩))
      go_ret
      exact ⟨rfl, grown_ups _⟩

/-! ### THE ROW's STEP: WRITTEN OUT: LEAVE IT -/
set_option maxRecDepth 100000 in
theorem lifted (os : Os) (started : os.Started) (H : Type) (enc : TypeId × Value → H) :
    ReturnsInHanded {} Try.checked os 8 .any (Rows.tagsWithinSpec.pre6 enc Try.prog Try.f8 Rows.tagsWithinRow.domain false) (Rows.tagsWithinSpec.post enc Try.prog Try.f8 false true false false) := by
  refine returnsInHanded_of_change (C := Try.checked) own started (by kernel_rfl) Try.func8
    (ChangeSpec.witness6 (enc := enc) (C := Try.checked) false ⟨#[], #[.int .u16 0, .int .u16 0, .int .u16 0], []⟩ 8 (by kernel_rfl) (by kernel_rfl) (by kernel_rfl) (by kernel_rfl)) ?_
  intro W base args ds gs before hval0 hW hcnd _
  have hval : ∀ (j : Nat) t v, Try.f8.params[j]? = some t → args[j]? = some v → Value.okWide Try.prog W .any base t v := hval0
  have hW' := hW
  obtain ⟨p, q, hA0, hV, rfl, hfz, hnd⟩ := hW
  have hA : DataW.TrodAll enc Try.prog W 0 (fun _ => true) true Try.f8.params.toList args.toList ds p := hA0
  rw [Try.params8] at hA hval
  obtain ⟨v0, vs0, d0, ds0, p0, q0, hargs, rfl, rfl, h0, r0⟩ := trodAll_cons hA
  obtain ⟨v1, vs1, d1, ds1, p1, q1, rfl, rfl, rfl, h1, r1⟩ := trodAll_cons r0
  obtain ⟨v2, vs2, d2, ds2, p2, q2, rfl, rfl, rfl, h2, r2⟩ := trodAll_cons r1
  obtain ⟨rfl, rfl, rfl⟩ := trodAll_nil r2
  obtain rfl : args = #[v0, v1, v2] := by cases args; simp_all
  obtain ⟨rfl, rfl⟩ := trodVars_none hV
  obtain ⟨a0, rfl, rfl, rfl, w0⟩ := open_int Try.underlying22 (hval 0 22 v0 rfl rfl) h0
  obtain ⟨a1, rfl, rfl, rfl, w1⟩ := open_int Try.underlying22 (hval 1 22 v1 rfl rfl) h1
  obtain ⟨a2, rfl, rfl, rfl, w2⟩ := open_int Try.underlying22 (hval 2 22 v2 rfl rfl) h2
  clear hA0 hval0
  simp only [List.append_nil] at hW'
  refine (walk a0 a1 a2 w0 w1 w2 W).mono fun e W' ⟨he, hg⟩ => ?_
  subst he
  exact ⟨_, rfl, post_of_same (pa := []) (pv := []) hW' (fun _ _ _ => (trodAll_cons_mk (shut_bool Try.underlying4 _) trodAll_mk0)) (fun sp _ => (trodAll_cons_mk (shut_int Try.underlying22 w0) (trodAll_cons_mk (shut_int Try.underlying22 w1) (trodAll_cons_mk (shut_int Try.underlying22 w2) trodAll_mk0)))) (fun _ _ => rfl) rfl
    (hg.frame _) hg.2.1 (ok_one (by kernel_rfl) rfl (okWide_bool_mk Try.underlying4 _))⟩

theorem over : Rows.tagsWithinRow.holds Try.pinned (OpenSpec.ofChange Rows.tagsWithinSpec) :=
  OpenClaim.holds_of_wide 8 Try.f8 rfl rfl rfl rfl rfl rfl rfl ⟨rfl, rfl, rfl, rfl, rfl⟩ rfl rfl rfl rfl rfl (by kernel_rfl) Try.func8 (by kernel_rfl)
    (of_decide_eq_true (by kernel_rfl)) (by unfold Func.isWrapper; first | (rw [if_pos (by decide +kernel)]; kernel_rfl) | (rw [if_neg (by decide +kernel)]; exact ⟨rfl, rfl⟩))
    (fun os started H enc _ => lifted os started H enc)

/-- ████ THE STATEMENT ████ -/
theorem proved : Rows.TagsWithinSaid :=
  over
end Go.Proofs.Ytgkfiblmedihjaa.tagsWithin

namespace Go.Proofs.Ytgkfiblmedihjaa
/-- The given statement. -/
theorem tagsWithin_holds : Rows.TagsWithinSaid := tagsWithin.proved
#print axioms tagsWithin_holds
end Go.Proofs.Ytgkfiblmedihjaa
