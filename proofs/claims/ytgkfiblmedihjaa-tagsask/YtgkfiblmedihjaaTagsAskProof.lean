/- For every two tags and every int the law octroilaw03.TagsAsk answers true: what any tag has, how many, and whether it has all of another one, is what the document says. No condition. -/
import Derived.Test.YtgkfiblmedihjaaRows
import Derived.Test.YtgkfiblmedihjaaCond
import Derived.Deep.RegionWith
import Derived.WalkKit
import Derived.ProofKit
import Derived.OpenShut
import Derived.ShutString
import Derived.ChangeOld
import Derived.Below
namespace Go.Proofs.Ytgkfiblmedihjaa.tagsAsk
open Go.ChangeShapes Go.WideShapes Go.ChangeAt Go.RowKit
open Go.ChangeMaps (open_string shut_string)
set_option linter.unusedVariables false      -- a walk need not use every 'w<i>' (that an integer argument fits its kind)

theorem own : ownKnob Try.prog.godebug = none := by kernel_rfl



/-! ### STEP 1: THE WALK: the Go text returns true. 'Grown w w'': the world has at most new blocks (Derived/RowKit3.lean). Part the cases AHEAD of 'go_enter' where a test parts the walk; take each callee by a contract of your own. -/
theorem walk (a0 : Int) (a1 : Int) (a2 : Int) (w0 : (Lit.int .u16 a0).wf = true) (w1 : (Lit.int .u16 a1).wf = true) (w2 : (Lit.int .i64 a2).wf = true) (w : World) :
    Calls Try.prog 3 #[.int .u16 a0, .int .u16 a1, .int .i64 a2] w fun e w' => e = .returned (.bool true) ∧ Below w.heap.size w w' := by
  have b0 := bounds_u16 w0
  obtain ⟨t, rfl⟩ := Int.eq_ofNat_of_zero_le b0.1
  have ht : t < 65536 := by omega
  clear w0 b0
  have b1 := bounds_u16 w1
  obtain ⟨o, rfl⟩ := Int.eq_ofNat_of_zero_le b1.1
  have ho : o < 65536 := by omega
  clear w1 b1
  clear w2
  have hd := dep_le t
  go_enter Try.func3, Try.ntmps3
  go_wp2_with (first
    | (go_at_call 10; refine (awake_any _).mono ?_; rintro e w' ⟨rfl, rfl⟩)
    | (go_at_call 12; refine (all_any t _ ht).mono ?_; rintro e w1 ⟨a1, c1, rfl, own1, hb1⟩)
    | (go_at_call 13; refine (refAll_any t _ ht).mono ?_; rintro e w2 ⟨a2, c2, rfl, own2, hb2⟩)
    | (go_at_call 11; refine (same_any _ _ _ _ _ _ _ ((own1.row (by omega)).later hb2) (own2.row (by omega))).mono ?_; rintro e w3 ⟨rfl, hb3⟩)
    | (go_at_call 14; refine (has_any _ _ _ (by assumption) rfl).mono ?_; rintro e w' ⟨rfl, rfl⟩)
    | (go_at_call 15; refine (refHas_any _ _ _ (by assumption) rfl).mono ?_; rintro e w' ⟨rfl, rfl⟩)
    | (go_at_call 16; refine (depth_any _ _ (by assumption)).mono ?_; rintro e w' ⟨rfl, rfl⟩)
    | (go_at_call 17; refine (refDepth_any _ _ (by assumption)).mono ?_; rintro e w' ⟨rfl, rfl⟩)
    | (go_at_call 18; refine (within_any _ _ _ (by assumption) (by assumption) rfl).mono ?_; rintro e w' ⟨rfl, rfl⟩)
    | (go_at_call 19; refine (refWithin_any _ _ _ (by assumption) (by assumption) rfl).mono ?_; rintro e w' ⟨rfl, rfl⟩))
  go_ret
  have k1 := (below_ups w).trans (hb1.mono (by rw [size_ups]; omega))
  have k2 := k1.trans (hb2.mono k1.size)
  exact ⟨rfl, k2.trans (hb3.mono k2.size)⟩

/-! ### THE ROW's STEP: WRITTEN OUT: LEAVE IT -/
set_option maxRecDepth 100000 in
theorem lifted (os : Os) (started : os.Started) (H : Type) (enc : TypeId × Value → H) :
    ReturnsInHanded {} Try.checked os 3 .any (Rows.tagsAskSpec.pre6 enc Try.prog Try.f3 Rows.tagsAskRow.domain false) (Rows.tagsAskSpec.post enc Try.prog Try.f3 false true false false) := by
  refine returnsInHanded_of_change (C := Try.checked) own started (by kernel_rfl) Try.func3
    (ChangeSpec.witness6 (enc := enc) (C := Try.checked) false ⟨#[], #[.int .u16 0, .int .u16 0, .int .i64 0], []⟩ 8 (by kernel_rfl) (by kernel_rfl) (by kernel_rfl) (by kernel_rfl)) ?_
  intro W base args ds gs before hval0 hW hcnd _
  have hval : ∀ (j : Nat) t v, Try.f3.params[j]? = some t → args[j]? = some v → Value.okWide Try.prog W .any base t v := hval0
  have hW' := hW
  obtain ⟨p, q, hA0, hV, rfl, hfz, hnd⟩ := hW
  have hA : DataW.TrodAll enc Try.prog W 0 (fun _ => true) true Try.f3.params.toList args.toList ds p := hA0
  rw [Try.params3] at hA hval
  obtain ⟨v0, vs0, d0, ds0, p0, q0, hargs, rfl, rfl, h0, r0⟩ := trodAll_cons hA
  obtain ⟨v1, vs1, d1, ds1, p1, q1, rfl, rfl, rfl, h1, r1⟩ := trodAll_cons r0
  obtain ⟨v2, vs2, d2, ds2, p2, q2, rfl, rfl, rfl, h2, r2⟩ := trodAll_cons r1
  obtain ⟨rfl, rfl, rfl⟩ := trodAll_nil r2
  obtain rfl : args = #[v0, v1, v2] := by cases args; simp_all
  obtain ⟨rfl, rfl⟩ := trodVars_none hV
  obtain ⟨a0, rfl, rfl, rfl, w0⟩ := open_int Try.underlying22 (hval 0 22 v0 rfl rfl) h0
  obtain ⟨a1, rfl, rfl, rfl, w1⟩ := open_int Try.underlying22 (hval 1 22 v1 rfl rfl) h1
  obtain ⟨a2, rfl, rfl, rfl, w2⟩ := open_int Try.underlying3 (hval 2 3 v2 rfl rfl) h2
  clear hA0 hval0
  simp only [List.append_nil] at hW'
  refine (walk a0 a1 a2 w0 w1 w2 W).mono fun e W' ⟨he, bel⟩ => ?_
  subst he
  exact ⟨_, rfl, _, _, _, [], _, [], hW', trodAll_mk1 (shut_bool Try.underlying4 _), (trodAll_cons_mk (shut_int Try.underlying22 w0) (trodAll_cons_mk (shut_int Try.underlying22 w1) (trodAll_cons_mk (shut_int Try.underlying3 w2) trodAll_mk0))), rfl, bel.frame _, fun h => by cases h⟩

theorem over : Rows.tagsAskRow.holds Try.pinned (OpenSpec.ofChange Rows.tagsAskSpec) :=
  OpenClaim.holds_of_wide 3 Try.f3 rfl rfl rfl rfl rfl rfl rfl ⟨rfl, rfl, rfl, rfl, rfl⟩ rfl rfl rfl rfl rfl (by kernel_rfl) Try.func3 (by kernel_rfl)
    (of_decide_eq_true (by kernel_rfl)) (by unfold Func.isWrapper; first | (rw [if_pos (by decide +kernel)]; kernel_rfl) | (rw [if_neg (by decide +kernel)]; exact ⟨rfl, rfl⟩))
    (fun os started H enc _ => lifted os started H enc)

/-- ████ THE STATEMENT ████ -/
theorem proved : Rows.TagsAskSaid :=
  over
end Go.Proofs.Ytgkfiblmedihjaa.tagsAsk

namespace Go.Proofs.Ytgkfiblmedihjaa
/-- The given statement. -/
theorem tagsAsk_holds : Rows.TagsAskSaid := tagsAsk.proved
#print axioms tagsAsk_holds
end Go.Proofs.Ytgkfiblmedihjaa
