/- For every tag and every two ints the law octroilaw03.TagsGrow answers true: a tag with a domain more has that, and all that it had, and is one deeper; with it once more it is refused. No condition. -/
import Derived.Test.YtgkfiblmedihjaaRows
import Derived.Test.YtgkfiblmedihjaaConc
import Derived.Deep.RegionWith
import Derived.WalkKit
import Derived.ProofKit
import Derived.OpenShut
import Derived.ShutString
namespace Go.Proofs.Ytgkfiblmedihjaa.tagsGrow
open Go.ChangeShapes Go.WideShapes Go.ChangeAt Go.RowKit
open Go.ChangeMaps (open_string shut_string)
set_option linter.unusedVariables false      -- a walk need not use every 'w<i>' (that an integer argument fits its kind)

theorem own : ownKnob Try.prog.godebug = none := by kernel_rfl



/-! ### STEP 1: THE WALK: the Go text returns true. 'Grown w w'': the world has at most new blocks (Derived/RowKit3.lean). Part the cases AHEAD of 'go_enter' where a test parts the walk; take each callee by a contract of your own. -/
theorem walk (a0 : Int) (a1 : Int) (a2 : Int) (w0 : (Lit.int .u16 a0).wf = true) (w1 : (Lit.int .i64 a1).wf = true) (w2 : (Lit.int .i64 a2).wf = true) (w : World) :
    Calls Try.prog 6 #[.int .u16 a0, .int .i64 a1, .int .i64 a2] w fun e w' => e = .returned (.bool true) ∧ Grown w w' := by
  have b0 := bounds_u16 w0
  obtain ⟨t, rfl⟩ := Int.eq_ofNat_of_zero_le b0.1
  have ht : t < 65536 := by omega
  clear w0 b0
  clear w1 w2
  cases hd : domB a1
  · have e0 : addT t a1 = 0 := by simp [addT, hd]
    have e1 : addE t a1 = 1 := by simp [addE, hd]
    have h0 : hasB t a1 = false := by simp [hasB, hd]
    have hcase : a1 < 0 ∨ (¬ a1 < 0 ∧ 16 ≤ a1) := by
      have := hd
      simp [domB] at this
      omega
    rcases hcase with hc | ⟨hc, hc2⟩
    all_goals
      go_enter Try.func6, Try.ntmps6
      go_wp2_with (first
        | (go_at_call 10; refine (awake_any _).mono ?_; rintro e w' ⟨rfl, rfl⟩)
        | (go_at_call 20; refine (add_any t a1 _ ht e0 e1).mono ?_; rintro e w' ⟨rfl, rfl⟩)
        | (go_at_call 14; refine (has_any _ _ _ (by assumption) rfl).mono ?_; rintro e w' ⟨rfl, rfl⟩))
      go_ret
      exact ⟨rfl, grown_ups _⟩
  · have h01 := domB_iff.1 hd
    obtain ⟨n, rfl⟩ := Int.eq_ofNat_of_zero_le h01.1
    have hn : n < 16 := by omega
    clear h01
    cases hb : t.testBit n
    · obtain ⟨e1, e0⟩ := addE_ok (t := t) hd (by simpa using hb)
      simp only [Int.toNat_natCast] at e0
      have hp := pow_bd hn
      have hx := or_lt (b := 2 ^ n) ht (by omega)
      have k0 : (t ||| 2 ^ n).testBit n = true := grow_has
      have e2 : addT (t ||| 2 ^ n) (n : Int) = 0 := by simp [addT]
      have e3 : addE (t ||| 2 ^ n) (n : Int) = 6 := by simp [addE, hd]
      have f1 : hasB (t ||| 2 ^ n) (n : Int) = true := by simp [hasB, hd]
      have f2 := wit_or (a := t) (b := 2 ^ n) ht (by omega)
      have f3 := grow_not ht hn hb
      have f4 := dep_add hb hn
      have f5 := fun h => grow_other (t := t) (n := n) a2 h
      have d1 := dep_le t
      generalize t ||| 2 ^ n = x at *
      have f6 : ((dep x : Int) == (dep t : Int) + 1) = true := by rw [beq_iff_eq]; omega
      have f7 : (a2 == (n : Int)) = true ∨ ((a2 == (n : Int)) = false ∧ hasB x a2 = hasB t a2) := by
        cases e : a2 == (n : Int)
        · exact .inr ⟨rfl, f5 e⟩
        · exact .inl rfl
      clear f4 f5 hb k0 hp
      rcases f7 with f7 | ⟨f7, f8⟩
      all_goals
        go_enter Try.func6, Try.ntmps6
        go_wp2_with (first
          | (go_at_call 10; refine (awake_any _).mono ?_; rintro e w' ⟨rfl, rfl⟩)
          | (go_at_call_of 20 (Value.int IntKind.u16 (t : Int)); refine (add_any t _ _ ht e0 e1).mono ?_; rintro e w' ⟨rfl, rfl⟩)
          | (go_at_call 20; refine (add_any x _ _ hx e2 e3).mono ?_; rintro e w' ⟨rfl, rfl⟩)
          | (go_at_call 16; refine (depth_any _ _ (by assumption)).mono ?_; rintro e w' ⟨rfl, rfl⟩)
          | (go_at_call 18; refine (within_any _ _ _ (by assumption) (by assumption) rfl).mono ?_; rintro e w' ⟨rfl, rfl⟩)
          | (go_at_call 14; refine (has_any _ _ _ (by assumption) rfl).mono ?_; rintro e w' ⟨rfl, rfl⟩))
        go_ret
        exact ⟨rfl, grown_ups _⟩
    · have e0 : addT t (n : Int) = 0 := by simp [addT, hb]
      have e1 : addE t (n : Int) = 6 := by simp [addE, hd, hb]
      have h0 : hasB t (n : Int) = true := by simp [hasB, hd, hb]
      clear hb
      go_enter Try.func6, Try.ntmps6
      go_wp2_with (first
        | (go_at_call 10; refine (awake_any _).mono ?_; rintro e w' ⟨rfl, rfl⟩)
        | (go_at_call_of 20 (Value.int IntKind.u16 (t : Int)); refine (add_any t _ _ ht e0 e1).mono ?_; rintro e w' ⟨rfl, rfl⟩)
        | (go_at_call 14; refine (has_any _ _ _ (by assumption) rfl).mono ?_; rintro e w' ⟨rfl, rfl⟩))
      go_ret
      exact ⟨rfl, grown_ups _⟩

/-! ### THE ROW's STEP: WRITTEN OUT: LEAVE IT -/
set_option maxRecDepth 100000 in
theorem lifted (os : Os) (started : os.Started) (H : Type) (enc : TypeId × Value → H) :
    ReturnsInHanded {} Try.checked os 6 .any (Rows.tagsGrowSpec.pre6 enc Try.prog Try.f6 Rows.tagsGrowRow.domain false) (Rows.tagsGrowSpec.post enc Try.prog Try.f6 false true false false) := by
  refine returnsInHanded_of_change (C := Try.checked) own started (by kernel_rfl) Try.func6
    (ChangeSpec.witness6 (enc := enc) (C := Try.checked) false ⟨#[], #[.int .u16 0, .int .i64 0, .int .i64 0], []⟩ 8 (by kernel_rfl) (by kernel_rfl) (by kernel_rfl) (by kernel_rfl)) ?_
  intro W base args ds gs before hval0 hW hcnd _
  have hval : ∀ (j : Nat) t v, Try.f6.params[j]? = some t → args[j]? = some v → Value.okWide Try.prog W .any base t v := hval0
  have hW' := hW
  obtain ⟨p, q, hA0, hV, rfl, hfz, hnd⟩ := hW
  have hA : DataW.TrodAll enc Try.prog W 0 (fun _ => true) true Try.f6.params.toList args.toList ds p := hA0
  rw [Try.params6] at hA hval
  obtain ⟨v0, vs0, d0, ds0, p0, q0, hargs, rfl, rfl, h0, r0⟩ := trodAll_cons hA
  obtain ⟨v1, vs1, d1, ds1, p1, q1, rfl, rfl, rfl, h1, r1⟩ := trodAll_cons r0
  obtain ⟨v2, vs2, d2, ds2, p2, q2, rfl, rfl, rfl, h2, r2⟩ := trodAll_cons r1
  obtain ⟨rfl, rfl, rfl⟩ := trodAll_nil r2
  obtain rfl : args = #[v0, v1, v2] := by cases args; simp_all
  obtain ⟨rfl, rfl⟩ := trodVars_none hV
  obtain ⟨a0, rfl, rfl, rfl, w0⟩ := open_int Try.underlying22 (hval 0 22 v0 rfl rfl) h0
  obtain ⟨a1, rfl, rfl, rfl, w1⟩ := open_int Try.underlying3 (hval 1 3 v1 rfl rfl) h1
  obtain ⟨a2, rfl, rfl, rfl, w2⟩ := open_int Try.underlying3 (hval 2 3 v2 rfl rfl) h2
  clear hA0 hval0
  simp only [List.append_nil] at hW'
  refine (walk a0 a1 a2 w0 w1 w2 W).mono fun e W' ⟨he, hg⟩ => ?_
  subst he
  exact ⟨_, rfl, post_of_same (pa := []) (pv := []) hW' (fun _ _ _ => (trodAll_cons_mk (shut_bool Try.underlying4 _) trodAll_mk0)) (fun sp _ => (trodAll_cons_mk (shut_int Try.underlying22 w0) (trodAll_cons_mk (shut_int Try.underlying3 w1) (trodAll_cons_mk (shut_int Try.underlying3 w2) trodAll_mk0)))) (fun _ _ => rfl) rfl
    (hg.frame _) hg.2.1 (ok_one (by kernel_rfl) rfl (okWide_bool_mk Try.underlying4 _))⟩

theorem over : Rows.tagsGrowRow.holds Try.pinned (OpenSpec.ofChange Rows.tagsGrowSpec) :=
  OpenClaim.holds_of_wide 6 Try.f6 rfl rfl rfl rfl rfl rfl rfl ⟨rfl, rfl, rfl, rfl, rfl⟩ rfl rfl rfl rfl rfl (by kernel_rfl) Try.func6 (by kernel_rfl)
    (of_decide_eq_true (by kernel_rfl)) (by unfold Func.isWrapper; first | (rw [if_pos (by decide +kernel)]; kernel_rfl) | (rw [if_neg (by decide +kernel)]; exact ⟨rfl, rfl⟩))
    (fun os started H enc _ => lifted os started H enc)

/-- ████ THE STATEMENT ████ -/
theorem proved : Rows.TagsGrowSaid :=
  over
end Go.Proofs.Ytgkfiblmedihjaa.tagsGrow

namespace Go.Proofs.Ytgkfiblmedihjaa
/-- The given statement. -/
theorem tagsGrow_holds : Rows.TagsGrowSaid := tagsGrow.proved
#print axioms tagsGrow_holds
end Go.Proofs.Ytgkfiblmedihjaa
