/- For every two prefixes the law octroilaw02.PrefixOrders answers true: of two that are not the same just one comes first; one that covers another does not come behind it. No condition; the library's tables that the program's start-up lays are listed and tied to the program's text (a pruned copy of the project). -/
import Derived.Test.YtapoajplmejjcaaDoorRows
import Derived.Test.YtapoajplmejjcaaDoorCards
import Derived.Test.YtapoajplmejjcaaDoorTie
import Derived.Test.YtapoajplmejjcaaDoorLawOrders
import Derived.WalkKit
import Derived.ProofKit
import Derived.OpenShut
import Derived.ShutString
import Derived.LaidMore
import Derived.Stop.Joined
import Derived.Lib.SmallJoins
import Derived.SevenTiedAt
namespace Go.Proofs.YtapoajplmejjcaaDoor.prefixOrders
open Go.ChangeShapes Go.WideShapes Go.ChangeAt Go.RowKit Go.Joins
open Go.ChangeMaps (open_string shut_string)
set_option linter.unusedVariables false

theorem own : ownKnob Tryd.prog.godebug = none := by kernel_rfl
theorem cells24 : Tryd.prog.cellsOf 24 = 2 := by kernel_rfl
def laid3 : List (String × DataW Unit) := [("math/bits.deBruijn32tab", Rows.laid_math_bits_deBruijn32tab), ("math/bits.deBruijn64tab", Rows.laid_math_bits_deBruijn64tab), ("internal/strconv.uint64pow10", Rows.laid_internal_strconv_uint64pow10)]
theorem door_met (os : Os) (args : Array Value) : laidMetH Tryd.prog laid3 ((World.doorLaid Tryd.prog 400 os).forCall (fun _ _ => 0) ⟨#[], args, []⟩).memory :=
  laidMetH_of_parts3 (fuel := 8) (laidMet_of_run' 8 (by kernel_rfl) (by kernel_rfl)) (by kernel_rfl) (by kernel_rfl)
theorem pfx_reads {H : Type} {enc : TypeId × Value → H} (a l : Int) (wa : (Lit.int .u32 a).wf = true) (wl : (Lit.int .i64 l).wf = true) (W : World) (sp : Nat → Bool) :
    DataW.Trod enc Tryd.prog W 0 sp true 24 (.agg #[.int .u32 a, .int .i64 l]) (.agg [.lit (.int .u32 a), .lit (.int .i64 l)]) [] :=
  shut_agg2 (y0 := (.lit (.int .u32 a), [])) (y1 := (.lit (.int .i64 l), [])) Tryd.underlying24 (by kernel_rfl) cells24 ⟨1, by simp [DataW.trod, Tryd.underlying22, wa]⟩ ⟨1, by simp [DataW.trod, Tryd.underlying3, wl]⟩

/-! ### THE WALK -/
theorem walk (a0 l0 : Int) (w0 : (Lit.int .u32 a0).wf = true) (x0 : (Lit.int .i64 l0).wf = true) (a1 l1 : Int) (w1 : (Lit.int .u32 a1).wf = true) (x1 : (Lit.int .i64 l1).wf = true) (w : World) :
    Calls Tryd.prog 8 #[.agg #[.int .u32 a0, .int .i64 l0], .agg #[.int .u32 a1, .int .i64 l1]] w fun e w' => e = .returned (.bool true) ∧ Below w.heap.size w w' := by
  exact law_orders a0 l0 a1 l1 w (bounds_u32 w0).1 (Int.lt_of_le_of_lt (bounds_u32 w0).2 (by decide)) (bounds_u32 w1).1 (Int.lt_of_le_of_lt (bounds_u32 w1).2 (by decide))

/-! ### THE ROW -/
set_option maxRecDepth 100000 in
theorem lifted (os : Os) (started : os.Started) (H : Type) (enc : TypeId × Value → H) :
    ReturnsInHanded {} Tryd.checked os 8 .any (fun w args => (Rows.prefixOrdersSpec.pre enc Tryd.prog Tryd.f8 [] false w args ∧ laidMetH Tryd.prog laid3 w) ∧ sizedMet enc Tryd.prog Tryd.f8 (OpenSpec.ofChange Rows.prefixOrdersSpec) false w args)
      (Rows.prefixOrdersSpec.post enc Tryd.prog Tryd.f8 false true false false) := by
  refine returnsInHanded_of_change_and (C := Tryd.checked) (X := fun w _ => laidMetH Tryd.prog laid3 w) (fun _ _ _ hh h => h.of_heap hh) own started (by kernel_rfl) Tryd.func8
    (ChangeSpec.witness_shaped (enc := enc) (C := Tryd.checked) (os := os) (X := fun w _ => laidMetH Tryd.prog laid3 w) false (World.doorLaid Tryd.prog 400 os) #[.agg #[.int .u32 0, .int .i64 0], .agg #[.int .u32 0, .int .i64 0]] 8 rfl (World.shaped_of_RefB (by kernel_rfl) (by kernel_rfl)) (by kernel_rfl) (by kernel_rfl) (by kernel_rfl) (door_met os _)) ?_
  intro W base args ds gs before hval0 hW _ _ hL _
  have hval : ∀ (j : Nat) t v, Tryd.f8.params[j]? = some t → args[j]? = some v → Value.okWide Tryd.prog W .any base t v := hval0
  have hW' := hW
  obtain ⟨p, q, hA0, hV, rfl, hfz, hnd⟩ := hW
  have hA : DataW.TrodAll enc Tryd.prog W 0 (fun _ => true) true Tryd.f8.params.toList args.toList ds p := hA0
  rw [Tryd.params8] at hA hval
  obtain ⟨v0, vs0, d0, ds0, p0, q0, hargs, rfl, rfl, h0, r0⟩ := trodAll_cons hA
  obtain ⟨v1, vs1, d1, ds1, p1, q1, rfl, rfl, rfl, h1, r1⟩ := trodAll_cons r0
  obtain ⟨rfl, rfl, rfl⟩ := trodAll_nil r1
  obtain rfl : args = #[v0, v1] := by cases args; simp_all
  obtain ⟨rfl, rfl⟩ := trodVars_none hV
  obtain ⟨c0a, c0b, y0a, y0b, m0, rfl, rfl, rfl, hy0a, hy0b⟩ := open_agg2 Tryd.underlying24 (by kernel_rfl) cells24 (hval 0 24 v0 rfl rfl) h0
  obtain ⟨a0, e0a, rfl, w0⟩ := DataW.trod_int Tryd.underlying22 hy0a
  obtain ⟨l0, e0b, rfl, x0⟩ := DataW.trod_int Tryd.underlying3 hy0b
  simp at e0a e0b
  subst e0a e0b
  obtain ⟨c1a, c1b, y1a, y1b, m1, rfl, rfl, rfl, hy1a, hy1b⟩ := open_agg2 Tryd.underlying24 (by kernel_rfl) cells24 (hval 1 24 v1 rfl rfl) h1
  obtain ⟨a1, e1a, rfl, w1⟩ := DataW.trod_int Tryd.underlying22 hy1a
  obtain ⟨l1, e1b, rfl, x1⟩ := DataW.trod_int Tryd.underlying3 hy1b
  simp at e1a e1b
  subst e1a e1b
  clear hA0 hval0
  simp only [List.append_nil] at hW'
  refine (walk a0 l0 w0 x0 a1 l1 w1 x1 W).mono fun e W' ⟨he, bel⟩ => ?_
  subst he
  exact ⟨_, rfl, _, _, _, [], [], [], hW', trodAll_mk1 (shut_bool Tryd.underlying4 _), (trodAll_cons_mk (pfx_reads a0 l0 w0 x0 _ _) (trodAll_cons_mk (pfx_reads a1 l1 w1 x1 _ _) trodAll_mk0)), rfl, bel.frame _, fun h => by cases h⟩

theorem over : Rows.PrefixOrdersSaid :=
  OpenClaim.holds_of_wide 8 Tryd.f8 rfl rfl rfl rfl rfl rfl rfl ⟨rfl, rfl, rfl, rfl, rfl⟩ rfl rfl rfl rfl rfl (by kernel_rfl) Tryd.func8 (by kernel_rfl)
    (of_decide_eq_true (by kernel_rfl)) (by unfold Func.isWrapper; first | (rw [if_pos (by decide +kernel)]; kernel_rfl) | (rw [if_neg (by decide +kernel)]; exact ⟨rfl, rfl⟩))
    (fun os started H enc _ => lifted os started H enc)

/-- The tied card. -/
theorem card : Rows.PrefixOrdersCardSaid :=
  Claim7.holds_tied_plain_at .later [] [.data, .data, .data] true (true, "f5a751253ff889b41b488a0366fdd8707665ab683ea43d4d68c476d1c56266ee") false
    over (fun _ h => by cases h) (by kernel_rfl) (fun _ h => by cases h) prefixOrders_row_tie rfl ⟨rfl, rfl⟩ (by kernel_rfl) rfl
    (fun f fn hf hfn => by
      obtain rfl : f = 8 := Option.some.inj ((show Tryd.prog.funcNamed "octroi/octroilaw02.PrefixOrders" = some 8 by kernel_rfl).symm.trans hf) |>.symm
      obtain rfl : fn = Tryd.f8 := (Option.some.inj (Tryd.func8.symm.trans hfn)).symm
      exact ⟨by kernel_rfl, fun j t ht => by
        rw [Tryd.params8] at ht
        have hm : t ∈ ([24, 24] : List TypeId) := by have := Array.mem_of_getElem? ht; simpa using this
        have hall : (([24, 24] : List TypeId).all fun u => !Tryd.prog.wantsStandIn u) = true := by kernel_rfl
        exact (show Tryd.prog.wantsStandIn t = false by simpa using List.all_eq_true.1 hall t hm)⟩)
    (by kernel_rfl)
end Go.Proofs.YtapoajplmejjcaaDoor.prefixOrders

namespace Go.Proofs.YtapoajplmejjcaaDoor
/-- The given statement. -/
theorem prefixOrders_holds : Rows.PrefixOrdersCardSaid := prefixOrders.card
#print axioms prefixOrders_holds
end Go.Proofs.YtapoajplmejjcaaDoor
