/-
  No cell of these rows narrows 'for every input' (looked for: loops, veiled, ifaces, maps, wideKeys, modest, calm, conditions, laid).
  DERIVED. THE GIVEN ROWS OF THIS SEAT. 5 by the template 'for every input the law returns true; each argument reads behind the call as it read before'; 0 by the template 'total and deterministic' (their statements: YtmmhnpekbfmonaaTotals.lean).
  GIVEN WITH THE SEED: the statements are not yours to turn. If you find one false, say at which input.
  Laid BY PROGRAM, IN A SANDBOX (cutbox-rows.mjs): the forced cells as the released guide's own fill.sh prints them over the translation 8ac790f97f81dd30… (all of the seat's roots in one cut). By AI agents, Wed Nov 11 2026. No macro, syntax, notation, axiom, sorry.
-/
import Derived.Test.YtmmhnpekbfmonaaChecked
import GoSem.Claim
import GoSem.ClaimJoined
import GoSem.ClaimMapViews
import Derived.JoinedTies
import Derived.KernelRfl
namespace Go.Proofs.Ytmmhnpekbfmonaa
/- THE CELL 'sum', in the pinned program and in every row, IS THE sha256 OF THE DUMP (.gsa) THAT YtmmhnpekbfmonaaProg.lean LOADS. Nothing in Lean hashes anything: it is a label: what it is worth is what the hold of that sum in a sandbox is worth. -/
noncomputable def Try.pinned : Pinned := { name := "ytmmhnpekbfmonaa", sum := "8ac790f97f81dd304501e5e3fb1d115f2aae2a52f7519b4c6fceb367170c8246", checked := Try.checked }
namespace Rows
def none {H : Type} : Left H := { results := [], args := [] }

/-- 'octroilaw13.FilterPermits': WHATEVER THE INPUT: true; the input reads as it did. -/
def filterPermitsSpec : ChangeSpec := { name := "filterPermits", fn := fun _ => fun
  | [d1, d2, d3] => { results := [.lit (.bool true)], args := [d1, d2, d3] }
  | _ => none }
def filterPermitsRow : OpenClaim := { program := "ytmmhnpekbfmonaa", sum := "8ac790f97f81dd304501e5e3fb1d115f2aae2a52f7519b4c6fceb367170c8246", func := "octroi/octroilaw13.FilterPermits", spec := "filterPermits", apart := false }
def FilterPermitsSaid : Prop := filterPermitsRow.holds Try.pinned (OpenSpec.ofChange filterPermitsSpec)

/-- ITS FALSE NEIGHBOUR: 'it returns false'. Refute it at one input. -/
def filterPermitsWrong : ChangeSpec := { name := "filterPermits", fn := fun _ => fun
  | [d1, d2, d3] => { results := [.lit (.bool false)], args := [d1, d2, d3] }
  | _ => none }
def FilterPermitsWrongFalsely : Prop := filterPermitsRow.holds Try.pinned (OpenSpec.ofChange filterPermitsWrong)

/-- 'octroilaw13.FilterFirst': WHATEVER THE INPUT: true; the input reads as it did. -/
def filterFirstSpec : ChangeSpec := { name := "filterFirst", fn := fun _ => fun
  | [d1, d2, d3, d4] => { results := [.lit (.bool true)], args := [d1, d2, d3, d4] }
  | _ => none }
def filterFirstRow : OpenClaim := { program := "ytmmhnpekbfmonaa", sum := "8ac790f97f81dd304501e5e3fb1d115f2aae2a52f7519b4c6fceb367170c8246", func := "octroi/octroilaw13.FilterFirst", spec := "filterFirst", apart := false }
def FilterFirstSaid : Prop := filterFirstRow.holds Try.pinned (OpenSpec.ofChange filterFirstSpec)

/-- ITS FALSE NEIGHBOUR: 'it returns false'. Refute it at one input. -/
def filterFirstWrong : ChangeSpec := { name := "filterFirst", fn := fun _ => fun
  | [d1, d2, d3, d4] => { results := [.lit (.bool false)], args := [d1, d2, d3, d4] }
  | _ => none }
def FilterFirstWrongFalsely : Prop := filterFirstRow.holds Try.pinned (OpenSpec.ofChange filterFirstWrong)

/-- 'octroilaw13.FilterAll': WHATEVER THE INPUT: true; the input reads as it did. -/
def filterAllSpec : ChangeSpec := { name := "filterAll", fn := fun _ => fun
  | [d1, d2, d3, d4] => { results := [.lit (.bool true)], args := [d1, d2, d3, d4] }
  | _ => none }
def filterAllRow : OpenClaim := { program := "ytmmhnpekbfmonaa", sum := "8ac790f97f81dd304501e5e3fb1d115f2aae2a52f7519b4c6fceb367170c8246", func := "octroi/octroilaw13.FilterAll", spec := "filterAll", apart := false }
def FilterAllSaid : Prop := filterAllRow.holds Try.pinned (OpenSpec.ofChange filterAllSpec)

/-- ITS FALSE NEIGHBOUR: 'it returns false'. Refute it at one input. -/
def filterAllWrong : ChangeSpec := { name := "filterAll", fn := fun _ => fun
  | [d1, d2, d3, d4] => { results := [.lit (.bool false)], args := [d1, d2, d3, d4] }
  | _ => none }
def FilterAllWrongFalsely : Prop := filterAllRow.holds Try.pinned (OpenSpec.ofChange filterAllWrong)

/-- 'octroilaw13.FilterTags': WHATEVER THE INPUT: true; the input reads as it did. -/
def filterTagsSpec : ChangeSpec := { name := "filterTags", fn := fun _ => fun
  | [d1, d2, d3] => { results := [.lit (.bool true)], args := [d1, d2, d3] }
  | _ => none }
def filterTagsRow : OpenClaim := { program := "ytmmhnpekbfmonaa", sum := "8ac790f97f81dd304501e5e3fb1d115f2aae2a52f7519b4c6fceb367170c8246", func := "octroi/octroilaw13.FilterTags", spec := "filterTags", apart := false }
def FilterTagsSaid : Prop := filterTagsRow.holds Try.pinned (OpenSpec.ofChange filterTagsSpec)

/-- ITS FALSE NEIGHBOUR: 'it returns false'. Refute it at one input. -/
def filterTagsWrong : ChangeSpec := { name := "filterTags", fn := fun _ => fun
  | [d1, d2, d3] => { results := [.lit (.bool false)], args := [d1, d2, d3] }
  | _ => none }
def FilterTagsWrongFalsely : Prop := filterTagsRow.holds Try.pinned (OpenSpec.ofChange filterTagsWrong)

/-- 'octroilaw13.FilterLens': WHATEVER THE INPUT: true; the input reads as it did. -/
def filterLensSpec : ChangeSpec := { name := "filterLens", fn := fun _ => fun
  | [d1, d2] => { results := [.lit (.bool true)], args := [d1, d2] }
  | _ => none }
def filterLensRow : OpenClaim := { program := "ytmmhnpekbfmonaa", sum := "8ac790f97f81dd304501e5e3fb1d115f2aae2a52f7519b4c6fceb367170c8246", func := "octroi/octroilaw13.FilterLens", spec := "filterLens", apart := false }
def FilterLensSaid : Prop := filterLensRow.holds Try.pinned (OpenSpec.ofChange filterLensSpec)

/-- ITS FALSE NEIGHBOUR: 'it returns false'. Refute it at one input. -/
def filterLensWrong : ChangeSpec := { name := "filterLens", fn := fun _ => fun
  | [d1, d2] => { results := [.lit (.bool false)], args := [d1, d2] }
  | _ => none }
def FilterLensWrongFalsely : Prop := filterLensRow.holds Try.pinned (OpenSpec.ofChange filterLensWrong)

/- THE SECOND FORM. 'bulk': how many values and letters a reading holds, each counted each time it is reached (what is shared counts as often as it is met; a slice's spare places count too). A statement '..UptoSaid' is the law's where the arguments, and the package variables that the reading takes, are together of bulk at most 1048576: NARROWER than '..Said'. Prove '..Said' where nothing that the law and all that it calls make is longer than what came in: it says more and counts as full. Else prove '..UptoSaid'. A law counts once. -/
mutual
def uptoBulk {H : Type} : DataW H → Nat
  | .lit (.string bytes) => bytes.length + 1
  | .lit _ => 1
  | .nil => 1
  | .ptr d => uptoBulk d + 1
  | .slice elems spare => uptoBulkAll elems + uptoBulkAll spare + 1
  | .agg parts => uptoBulkAll parts + 1
  | .iface _ d => uptoBulk d + 1
  | .map entries => uptoBulkEntries entries + 1
  | .held _ => 1
def uptoBulkAll {H : Type} : List (DataW H) → Nat
  | [] => 0
  | d :: r => uptoBulk d + uptoBulkAll r
def uptoBulkEntries {H : Type} : List (Lit × DataW H) → Nat
  | [] => 0
  | x :: r => uptoBulkEntry x + uptoBulkEntries r
def uptoBulkEntry {H : Type} : Lit × DataW H → Nat
  | (.string bytes, d) => bytes.length + uptoBulk d + 1
  | (_, d) => uptoBulk d + 1
 end
def uptoSmall : (H : Type) → List (DataW H) → Bool := fun _ ds => decide (uptoBulkAll ds ≤ 1048576)
def OpenSpec.upto (s : _root_.Go.ChangeSpec) : _root_.Go.OpenSpec := { _root_.Go.OpenSpec.ofChange s with cond := some uptoSmall }

/-- 'octroilaw13.FilterPermits', WHERE WHAT IT READS IS OF BULK AT MOST 1048576: true; the input reads as it did. -/
def filterPermitsUptoRow : OpenClaim := { program := "ytmmhnpekbfmonaa", sum := "8ac790f97f81dd304501e5e3fb1d115f2aae2a52f7519b4c6fceb367170c8246", func := "octroi/octroilaw13.FilterPermits", spec := "filterPermits", apart := false, narrowed := true }
def FilterPermitsUptoSaid : Prop := filterPermitsUptoRow.holds Try.pinned (OpenSpec.upto filterPermitsSpec)

/-- 'octroilaw13.FilterFirst', WHERE WHAT IT READS IS OF BULK AT MOST 1048576: true; the input reads as it did. -/
def filterFirstUptoRow : OpenClaim := { program := "ytmmhnpekbfmonaa", sum := "8ac790f97f81dd304501e5e3fb1d115f2aae2a52f7519b4c6fceb367170c8246", func := "octroi/octroilaw13.FilterFirst", spec := "filterFirst", apart := false, narrowed := true }
def FilterFirstUptoSaid : Prop := filterFirstUptoRow.holds Try.pinned (OpenSpec.upto filterFirstSpec)

/-- 'octroilaw13.FilterAll', WHERE WHAT IT READS IS OF BULK AT MOST 1048576: true; the input reads as it did. -/
def filterAllUptoRow : OpenClaim := { program := "ytmmhnpekbfmonaa", sum := "8ac790f97f81dd304501e5e3fb1d115f2aae2a52f7519b4c6fceb367170c8246", func := "octroi/octroilaw13.FilterAll", spec := "filterAll", apart := false, narrowed := true }
def FilterAllUptoSaid : Prop := filterAllUptoRow.holds Try.pinned (OpenSpec.upto filterAllSpec)

/-- 'octroilaw13.FilterTags', WHERE WHAT IT READS IS OF BULK AT MOST 1048576: true; the input reads as it did. -/
def filterTagsUptoRow : OpenClaim := { program := "ytmmhnpekbfmonaa", sum := "8ac790f97f81dd304501e5e3fb1d115f2aae2a52f7519b4c6fceb367170c8246", func := "octroi/octroilaw13.FilterTags", spec := "filterTags", apart := false, narrowed := true }
def FilterTagsUptoSaid : Prop := filterTagsUptoRow.holds Try.pinned (OpenSpec.upto filterTagsSpec)

/-- 'octroilaw13.FilterLens', WHERE WHAT IT READS IS OF BULK AT MOST 1048576: true; the input reads as it did. -/
def filterLensUptoRow : OpenClaim := { program := "ytmmhnpekbfmonaa", sum := "8ac790f97f81dd304501e5e3fb1d115f2aae2a52f7519b4c6fceb367170c8246", func := "octroi/octroilaw13.FilterLens", spec := "filterLens", apart := false, narrowed := true }
def FilterLensUptoSaid : Prop := filterLensUptoRow.holds Try.pinned (OpenSpec.upto filterLensSpec)

end Rows
end Go.Proofs.Ytmmhnpekbfmonaa
