/- From a slice of bytes that came in to what is known of it. -/
import Derived.Test.YtbbnlkcacpbfdaaCond
import Derived.OpenShut
namespace Go.Proofs.Ytbbnlkcacpbfdaa
open Go.RowKit

theorem row8_of {w : World} {a : Option Addr} {len cap : Nat} {zs : List Int}
    (h : (a = none ∧ len = 0 ∧ cap = 0 ∧ zs = []) ∨ ∃ x, a = some x ∧ len ≤ cap ∧ cap ≤ maxLen ∧ zs.length = cap ∧ (∀ i, i < zs.length → w.cell? (x.add i) = some (.int .u8 (zs.getD i 0))) ∧ ∀ n ∈ zs, (Lit.int .u8 n).wf = true) (hle : len ≤ 3000) :
    Row8 w a len (zs.take len) := by
  rcases h with ⟨rfl, rfl, rfl, rfl⟩ | ⟨x, rfl, hlc, hcap, hz, hc, hwf⟩
  · exact ⟨rfl, by omega, by unfold Bytes; simp, fun i hi => by omega⟩
  · unfold maxLen at hcap
    refine ⟨by simp; omega, by omega, fun n hn => bounds_u8 (hwf n (List.mem_of_mem_take hn)), fun i hi => ?_⟩
    obtain ⟨b, off, rfl, hc'⟩ := ints_at hc (by omega)
    refine ⟨b, off, rfl, ?_⟩
    rw [hc' i (by omega)]
    simp [hi]
end Go.Proofs.Ytbbnlkcacpbfdaa
