/- The program's trie keeps all that is asked of it. -/
import Derived.Test.YtcabeclbdjfoaaaTakA
import Derived.Test.YtcabeclbdjfoaaaFindA
import Derived.Test.YtcabeclbdjfoaaaWitZ
namespace Go.Proofs.Ytcabeclbdjfoaaa
open Go.RowKit

/-- The program's trie at p has L: by an array of nodes. -/
def TR (W : World) (B : Nat → Prop) (p : Addr) (most : Int) (L : List Pr) (m : Nat) : Prop :=
  ∃ (N g cap : Nat) (ns : List Nd) (ws : Nat → List Bool), p = ⟨N, 0, none⟩ ∧ (∀ k, B k ↔ twoB N g k) ∧ TrM W N g cap most (L.length : Int) ns ∧ Good ns ws ∧ Holds ns ws L ∧ GoodP L ∧ L.length ≤ m ∧ ns.length ≤ 33 * m + 1
theorem takeL_len (L : List Pr) (a l : Int) : (takeL L a l).length ≤ L.length := by
  unfold takeL
  split
  · exact List.length_eraseIdx_le _ _
  · exact Nat.le_refl _
theorem doneT {w w' : World} {B : Nat → Prop} {N g0 n1 m : Nat} {most x : Int} {L : List Pr} {e : Ending} (h : DoneM w N g0 most L n1 x e w') (hB : ∀ k, B k ↔ twoB N g0 k) (hG : GoodP L) (hl : L.length ≤ m) (hn : n1 ≤ 33 * m + 1) : DoneT TR w B ⟨N, 0, none⟩ most L m x e w' := by
  obtain ⟨g, cap, ns, ws, rfl, hT, hg, hH, hk, hgg, hK⟩ := h
  refine ⟨twoB N g, rfl, ⟨N, g, cap, ns, ws, rfl, fun _ => Iff.rfl, hT, hg, hH, hG, hl, by omega⟩, fun k hk => ?_, hK.mono fun i _ h => (hB i).2 h⟩
  rcases hk with hk | hk
  · exact .inl ((hB k).2 (.inl hk))
  · rcases hgg with h | h
    · exact .inl ((hB k).2 (.inr (by omega)))
    · exact .inr (by omega)
theorem trieC : TrieC TR where
  keep := by
    rintro w w' B C p most L m ⟨N, g, cap, ns, ws, rfl, hB, hT, hg, hH, hG, hl, hn⟩ hk hd
    exact ⟨N, g, cap, ns, ws, rfl, hB, hT.keep hk (hd N ((hB N).2 (.inl rfl))) (hd g ((hB g).2 (.inr rfl))), hg, hH, hG, hl, hn⟩
  up := by
    rintro w B p most L m ⟨N, g, cap, ns, ws, rfl, hB, hT, hg, hH, hG, hl, hn⟩
    exact ⟨N, g, cap, ns, ws, rfl, hB, hT, hg, hH, hG, by omega, by omega⟩
  lt := by
    rintro w B p most L m ⟨N, g, cap, ns, ws, rfl, hB, hT, hg, hH, hG, hl, hn⟩ k hk
    rcases (hB k).1 hk with rfl | rfl
    · exact hT.lt
    · exact hT.g_lt
  good := by
    rintro w B p most L m ⟨N, g, cap, ns, ws, rfl, hB, hT, hg, hH, hG, hl, hn⟩
    exact ⟨hG, hl⟩
  new := by
    intro most w _ _
    refine (new_any most w).mono ?_
    rintro e w' ⟨N, g, rfl, hT, h1, h2, hb⟩
    refine ⟨⟨N, 0, none⟩, twoB N g, rfl, ⟨N, g, 1, _, _, rfl, fun _ => Iff.rfl, hT, good_new, holds_new, goodP_nil, Nat.le_refl _, by decide⟩, fun k hk => ?_, hb⟩
    rcases hk with rfl | rfl
    · exact h1
    · exact h2
  put := by
    rintro w B p most L m a l n ⟨N, g, cap, ns, ws, rfl, hB, hT, hg, hH, hG, hl, hn⟩ hm hp
    refine (put_any N g cap most ns ws L a l n w hT hg hH hG.s hp.a0 hp.a1 ⟨hp.n0, hp.n1⟩ (by omega) (by omega)).mono fun e w' h => ?_
    exact doneT h hB (good_put hG hp.a0 hp.a1 hp.n0 hp.n1) (by have := put_len most L a l n; omega) (by omega)
  take := by
    rintro w B p most L m a l ⟨N, g, cap, ns, ws, rfl, hB, hT, hg, hH, hG, hl, hn⟩ hm hp
    refine (take_any N g cap most ns ws L a l w hT hg hH hG.s hp.a0 hp.a1 (by omega)).mono fun e w' h => ?_
    exact doneT h hB (good_take hG a l) (by have := takeL_len L a l; omega) (by omega)
  get := by
    rintro w B p most L m a l ⟨N, g, cap, ns, ws, rfl, hB, hT, hg, hH, hG, hl, hn⟩ hm hp
    exact get_any N g cap most _ ns ws L a l w hT hg hH hG.s hp.a0 hp.a1
  find := by
    rintro w B p most L m x ⟨N, g, cap, ns, ws, rfl, hB, hT, hg, hH, hG, hl, hn⟩ hm h0 h1
    exact find_any N g cap most _ ns ws L x w hT hg hH hG.s h0 h1
  all := by
    rintro w B p most L m ⟨N, g, cap, ns, ws, rfl, hB, hT, hg, hH, hG, hl, hn⟩ hm
    exact all_any N g cap most _ ns ws L w hT hg hH hG.s (by omega)
end Go.Proofs.Ytcabeclbdjfoaaa
