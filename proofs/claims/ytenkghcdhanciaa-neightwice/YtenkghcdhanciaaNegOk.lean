/- The program's neighbour does all that is asked of it. -/
import Derived.Test.YtenkghcdhanciaaProI
namespace Go.Proofs.Ytenkghcdhanciaa
open Go.RowKit

theorem doneG_of {w w' : World} {B : Nat → Prop} {N : Nat} {s : Nh} {e : Ending} (hB : ∀ k, B k ↔ k = N) (h : DoneM w N s e w') : DoneG TM w B ⟨N, 0, none⟩ s e w' := by
  obtain ⟨rfl, h1, h2⟩ := h
  exact ⟨B, rfl, ⟨N, rfl, hB, h1⟩, fun _ hk => .inl hk, h2.mono fun i _ hi => (hB i).2 hi⟩
theorem negC : NegC TM where
  keep := fun ⟨N, hp, hB, h⟩ hk hd => ⟨N, hp, hB, h.1.keep hk (hd N ((hB N).2 rfl)), h.2⟩
  lt := fun ⟨N, _, hB, h⟩ k hk => by
    obtain rfl := (hB k).1 hk
    exact h.1.lt
  good := fun ⟨_, _, _, h⟩ => h.2
  new := pnew_any
  hello := fun q ⟨N, hp, hB, h⟩ _ _ => by
    subst hp
    exact (phello_any q _ h).mono fun _ _ hd => doneG_of hB hd
  miss := fun ⟨N, hp, hB, h⟩ => by
    subst hp
    exact (pmiss_any _ h).mono fun _ _ hd => doneG_of hB hd
  ihu := fun c ⟨N, hp, hB, h⟩ _ _ => by
    subst hp
    exact (pihu_any c _ h).mono fun _ _ hd => doneG_of hB hd
  hist := fun ⟨N, hp, _, h⟩ => by
    subst hp
    exact phist_any _ h
  rx := fun ⟨N, hp, _, h⟩ => by
    subst hp
    exact prx_any _ h
  cost := fun ⟨N, hp, _, h⟩ => by
    subst hp
    exact pcost_any _ h
end Go.Proofs.Ytenkghcdhanciaa
