/- The program's timers do all that is asked of them. -/
import Derived.Test.YtajpfmnnkglkiaaProB
import Derived.Test.YtajpfmnnkglkiaaProF
import Derived.Test.YtajpfmnnkglkiaaProG
namespace Go.Proofs.Ytajpfmnnkglkiaa
open Go.RowKit

theorem timC : TimC TM where
  keep := fun ⟨N, b, hp, hB, h⟩ hk hd => ⟨N, b, hp, hB, h.keep hk (hd N ((hB N).2 (.inl rfl))) (hd b ((hB b).2 (.inr rfl)))⟩
  up := fun ⟨N, b, hp, hB, h⟩ => ⟨N, b, hp, hB, h.up⟩
  lt := fun ⟨N, b, _, hB, h⟩ k hk => by
    rcases (hB k).1 hk with rfl | rfl
    · exact h.lt
    · exact h.mp.lt
  good := fun ⟨_, _, _, _, h⟩ => ⟨h.gd, tms_of h.gd, h.lm, h.ll⟩
  new := new_any
  set := fun i a ⟨N, b, hp, hB, h⟩ _ hk => by
    subst hp
    refine (set_any i a _ h hk).mono ?_
    rintro e w' ⟨rfl, h', hk'⟩
    exact doneK_of hB h' hk'
  stop := fun i ⟨N, b, hp, hB, h⟩ _ h0 h1 => by
    subst hp
    refine (stop_any i _ h ⟨h0, h1⟩).mono ?_
    rintro e w' ⟨rfl, h', hk'⟩
    exact doneK_of hB h' hk'
  due := fun now ⟨N, b, hp, hB, h⟩ _ _ _ => by
    subst hp
    exact due_any sortC now _ h hB
  next := fun ⟨N, b, hp, _, h⟩ _ => by
    subst hp
    exact next_any _ h
  len := fun ⟨N, b, hp, _, h⟩ _ => by
    subst hp
    exact len_any _ h
end Go.Proofs.Ytajpfmnnkglkiaa
