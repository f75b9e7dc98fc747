/- The program's journal is as its laws want it. -/
import Derived.Test.YtofmgkpghkeegaaProQ
import Derived.Test.YtofmgkpghkeegaaProG
namespace Go.Proofs.Ytofmgkpghkeegaa
open Go.RowKit Go.Maps

theorem jouC : JouC JM where
  keep := by
    rintro w w' B C p room L K m ⟨N, b, v, rfl, hB, h⟩ hk hd
    exact ⟨N, b, v, rfl, hB, h.keep hk fun k hk' => hd k ((hB k).2 hk')⟩
  up := by
    rintro w B p room L K m ⟨N, b, v, rfl, hB, h⟩
    exact ⟨N, b, v, rfl, hB, h.up (Nat.le_succ _)⟩
  lt := by
    rintro w B p room L K m ⟨N, b, v, rfl, hB, h⟩ k hk
    rcases (hB k).1 hk with rfl | rfl | hg
    · exact h.lt
    · exact h.mp.lt
    · exact h.own.own_lt hg
  good := by
    rintro w B p room L K m ⟨N, b, v, rfl, hB, h⟩
    exact ⟨h.ok, h.may, h.kl, h.lm, h.lr⟩
  new w room _ := new_any room w
  put := by
    rintro w B p room L K m k y n ⟨N, b, v, rfl, hB, h⟩ hm hf
    exact put_any k y n w hB h hm hf
  sync := by
    rintro w B p room L K m ⟨N, b, v, rfl, hB, h⟩ _
    exact sync_any w hB h
  crash := by
    rintro w B p room L K m keep ⟨N, b, v, rfl, hB, h⟩ hm hz
    exact crash_any keep w hB h hm hz
  pack := by
    rintro w B p room L K m ⟨N, b, v, rfl, hB, h⟩ hm
    exact pack_any sortC w hB h hm
  get := by
    rintro w B p room L K m k y ⟨N, b, v, rfl, hB, h⟩ _ hk hy
    exact get_any k y w h ⟨hk.1, hk.2, hy.1, hy.2⟩
  facts := by
    rintro w B p room L K m ⟨N, b, v, rfl, hB, h⟩ hm
    exact facts_any sortC w h (by omega)
  len := by
    rintro w B p room L K m ⟨N, b, v, rfl, hB, h⟩ hm
    refine (len_any w h (by omega)).mono ?_
    rintro e w' ⟨rfl, rfl⟩
    exact ⟨rfl, Below.refl _ _⟩
  bytes := by
    rintro w B p room L K m ⟨N, b, v, rfl, hB, h⟩ hm
    exact bytes_any w h (by omega)
end Go.Proofs.Ytofmgkpghkeegaa
