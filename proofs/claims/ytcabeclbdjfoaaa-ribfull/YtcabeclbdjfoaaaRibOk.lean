/- The program's table keeps all that is asked of it. -/
import Derived.Test.YtcabeclbdjfoaaaProZ
import Derived.Test.YtcabeclbdjfoaaaProR
namespace Go.Proofs.Ytcabeclbdjfoaaa
open Go.RowKit

theorem ribC : RibC RB where
  keep := by
    rintro w w' B C p most L full m ⟨N, b, q, Bt, rs, T, es, clock, rfl, hB, h⟩ hk hd
    exact ⟨N, b, q, Bt, rs, T, es, clock, rfl, hB, h.keep hk (hd N ((hB N).2 (.inl rfl))) (hd b ((hB b).2 (.inr (.inl rfl)))) (fun k hk' => hd k ((hB k).2 (.inr (.inr hk'))))⟩
  up := by
    rintro w B p most L full m ⟨N, b, q, Bt, rs, T, es, clock, rfl, hB, h⟩
    exact ⟨N, b, q, Bt, rs, T, es, clock, rfl, hB, h.up⟩
  lt := by
    rintro w B p most L full m ⟨N, b, q, Bt, rs, T, es, clock, rfl, hB, h⟩ k hk
    rcases (hB k).1 hk with rfl | rfl | hk
    · exact h.lt
    · exact h.b_lt
    · exact trieC.lt h.tr k hk
  good := by
    rintro w B p most L full m ⟨N, b, q, Bt, rs, T, es, clock, rfl, hB, h⟩
    exact ⟨h.gd, rts_of h.gd, h.ml, h.mm, h.f0, h.f1⟩
  better := by
    rintro ⟨a, l, d, s, m, n, t⟩ ⟨a', l', d', s', m', n', t'⟩ w hx hy
    obtain ⟨T, rfl⟩ : ∃ T : Nat, t = (T : Int) := ⟨t.toNat, by have := hx.t0; simp only at this; omega⟩
    obtain ⟨U, rfl⟩ : ∃ U : Nat, t' = (U : Int) := ⟨t'.toNat, by have := hy.t0; simp only at this; omega⟩
    exact better_any a l d s m n a' l' d' s' m' n' T U w (by have := hx.t1; simp only at this; omega) (by have := hy.t1; simp only at this; omega) rfl
  new := fun most w h0 h1 => new_any9 most w h0 h1
  put := by
    rintro w B p most L full m ⟨a, l, d, s, m', n, t⟩ ⟨N, b, q, Bt, rs, T, es, clock, rfl, hB, h⟩ hm hx
    cases hr : mayR ⟨a, l, d, s, m', n, t⟩ with
    | false => exact put_no a l d s m' n t w h hB hx hr
    | true =>
      rcases put_ask h hx with ⟨v, h1, rfl, h3, h4⟩ | ⟨j, r, i, h1, h2, h3, h4, h5⟩
      · by_cases hf : most ≤ (L.length : Int)
        · exact put_full a l d s m' n t w h hm hB hx hr h1 h4 hf
        · exact put_new a l d s m' n t w h hm hB hx hr h1 h4 h3 (by omega)
      · exact put_old a l d s m' n t w h hB hx hr h1 h2 h3 h4 h5
  take := by
    rintro w B p most L full m a l d ⟨N, b, q, Bt, rs, T, es, clock, rfl, hB, h⟩ hm a0 a1 l0 l1 d0 d1
    have hk : Ky.Ok ⟨a, l, d⟩ := ⟨a0, a1, l0, l1, d0, d1⟩
    rcases h.ask ⟨a, l, d⟩ with ⟨h1, h2⟩ | ⟨j, i, r, h1, h2, h3, h4⟩
    · exact take_no a l d w h hB (fun W hb => look_none h.im h.rts hk h1 W hb) h2
    · exact take_yes a l d w h hm hB hk (fun W hb => look_some h.im h.rts h.nd hk h1 h2 W hb) h1 h2 h3 h4
  best := by
    rintro w B p most L full m a l ⟨N, b, q, Bt, rs, T, es, clock, rfl, hB, h⟩ hm a0 a1 l0 l1
    exact best_any a l w h hm ⟨a0, a1, l0, l1⟩
  find := by
    rintro w B p most L full m x ⟨N, b, q, Bt, rs, T, es, clock, rfl, hB, h⟩ hm h0 h1
    exact find_any9 x w h hm h0 h1
  all := by
    rintro w B p most L full m ⟨N, b, q, Bt, rs, T, es, clock, rfl, hB, h⟩ hm
    exact all_any9 w h hm
  refused := by
    rintro w B p most L full m ⟨N, b, q, Bt, rs, T, es, clock, rfl, hB, h⟩ hm
    exact refused_any w h
end Go.Proofs.Ytcabeclbdjfoaaa
