/- All that an array of nodes has, in order. No program is named here. -/
import Derived.Test.YtcabeclbdjfoaaaNodB
namespace Go.Proofs.Ytcabeclbdjfoaaa

def lst : Nat → List Nd → (Nat → List Bool) → Nat → List Pr
  | 0, _, _, _ => []
  | f + 1, ns, ws, i => (if (nd ns i).h = true then [prN (ws i) (nd ns i).n] else []) ++ ((if (nd ns i).a = 0 then [] else lst f ns ws (nd ns i).a) ++ (if (nd ns i).b = 0 then [] else lst f ns ws (nd ns i).b))
theorem lexB_app : ∀ (p x y : List Bool), lexB x y → lexB (p ++ x) (p ++ y)
  | [], _, _, h => h
  | _ :: p, x, y, h => .inr ⟨rfl, lexB_app p x y h⟩
theorem lessN {p q : List Bool} {n m : Int} (hp : p.length ≤ 32) (hq : q.length ≤ 32) (h : lexB p q) : lessB (prN p n).a (prN p n).l (prN q m).a (prN q m).l = true := by
  have := lex_adr p q 0 (by omega) (by omega) h
  rw [lessB_iff]
  simp only [prN]
  omega
section
variable {ns : List Nd} {ws : Nat → List Bool}
theorem mem_lst (g : Good ns ws) : ∀ (f i : Nat), i < ns.length → ∀ q ∈ lst f ns ws i, ∃ (j : Nat) (r : List Bool), j < ns.length ∧ ws j = ws i ++ r ∧ (nd ns j).h = true ∧ q = prN (ws j) (nd ns j).n
  | 0, i, hi, q, hq => by simp [lst] at hq
  | f + 1, i, hi, q, hq => by
    rw [lst, List.mem_append, List.mem_append] at hq
    rcases hq with hq | hq | hq
    · split at hq
      · rename_i hh
        rw [List.mem_singleton] at hq
        exact ⟨i, [], hi, by simp, hh, hq⟩
      · cases hq
    · split at hq
      · cases hq
      · rename_i h0
        obtain ⟨k1, k2, k3⟩ := g.kid_nd hi false h0
        obtain ⟨j, r, h1, h2, h3, h4⟩ := mem_lst g f _ k1 q hq
        exact ⟨j, false :: r, h1, by rw [h2]; show ws ((nd ns i).kid false) ++ r = _; rw [k2]; simp, h3, h4⟩
    · split at hq
      · cases hq
      · rename_i h0
        obtain ⟨k1, k2, k3⟩ := g.kid_nd hi true h0
        obtain ⟨j, r, h1, h2, h3, h4⟩ := mem_lst g f _ k1 q hq
        exact ⟨j, true :: r, h1, by rw [h2]; show ws ((nd ns i).kid true) ++ r = _; rw [k2]; simp, h3, h4⟩
theorem lst_mem (g : Good ns ws) : ∀ (f i : Nat), i < ns.length → (ws i).length + f = 33 → ∀ (j : Nat) (r : List Bool), j < ns.length → ws j = ws i ++ r → (nd ns j).h = true → prN (ws j) (nd ns j).n ∈ lst f ns ws i
  | 0, i, hi, hf, j, r, hj, hw, hh => by have := g.d i hi; omega
  | f + 1, i, hi, hf, j, r, hj, hw, hh => by
    rw [lst, List.mem_append, List.mem_append]
    cases r with
    | nil =>
      have : i = j := g.i i j hi hj (by rw [hw]; simp)
      subst this
      left
      rw [if_pos hh]; simp
    | cons s r =>
      obtain ⟨h1, h2⟩ := g.behind (at_nd hi) hj hw
      obtain ⟨k1, k2, k3⟩ := g.kid_nd hi s h1
      have hl : (ws ((nd ns i).kid s)).length + f = 33 := by rw [k2, List.length_append]; simp; omega
      have ih := lst_mem g f _ k1 hl j r hj h2 hh
      right
      cases s
      · left; rw [if_neg (show ¬ (nd ns i).a = 0 from h1)]; exact ih
      · right; rw [if_neg (show ¬ (nd ns i).b = 0 from h1)]; exact ih
theorem srt_lst (g : Good ns ws) : ∀ (f i : Nat), i < ns.length → Srt (lst f ns ws i)
  | 0, i, hi => List.Pairwise.nil
  | f + 1, i, hi => by
    unfold Srt
    rw [lst, List.pairwise_append, List.pairwise_append]
    have side : ∀ (s : Bool) (h0 : (nd ns i).kid s ≠ 0), ∀ q ∈ lst f ns ws ((nd ns i).kid s), ∃ (j : Nat) (r : List Bool), j < ns.length ∧ ws j = ws i ++ s :: r ∧ q = prN (ws j) (nd ns j).n := by
      intro s h0 q hq
      obtain ⟨k1, k2, k3⟩ := g.kid_nd hi s h0
      obtain ⟨j, r, h1, h2, h3, h4⟩ := mem_lst g f _ k1 q hq
      exact ⟨j, r, h1, by rw [h2, k2]; simp, h4⟩
    refine ⟨?_, ⟨?_, ?_, ?_⟩, ?_⟩
    · split
      · exact List.pairwise_singleton _ _
      · exact List.Pairwise.nil
    · split
      · exact List.Pairwise.nil
      · rename_i h0
        exact srt_lst g f _ (g.kid_nd hi false h0).1
    · split
      · exact List.Pairwise.nil
      · rename_i h0
        exact srt_lst g f _ (g.kid_nd hi true h0).1
    · intro p hp q hq
      split at hp
      · cases hp
      split at hq
      · cases hq
      rename_i h0 h1
      obtain ⟨j, r, a1, a2, rfl⟩ := side false h0 p hp
      obtain ⟨k, t, b1, b2, rfl⟩ := side true h1 q hq
      refine lessN (g.d j a1) (g.d k b1) ?_
      rw [a2, b2]
      exact lexB_app _ _ _ (.inl ⟨rfl, rfl⟩)
    · intro p hp q hq
      split at hp
      · rw [List.mem_singleton] at hp
        subst hp
        have key : ∀ (s : Bool) (j : Nat) (r : List Bool), j < ns.length → ws j = ws i ++ s :: r → q = prN (ws j) (nd ns j).n → lessB (prN (ws i) (nd ns i).n).a (prN (ws i) (nd ns i).n).l q.a q.l = true := by
          rintro s j r a1 a2 rfl
          refine lessN (g.d i hi) (g.d j a1) ?_
          rw [a2]
          have := lexB_app (ws i) [] (s :: r) trivial
          rw [List.append_nil] at this
          exact this
        rw [List.mem_append] at hq
        rcases hq with hq | hq
        · split at hq
          · cases hq
          · rename_i h0
            obtain ⟨j, r, a1, a2, a3⟩ := side false h0 q hq
            exact key false j r a1 a2 a3
        · split at hq
          · cases hq
          · rename_i h0
            obtain ⟨j, r, a1, a2, a3⟩ := side true h0 q hq
            exact key true j r a1 a2 a3
      · cases hp
theorem lst_is (g : Good ns ws) {L : List Pr} (H : Holds ns ws L) (hs : Srt L) : lst 33 ns ws 0 = L := by
  refine srt_ext (srt_lst g 33 0 g.r) hs fun p => ?_
  rw [H p]
  constructor
  · intro hp
    obtain ⟨j, r, h1, h2, h3, rfl⟩ := mem_lst g 33 0 g.r p hp
    exact ⟨j, _, at_nd h1, h3, rfl⟩
  · rintro ⟨j, x, hx, hh, rfl⟩
    rw [← nd_of hx] at hh ⊢
    exact lst_mem g 33 0 g.r (by rw [g.w]; rfl) j (ws j) (lt_of_at hx) (by rw [g.w]; rfl) hh
end
end Go.Proofs.Ytcabeclbdjfoaaa
