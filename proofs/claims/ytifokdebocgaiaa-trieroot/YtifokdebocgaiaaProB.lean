/- Contracts of the program's New, Len, Get, isUsed. -/
import Derived.Test.YtifokdebocgaiaaPlaceA
namespace Go.Proofs.Ytifokdebocgaiaa
open Go.RowKit

set_option maxHeartbeats 400000 in
theorem len_any (N g cap : Nat) (most cnt : Int) (ns : List Nd) (w : World) (h : TrM w N g cap most cnt ns) :
    Calls Try.prog 21 #[.pointer (some ⟨N, 0, none⟩)] w fun e w' => e = .returned (.int .i64 cnt) ∧ Below w.heap.size w w' := by
  have c2 := h.c2
  clear h
  go_enter Try.func21, Try.ntmps21
  go_wp2
  go_ret
  exact ⟨rfl, Below.refl _ _⟩
/-- A trie with the root alone. -/
theorem good_new : Good [⟨0, 0, 0, false, 0⟩] fun _ => [] := by
  refine ⟨by decide, rfl, ?_, ?_, ?_, fun i h => by simp, ?_, ?_⟩
  · intro i x hx s hs
    have hi := lt_of_at hx
    obtain rfl : i = 0 := by simpa using hi
    simp at hx; subst hx
    cases s <;> exact absurd rfl hs
  · intro i x hx h0
    have hi := lt_of_at hx
    simp at hi; omega
  · intro i j hi hj _
    simp at hi hj; omega
  · intro x hx
    simp at hx; subst hx; rfl
  · intro i x hx
    have hi := lt_of_at hx
    obtain rfl : i = 0 := by simpa using hi
    simp at hx; subst hx
    exact ⟨by show (-9223372036854775808 : Int) ≤ 0; decide, by show (0 : Int) ≤ 9223372036854775807; decide⟩
theorem holds_new : Holds [⟨0, 0, 0, false, 0⟩] (fun _ => []) [] := by
  intro p
  constructor
  · intro h; cases h
  · rintro ⟨i, x, hx, hh, -⟩
    have hi := lt_of_at hx
    obtain rfl : i = 0 := by simpa using hi
    simp at hx; subst hx
    cases hh
theorem below_grown {w w' : World} (h : w.grownBy w' none) : Below w.heap.size w w' := ⟨h.os, h.tape, h.output, h.size, fun k hk => h.block k hk (by simp)⟩
theorem made0 : (madeCells (Value.agg #[.int .i64 0, .int .i64 0, .int .i64 0, .bool false, .int .i64 0]).cells (1 * 5)).toList = [(⟨0, 0, 0, false, 0⟩ : Nd)].flatMap Nd.cs := by
  simp [madeCells, Value.cells, Nd.cs]
  rfl
abbrev head0 (g : Nat) (most : Int) : Obj := .cells #[.slice (some ⟨g, 0, none⟩) 1 1, .int .i64 most, .int .i64 0] 56
theorem trm_new {w : World} {g : Nat} (most : Int) (h : OwnN w 0 (.slice (some ⟨g, 0, none⟩) 1 1) 1 [⟨0, 0, 0, false, 0⟩]) : TrM (w.alloc (head0 g most)) w.heap.size g 1 most 0 [⟨0, 0, 0, false, 0⟩] := by
  have hg : g < w.heap.size := by
    obtain ⟨cur, hg, _⟩ := h.block
    exact (Array.getElem?_eq_some_iff.1 hg).1
  exact ⟨by simp [go_sem], by simp [go_sem], by simp [go_sem], fun o => by simp [go_sem], h.later (below1 _ _), by omega, by simp⟩
set_option maxHeartbeats 400000 in
theorem new_any (most : Int) (w : World) :
    Calls Try.prog 10 #[.int .i64 most] w fun e w' => ∃ N g, e = .returned (.pointer (some ⟨N, 0, none⟩)) ∧ TrM w' N g 1 most 0 [⟨0, 0, 0, false, 0⟩] ∧ w.heap.size ≤ N ∧ w.heap.size ≤ g ∧ Below w.heap.size w w' := by
  obtain ⟨i, hi, hzz⟩ := Option.map_eq_some_iff.1 infoN
  simp only [Prod.mk.injEq] at hzz
  obtain ⟨hz0, hz1, hz2⟩ := hzz
  go_enter Try.func10, Try.ntmps10
  go_wp2_with (at_make; go_loud (refine wpList_make_full _ rfl _ _ 54 rfl 0 59 i _ 5 Try.underlying54 hi hz0 hz1 _ _ 1 1 1 rfl rfl rfl rfl (by rw [hz2]; decide) (by decide) (Nat.zero_le _) ?_; intro w1 own gr; have hb := below_grown gr; have ow : OwnN w1 0 (.slice (some ⟨w.heap.size, 0, none⟩) 1 1) 1 [⟨0, 0, 0, false, 0⟩] := (by unfold OwnN; rw [← made0]; exact own); have HT : Hid (TrM (w1.alloc (head0 w.heap.size most)) w1.heap.size w.heap.size 1 most 0 [⟨0, 0, 0, false, 0⟩]) := trm_new most ow; clear own gr ow))
  go_ret
  exact ⟨_, _, rfl, HT.out, hb.size, Nat.le_refl _, hb.trans ((below1 w1 _).mono hb.size)⟩
set_option maxHeartbeats 1000000 in
theorem get_any (N g cap : Nat) (most cnt : Int) (ns : List Nd) (ws : Nat → List Bool) (L : List Pr) (a l : Int) (w : World) (hT : TrM w N g cap most cnt ns) (hG : Good ns ws) (hH : Holds ns ws L) (hS : Srt L) (ha0 : 0 ≤ a) (ha1 : a < 4294967296) :
    Calls Try.prog 15 #[.pointer (some ⟨N, 0, none⟩), valX a l] w fun e w' => e = .returned (.tuple #[.int .i64 (getN L a l), .bool (getB L a l)]) ∧ Below w.heap.size w w' := by
  have HT : Hid (TrM w N g cap most cnt ns) := hT
  have HG : Hid (Good ns ws) := hG
  have hca := (hT.cap_le).1
  have HGet : Hid (∀ (i : Nat) (ok : Bool), ((ok = true ∧ mayB a l = true ∧ ∃ x : Nd, ns[i]? = some x ∧ ws i = wayX a l.toNat ∧ x.h = true) ∨ (ok = false ∧ (mayB a l = true → ∀ (j : Nat) (x : Nd), ns[j]? = some x → ws j = wayX a l.toNat → x.h = false))) → (ok = false ∧ getN L a l = 0 ∧ getB L a l = false) ∨ (ok = true ∧ ∃ x : Nd, ns[i]? = some x ∧ getN L a l = x.n ∧ getB L a l = true)) := by
    rintro i ok (⟨rfl, hm, x, hx, hw, hh⟩ | ⟨rfl, hn⟩)
    · have := holds_get hG hH hS ha0 ha1 hm hx hw
      rw [if_pos hh] at this
      exact .inr ⟨rfl, x, hx, by unfold getN; rw [this]; rfl, by unfold getB; rw [this]; rfl⟩
    · have := holds_not' hG hH ha0 ha1 hn
      exact .inl ⟨rfl, by unfold getN; rw [this]; rfl, by unfold getB; rw [this]; rfl⟩
  clear hT hG hH
  go_enter Try.func15, Try.ntmps15
  go_wp2_with (go_at_call 25; refine (place_any N g cap most cnt ns ws a l _ (HT.out.later (below1 _ _)) HG.out ha0 ha1).mono ?_; rintro e W1 ⟨i, ok, rfl, hb1, hpl⟩; have hD := HGet.out i ok hpl; clear hpl; have HGB : Hid (ok = false ∧ getN L a l = 0 ∧ getB L a l = false ∨ ok = true ∧ ∃ x : Nd, ns[i]? = some x ∧ getN L a l = x.n ∧ getB L a l = true) := hD; clear hD; have HT1 : Hid (TrM W1 N g cap most cnt ns) := (HT.out.later (below1 _ _)).later hb1; have z0 := HT1.out.c0; obtain ⟨rfl, hn1, hn2⟩ | ⟨rfl, x, hx, hn1, hn2⟩ := HGB.out; rotate_left; (have d4 := (HT1.out.at hx).2.2.2.2; have hi' : (i : Int) < (ns.length : Int) := by have := lt_of_at hx; omega))
  all_goals
    go_ret2
    exact ⟨by rw [hn1, hn2]; rfl, Below.out1 hb1⟩
end Go.Proofs.Ytifokdebocgaiaa
