/- What changes of the program's table leave; the contract of New. -/
import Derived.Test.YtcabeclbdjfoaaaProT
import Derived.Test.YtcabeclbdjfoaaaLawR
namespace Go.Proofs.Ytcabeclbdjfoaaa
open Go.RowKit
open Go.ChangeMaps (setBlock heap_setBlock_same heap_setBlock_other)

theorem Keep.setBlock {C : Nat → Prop} {a W : World} (h : Keep C a W) {b : Nat} (hc : C b) {es : Array MapEntry} {clock : Nat} (hb : W.heap[b]? = some (.map es clock)) (o : Obj) : Keep C a (setBlock W b o) :=
  ⟨h.os, h.tape, h.output, by simpa [Go.ChangeMaps.setBlock] using h.size, fun k hk hn => (heap_setBlock_other hb o (fun e => hn (by rw [e]; exact hc))).trans (h.block k hk hn)⟩
section
variable {w : World} {N b : Nat} {q : Addr} {Bt Bt' B : Nat → Prop} {most full full' : Int} {L rs L' rs' : List Rt} {T T' : List Pr} {es es' : Array MapEntry} {clock clock' m : Nat}
theorem Tab.turn (h : Tab w N b q Bt most full L rs T es clock m) {V : World} (hk : Keep (fun k => k = b ∨ Bt k) w V) (hb : V.heap[b]? = some (.map es' clock')) (him : EsOf es' rs') (hpm : rs'.Perm L')
    (htr : TR V Bt' q most T' (m + 1)) (hBt : ∀ k, Bt' k → Bt k ∨ w.heap.size ≤ k) (hdm : Doms L' T') (hgd : GoodR L') (hml : L'.length ≤ m + 1) (hmm : (L'.length : Int) ≤ max most 0) : Tab V N b q Bt' most full L' rs' T' es' clock' (m + 1) := by
  have hN : ¬ (N = b ∨ Bt N) := fun e => e.elim h.nb h.nt
  have ec : ∀ o, V.cell? ⟨N, o, none⟩ = w.cell? ⟨N, o, none⟩ := fun o => hk.cell (p := ⟨N, o, none⟩) h.lt hN
  refine ⟨(ec 0).trans h.c0, (ec 1).trans h.c1, (ec 2).trans h.c2, (ec 3).trans h.c3, fun o => (hk.frozen (p := ⟨N, o, none⟩) h.lt hN).trans (h.fz o), hb, him, hpm, htr, hdm, hgd, h.nb, fun e => ?_, fun e => ?_, hml, hmm, h.f0, by have := h.f1; omega, h.m64⟩
  · rcases hBt N e with e | e
    · exact h.nt e
    · have := h.lt; omega
  · rcases hBt b e with e | e
    · exact h.bt e
    · have := h.b_lt; omega
theorem Tab.setFull (h : Tab w N b q Bt most full L rs T es clock m) (h0 : 0 ≤ full') (h1 : full' ≤ (m : Int) + 1) : Tab (w.setCell ⟨N, 3, none⟩ (.int .i64 full')) N b q Bt most full' L rs T es clock (m + 1) := by
  have hk : Keep (fun k => k = N) w (w.setCell ⟨N, 3, none⟩ (.int .i64 full')) := (Keep.refl (fun k => k = N) w).setCell (p := ⟨N, 3, none⟩) rfl _
  refine ⟨?_, ?_, ?_, World.cell?_setCell_same _ _ _ h.c3, fun o => ?_, (hk.block b h.b_lt (fun e => h.nb e.symm)).trans h.hb, h.im, h.pm, trieC.up (trieC.keep h.tr hk (fun k hB e => h.nt (by rw [← e]; exact hB))), h.dm, h.gd, h.nb, h.nt, h.bt, by have := h.ml; omega, h.mm, h0, by omega, h.m64⟩
  · rw [World.cell?_setCell_other _ _ _ _ (by simp)]; exact h.c0
  · rw [World.cell?_setCell_other _ _ _ _ (by simp)]; exact h.c1
  · rw [World.cell?_setCell_other _ _ _ _ (by simp)]; exact h.c2
  · rw [World.frozen?_setCell]; exact h.fz o
theorem Tab.up (h : Tab w N b q Bt most full L rs T es clock m) : Tab w N b q Bt most full L rs T es clock (m + 1) :=
  { h with tr := trieC.up h.tr, ml := Nat.le_succ_of_le h.ml, f1 := by have := h.f1; omega }
theorem Tab.ends {V : World} (hT : Tab V N b q Bt' most full' L' rs' T' es' clock' (m + 1)) (hB : ∀ k, B k ↔ k = N ∨ k = b ∨ Bt k) (hBt : ∀ k, Bt' k → Bt k ∨ w.heap.size ≤ k) (hk : Keep B w V) {x : Int} {e : Ending} (he : e = .returned (.int .i64 x)) : DoneC RB w B ⟨N, 0, none⟩ most L' full' (m + 1) x e V := by
  refine ⟨fun k => k = N ∨ k = b ∨ Bt' k, he, ⟨N, b, q, Bt', rs', T', es', clock', rfl, fun _ => Iff.rfl, hT⟩, fun k hk => ?_, hk⟩
  rcases hk with hk | hk | hk
  · exact .inl ((hB k).2 (.inl hk))
  · exact .inl ((hB k).2 (.inr (.inl hk)))
  · rcases hBt k hk with h | h
    · exact .inl ((hB k).2 (.inr (.inr h)))
    · exact .inr h
/-- The domains of a prefix: by the trie alone. -/
theorem domainsOf_gen (a l : Int) (w : World) (c1 : w.cell? ⟨N, 1, none⟩ = some (.pointer (some q))) (htr : TR w Bt q most T m) (hdm : Doms L T) (hgd : GoodR L) (hm : m ≤ 2000) (hk : Px.Ok ⟨a, l⟩) :
    Calls Try.prog 36 #[.pointer (some ⟨N, 0, none⟩), valP a l] w fun e w' => e = .returned (.int .u16 (setR a l L : Int)) ∧ Below w.heap.size w w' := by
  have hlt := set_lt hgd a l
  obtain ⟨s, hs⟩ : ∃ s, setR a l L = s := ⟨_, rfl⟩
  rw [hs] at hlt ⊢
  obtain ⟨u, hu⟩ : ∃ u, getB T a l = u := ⟨_, rfl⟩
  have hget : ∀ W', Below w.heap.size w W' → Calls Try.prog 51 #[.pointer (some q), valP a l] W' fun e w' => e = .returned (.tuple #[.int .i64 (s : Int), .bool u]) ∧ Below W'.heap.size W' w' := fun W' hb => by
    have := trieC.get a l (trieC.later htr hb) hm hk
    rw [doms_get hdm, hs, hu] at this
    exact this
  obtain ⟨k0, k1⟩ := cell2_regrown w (.int .u32 a) (.int .i64 l) 24
  have k2 : ∀ d os, (Sort.grow (redrawn (w.alloc (.cells #[.int .u32 a, .int .i64 l] 24)) d) os).cell? ⟨N, 1, none⟩ = some (.pointer (some q)) := cell_regrown (cell_later (below1 _ _) c1)
  have hw : ((s : Int)) % 65536 = (s : Int) := by omega
  clear htr hdm hgd hk hs hu hm
  go_enter Try.func36, Try.ntmps36
  go_wp2
  refine wp_region_quiet_below (by kernel_rfl) (by kernel_rfl) ?_
  repeat (go_big_quiet_step ((go_at_call 51; exact Calls.regrown_of (hget _ ((below1 _ _).trans ((below_regrown _ _ _).mono (by simp)))))))
  refine wpQuiet_nil ?_
  intro _ hw'
  obtain ⟨⟨dq, osq⟩, hw''⟩ := hw'
  subst hw''
  go_wp2
  go_ret
  exact ⟨ret_int (by omega), (below1 _ _).trans ((below_regrown _ dq osq).mono (by simp))⟩
end
theorem below_al' {W0 X : World} (h : Below W0.heap.size W0 X) (o : Obj) : Below W0.heap.size W0 (X.alloc o) := h.alloc h.size _
set_option maxHeartbeats 1000000 in
theorem new_any9 (most : Int) (w : World) (hm0 : -9223372036854775808 ≤ most) (hm1 : most ≤ 9223372036854775807) :
    Calls Try.prog 15 #[.int .i64 most] w fun e w' => ∃ p B, e = .returned (.pointer (some p)) ∧ RB w' B p (min most 64) [] 0 0 ∧ (∀ k, B k → w.heap.size ≤ k) ∧ Below w.heap.size w w' := by
  have hmm := @run_makeMap Try.prog
  have HD : Hid (∀ (mm : Int) (W1 : World) (p : Addr) (Bt : Nat → Prop), min most 64 = mm → TR W1 Bt p mm [] 0 → (∀ k, Bt k → (w.alloc (.map #[] 0)).heap.size ≤ k) → Below (w.alloc (.map #[] 0)).heap.size (w.alloc (.map #[] 0)) W1 →
      RB (W1.alloc (.cells #[.map (some w.heap.size), .pointer (some p), .int .i64 mm, .int .i64 0] 65)) (fun k => k = W1.heap.size ∨ k = w.heap.size ∨ Bt k) ⟨W1.heap.size, 0, none⟩ (min most 64) [] 0 0 ∧ Below w.heap.size w (W1.alloc (.cells #[.map (some w.heap.size), .pointer (some p), .int .i64 mm, .int .i64 0] 65)) ∧ w.heap.size ≤ W1.heap.size ∧ ∀ k, Bt k → w.heap.size ≤ k) := by
    intro mm W1 p Bt hmm' htr hBt hb1
    subst hmm'
    have hsz := hb1.size
    simp at hsz
    have hlt : w.heap.size < W1.heap.size := by omega
    refine ⟨⟨W1.heap.size, w.heap.size, p, Bt, [], [], #[], 0, rfl, fun _ => Iff.rfl, ?_⟩, below_al' (Below.out1 hb1) _, Nat.le_of_lt hlt, fun k hk => ?_⟩
    · have hb2 := below1 W1 (.cells #[.map (some w.heap.size), .pointer (some p), .int .i64 (min most 64), .int .i64 0] 65)
      refine ⟨?_, ?_, ?_, ?_, fun o => ?_, ?_, esOf_nil, List.Perm.refl _, trieC.later htr hb2, doms_nil, goodR_nil, by omega, fun e => ?_, fun e => ?_, Nat.le_refl _, by simp; omega, Int.le_refl _, Int.le_refl _, by omega⟩
      · simp [go_sem]
      · simp [go_sem]
      · simp [go_sem]
      · simp [go_sem]
      · simp [go_sem]
      · rw [hb2.block _ hlt, hb1.block _ (by simp)]
        exact Array.getElem?_push_size
      · have := trieC.lt htr _ e; omega
      · have := hBt _ e; simp at this; omega
    · have := hBt k hk; simp at this; omega
  by_cases hlt : 64 < most
  · have HM : Hid (min most 64 = 64) := by unfold Hid; omega
    clear hm0 hm1
    go_enter Try.func15, Try.ntmps15
    go_wp2_with (go_at_call 33; refine (trieC.new 64 _ (by decide) (by decide)).mono ?_; rintro e W1 ⟨p, Bt, rfl, htr, hBt, hb1⟩; obtain ⟨r1, r2, r3, r4⟩ := HD.out 64 W1 p Bt HM.out htr hBt hb1; clear htr hBt hb1)
    go_ret
    exact ⟨_, _, rfl, r1, fun k hk => hk.elim (fun e => by omega) (fun e => e.elim (fun e => by omega) (r4 k)), r2⟩
  · have HM : Hid (min most 64 = most) := by unfold Hid; omega
    go_enter Try.func15, Try.ntmps15
    go_wp2_with (go_at_call 33; refine (trieC.new most _ hm0 hm1).mono ?_; rintro e W1 ⟨p, Bt, rfl, htr, hBt, hb1⟩; obtain ⟨r1, r2, r3, r4⟩ := HD.out most W1 p Bt HM.out htr hBt hb1; clear htr hBt hb1)
    go_ret
    exact ⟨_, _, rfl, r1, fun k hk => hk.elim (fun e => by omega) (fun e => e.elim (fun e => by omega) (r4 k)), r2⟩
end Go.Proofs.Ytcabeclbdjfoaaa
