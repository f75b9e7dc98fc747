/- The program's table in memory: a map of the routes, a trie of the sets of domains. -/
import Derived.Test.YtcabeclbdjfoaaaMapZ
import Derived.Test.YtcabeclbdjfoaaaMatY
import Derived.Test.YtcabeclbdjfoaaaTrieOk
import Derived.Test.YtcabeclbdjfoaaaTagZ
namespace Go.Proofs.Ytcabeclbdjfoaaa
open Go.RowKit

structure Tab (W : World) (N b : Nat) (q : Addr) (Bt : Nat → Prop) (most full : Int) (L rs : List Rt) (T : List Pr) (es : Array MapEntry) (clock m : Nat) : Prop where
  c0 : W.cell? ⟨N, 0, none⟩ = some (.map (some b))
  c1 : W.cell? ⟨N, 1, none⟩ = some (.pointer (some q))
  c2 : W.cell? ⟨N, 2, none⟩ = some (.int .i64 most)
  c3 : W.cell? ⟨N, 3, none⟩ = some (.int .i64 full)
  fz : ∀ o, W.frozen? ⟨N, o, none⟩ = false
  hb : W.heap[b]? = some (.map es clock)
  im : EsOf es rs
  pm : rs.Perm L
  tr : TR W Bt q most T m
  dm : Doms L T
  gd : GoodR L
  nb : N ≠ b
  nt : ¬ Bt N
  bt : ¬ Bt b
  ml : L.length ≤ m
  mm : (L.length : Int) ≤ max most 0
  f0 : 0 ≤ full
  f1 : full ≤ (m : Int)
  m64 : most ≤ 64
/-- The program's table at p has L. -/
def RB (W : World) (B : Nat → Prop) (p : Addr) (most : Int) (L : List Rt) (full : Int) (m : Nat) : Prop :=
  ∃ (N b : Nat) (q : Addr) (Bt : Nat → Prop) (rs : List Rt) (T : List Pr) (es : Array MapEntry) (clock : Nat), p = ⟨N, 0, none⟩ ∧ (∀ k, B k ↔ k = N ∨ k = b ∨ Bt k) ∧ Tab W N b q Bt most full L rs T es clock m

theorem rts_of {L : List Rt} (h : GoodR L) : Rts L := fun p hp => by
  have h1 := may_dom (h.m p hp)
  have h2 := may_len h1.1
  have h3 := h.u p hp
  exact ⟨h3.1, h3.2.1, by omega, by omega, by omega, by omega, by omega, by omega, by omega, by omega, by omega, by omega, h3.2.2.1, h3.2.2.2⟩
section
variable {W : World} {N b : Nat} {q : Addr} {Bt : Nat → Prop} {most full : Int} {L rs : List Rt} {T : List Pr} {es : Array MapEntry} {clock m : Nat}
theorem Tab.rts (h : Tab W N b q Bt most full L rs T es clock m) : Rts rs := fun p hp => rts_of h.gd p (h.pm.mem_iff.1 hp)
theorem Tab.nd (h : Tab W N b q Bt most full L rs T es clock m) : (rs.map Rt.k).Nodup := (h.pm.map Rt.k).nodup_iff.2 (nodup_srt h.gd.s)
theorem Tab.size (h : Tab W N b q Bt most full L rs T es clock m) : es.size = L.length := by rw [h.im.len, h.pm.length_eq]
theorem Tab.lt (h : Tab W N b q Bt most full L rs T es clock m) : N < W.heap.size := block_lt_of_cell h.c0
theorem Tab.b_lt (h : Tab W N b q Bt most full L rs T es clock m) : b < W.heap.size := (Array.getElem?_eq_some_iff.1 h.hb).1
theorem Tab.srt (h : Tab W N b q Bt most full L rs T es clock m) : Srt T := (trieC.good h.tr).1.s
theorem Tab.keep (h : Tab W N b q Bt most full L rs T es clock m) {W' : World} {C : Nat → Prop} (hk : Keep C W W') (hN : ¬ C N) (hbC : ¬ C b) (hB : ∀ k, Bt k → ¬ C k) : Tab W' N b q Bt most full L rs T es clock m := by
  have ec : ∀ o, W'.cell? ⟨N, o, none⟩ = W.cell? ⟨N, o, none⟩ := fun o => hk.cell (p := ⟨N, o, none⟩) h.lt hN
  exact { h with c0 := (ec 0).trans h.c0, c1 := (ec 1).trans h.c1, c2 := (ec 2).trans h.c2, c3 := (ec 3).trans h.c3, fz := fun o => (hk.frozen (p := ⟨N, o, none⟩) h.lt hN).trans (h.fz o), hb := (hk.block b h.b_lt hbC).trans h.hb, tr := trieC.keep h.tr hk hB }
theorem Tab.later (h : Tab W N b q Bt most full L rs T es clock m) {W' : World} (hb : Below W.heap.size W W') : Tab W' N b q Bt most full L rs T es clock m :=
  h.keep (C := fun _ => False) (keep_of hb) id id (fun _ _ h => h)
/-- Is there a route of that key? -/
theorem Tab.ask (h : Tab W N b q Bt most full L rs T es clock m) (k : Ky) : ((∀ r ∈ rs, r.k ≠ k) ∧ rAt k L = none) ∨ ∃ (j i : Nat) (r : Rt), rs[j]? = some r ∧ r.k = k ∧ r ∈ L ∧ rAt k L = some i := by
  cases hr : rAt k L with
  | none => exact .inl ⟨fun r hr' => rAt_none.1 hr r (h.pm.mem_iff.1 hr'), rfl⟩
  | some i =>
    obtain ⟨p, hp, hk, -⟩ := rAt_some hr
    have hpL := List.mem_of_getElem? hp
    obtain ⟨j, hj, hjp⟩ := List.getElem_of_mem (h.pm.mem_iff.2 hpL)
    exact .inr ⟨j, i, p, by rw [List.getElem?_eq_getElem hj, hjp], hk, hpL, rfl⟩
theorem refused_any (w : World) (h : Tab w N b q Bt most full L rs T es clock m) : Calls Try.prog 27 #[.pointer (some ⟨N, 0, none⟩)] w fun e w' => e = .returned (.int .i64 full) ∧ Below w.heap.size w w' := by
  have c3 := h.c3
  clear h
  go_enter Try.func27, Try.ntmps27
  go_wp2
  go_ret
  exact ⟨rfl, Below.refl _ _⟩
theorem set_lt (h : GoodR L) (a l : Int) : setR a l L < 65536 := setR_lt (good_d h)
set_option maxHeartbeats 1000000 in
theorem domainsOf_any (a l : Int) (w : World) (h : Tab w N b q Bt most full L rs T es clock m) (hm : m ≤ 2000) (hk : Px.Ok ⟨a, l⟩) :
    Calls Try.prog 36 #[.pointer (some ⟨N, 0, none⟩), valP a l] w fun e w' => e = .returned (.int .u16 (setR a l L : Int)) ∧ Below w.heap.size w w' := by
  have hlt := set_lt h.gd a l
  obtain ⟨s, hs⟩ : ∃ s, setR a l L = s := ⟨_, rfl⟩
  rw [hs] at hlt ⊢
  obtain ⟨u, hu⟩ : ∃ u, getB T a l = u := ⟨_, rfl⟩
  have hget : ∀ W', Below w.heap.size w W' → Calls Try.prog 51 #[.pointer (some q), valP a l] W' fun e w' => e = .returned (.tuple #[.int .i64 (s : Int), .bool u]) ∧ Below W'.heap.size W' w' := fun W' hb => by
    have := trieC.get a l (trieC.later h.tr hb) hm hk
    rw [doms_get h.dm, hs, hu] at this
    exact this
  have c1 := h.c1
  have hN := h.lt
  have k0 := cell2_regrown w (.int .u32 a) (.int .i64 l) 24
  obtain ⟨k0, k1⟩ := k0
  have k2 : ∀ d os, (Sort.grow (redrawn (w.alloc (.cells #[.int .u32 a, .int .i64 l] 24)) d) os).cell? ⟨N, 1, none⟩ = some (.pointer (some q)) := cell_regrown (cell_later (below1 _ _) c1)
  have hw : ((s : Int)) % 65536 = (s : Int) := by omega
  clear h hk hs hu hm
  go_enter Try.func36, Try.ntmps36
  go_wp2
  refine wp_region_quiet_below (by kernel_rfl) (by kernel_rfl) ?_
  repeat (go_big_quiet_step ((go_at_call 51; exact Calls.regrown_of (hget _ ((below1 _ _).trans ((below_regrown _ _ _).mono (by simp)))))))
  refine wpQuiet_nil ?_
  intro _ hw'
  obtain ⟨⟨dq, osq⟩, hw''⟩ := hw'
  subst hw''
  go_wp2
  go_ret
  exact ⟨ret_int (by omega), (below1 _ _).trans ((below_regrown _ dq osq).mono (by simp))⟩
end
end Go.Proofs.Ytcabeclbdjfoaaa
