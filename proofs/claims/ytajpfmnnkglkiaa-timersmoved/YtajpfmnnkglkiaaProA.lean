/- The program's timers in memory: a map of ids to times behind one cell; the contracts of New, Len, Stop and Set. -/
import Derived.Test.YtajpfmnnkglkiaaMatR
import Derived.Test.YtajpfmnnkglkiaaTimR
import Derived.Maps.OwnSet
namespace Go.Proofs.Ytajpfmnnkglkiaa
open Go.RowKit Go.Maps

theorem lawI : Keyed Try.prog 3 := int_keyed Try.underlying3
theorem zeroI (w : World) : (zeroValue 3).run Try.prog w = .ok (.int .i64 0) w := by kernel_rfl
/-- Block b is a map that reads as L. -/
def MapT (W : World) (b : Nat) (L : List Tm) : Prop := ∃ D : DataW Unit, W.ownsMap Try.prog 3 (plainElem Try.prog 3) b L.length D ∧ Rd D L
theorem owns_tight {W : World} {b n : Nat} {D : DataW Unit} (h : W.ownsMap Try.prog 3 (plainElem Try.prog 3) b n D) : W.ownsMap Try.prog 3 (plainElem Try.prog 3) b (Maps.size D) D := by
  obtain ⟨es, clock, hb, F, hs, rfl⟩ := h
  exact ⟨es, clock, hb, F, by simp [Maps.size, length_sorted], rfl⟩
theorem mapT_of {W : World} {b n : Nat} {D : DataW Unit} {L : List Tm} (h : W.ownsMap Try.prog 3 (plainElem Try.prog 3) b n D) (hr : Rd D L) : MapT W b L := by
  have := owns_tight h
  rw [hr.size] at this
  exact ⟨D, this, hr⟩
theorem MapT.lt {W : World} {b : Nat} {L : List Tm} (h : MapT W b L) : b < W.heap.size := by
  obtain ⟨D, h, -⟩ := h
  exact h.lt
theorem MapT.same {W W' : World} {b : Nat} {L : List Tm} (h : MapT W b L) (hb : W'.heap[b]? = W.heap[b]?) : MapT W' b L := by
  obtain ⟨D, ⟨es, clock, h1, h2⟩, hr⟩ := h
  exact ⟨D, ⟨es, clock, hb.trans h1, h2⟩, hr⟩
/-- The timers are L, behind block N, in block b. -/
structure Tmr (W : World) (N b : Nat) (L : List Tm) (m : Nat) : Prop where
  c0 : W.cell? ⟨N, 0, none⟩ = some (.map (some b))
  mp : MapT W b L
  nb : N ≠ b
  gd : GoodT L
  lm : L.length ≤ m
  ll : L.length ≤ 256
/-- The program's timers at p are L. -/
def TM (W : World) (B : Nat → Prop) (p : Addr) (L : List Tm) (m : Nat) : Prop := ∃ N b, p = ⟨N, 0, none⟩ ∧ (∀ k, B k ↔ k = N ∨ k = b) ∧ Tmr W N b L m
theorem tms_of {L : List Tm} (h : GoodT L) : Tms L := fun p hp => by
  have h1 := h.r p hp
  have h2 := h.z p hp
  exact ⟨h2.1, h2.2, by omega, by omega⟩
section
variable {W W' : World} {N b : Nat} {L L' : List Tm} {m : Nat}
theorem Tmr.lt (h : Tmr W N b L m) : N < W.heap.size := block_lt_of_cell h.c0
theorem Tmr.keep (h : Tmr W N b L m) {C : Nat → Prop} (hk : Keep C W W') (hN : ¬ C N) (hb : ¬ C b) : Tmr W' N b L m :=
  { h with c0 := (hk.cell (p := ⟨N, 0, none⟩) h.lt hN).trans h.c0, mp := h.mp.same (hk.block b h.mp.lt hb) }
theorem Tmr.later (h : Tmr W N b L m) (hb : Below W.heap.size W W') : Tmr W' N b L m := h.keep (C := fun _ => False) (keep_of hb) id id
theorem Tmr.up (h : Tmr W N b L m) : Tmr W N b L (m + 1) := { h with lm := Nat.le_succ_of_le h.lm }
/-- What has turned the map alone. -/
theorem keep_turned (h : W.mapTurned W' b) : Keep (fun k => k = N ∨ k = b) W W' := by
  have g := h.grown
  exact ⟨g.os, g.tape, g.output, g.size, fun k hk hn => g.block k hk fun e => hn (.inr (by simpa using e))⟩
theorem keep_grown (g : W.grownBy W' (some b)) : Keep (fun k => k = N ∨ k = b) W W' :=
  ⟨g.os, g.tape, g.output, g.size, fun k hk hn => g.block k hk fun e => hn (.inr (by simpa using e))⟩
theorem Tmr.turned (h : Tmr W N b L m) (hg : W.grownBy W' (some b)) (hm : MapT W' b L') (hG : GoodT L') (hl : L'.length ≤ L.length + 1) (h2 : L'.length ≤ 256) : Tmr W' N b L' (m + 1) := by
  have := h.lm
  exact ⟨(World.cell?_of_block (w := W) (hg.block N h.lt fun e => h.nb (by simpa using e))).trans h.c0, hm, h.nb, hG, by omega, h2⟩
theorem doneK_of {w w' : World} {B : Nat → Prop} (hB : ∀ k, B k ↔ k = N ∨ k = b) {x : Int} (h : Tmr w' N b L' m) (hk : Keep (fun k => k = N ∨ k = b) w w') :
    ∃ B', (Ending.returned (.int .i64 x)) = .returned (.int .i64 x) ∧ TM w' B' ⟨N, 0, none⟩ L' m ∧ (∀ k, B' k → B k ∨ w.heap.size ≤ k) ∧ Keep B w w' :=
  ⟨B, rfl, ⟨N, b, rfl, hB, h⟩, fun _ hk => .inl hk, hk.mono fun i _ hi => (hB i).2 hi⟩
end
theorem new_any (w : World) : Calls Try.prog 9 #[] w fun e w' => ∃ p B, e = .returned (.pointer (some p)) ∧ TM w' B p [] 0 ∧ (∀ k, B k → w.heap.size ≤ k) ∧ Below w.heap.size w w' := by
  have hmm := @run_makeMap Try.prog
  go_enter Try.func9, Try.ntmps9
  go_wp2
  go_ret
  have h0 := World.ownsMap_made w Try.prog 3 (plainElem (H := Unit) Try.prog 3)
  refine ⟨_, fun k => k = w.heap.size + 1 ∨ k = w.heap.size, rfl, ⟨w.heap.size + 1, w.heap.size, rfl, fun k => Iff.rfl, ⟨by simp [go_sem], mapT_of (h0.alloc _) rd_nil, by omega, goodT_nil, Nat.le_refl _, by decide⟩⟩, fun k hk => by omega, below2 _ _ _⟩
section
variable {N b : Nat} {L : List Tm} {m : Nat}
theorem len_any (w : World) (h : Tmr w N b L m) : Calls Try.prog 18 #[.pointer (some ⟨N, 0, none⟩)] w fun e w' => e = .returned (.int .i64 (L.length : Int)) ∧ Below w.heap.size w w' := by
  obtain ⟨D, hown, hr⟩ := h.mp
  have hs := hr.size
  have c0 := h.c0
  have hrun := fun ty => hown.len (t := 48) (e := 3) Try.underlying48 ty
  rw [hs] at hrun
  clear h hr hs hown
  go_enter Try.func18, Try.ntmps18
  go_wp2
  go_ret
  exact ⟨rfl, Below.refl _ _⟩
set_option maxHeartbeats 1000000 in
theorem stop_any (i : Int) (w : World) (h : Tmr w N b L m) (hz : -9223372036854775808 ≤ i ∧ i ≤ 9223372036854775807) :
    Calls Try.prog 12 #[.pointer (some ⟨N, 0, none⟩), .int .i64 i] w fun e w' => e = .returned (.int .i64 (stopTX L i)) ∧ Tmr w' N b (stopT L i) (m + 1) ∧ Keep (fun k => k = N ∨ k = b) w w' := by
  have HT : Hid (Tmr w N b L m) := h
  obtain ⟨D, hown, hr⟩ := h.mp
  have HR : Hid (Rd D L) := hr
  have hkey := keyOf_int_mk Try.underlying3 (a := i) (WalkArith.wf_i64 hz)
  have c0 := h.c0
  have hh : Maps.has D (.int .i64 i) = hasI i L := hr.has i
  clear h hr hz
  unfold stopTX
  by_cases hi : hasI i L = true
  · rw [hi] at hh
    have HI : Hid (hasI i L = true) := hi
    rw [if_pos hi]
    clear hi
    go_enter Try.func12, Try.ntmps12
    go_wp2_with (first
      | (at_lookup; refine wpList_lookup_own_ok_int _ rfl _ _ 48 rfl 3 3 .i64 lawI Try.underlying48 Try.underlying3 (zeroI _) b _ D rfl hown _ _ rfl hkey ?_; intro c hat hwc; clear hat hwc)
      | (at_delete; refine wpList_delete_own _ rfl _ _ 48 3 rfl 3 lawI Try.underlying48 _ b _ D rfl hown _ _ rfl hkey ?_; intro w1 hown1 hturn1)
      | go_in)
    go_ret
    exact ⟨rfl, HT.out.turned hturn1.grown (mapT_of hown1 (HR.out.del (hown.tidy lawI) HT.out.gd.u i)) (goodT_stop HT.out.gd i) (Nat.le_succ_of_le (stopT_len_le L i)) (Nat.le_trans (stopT_len_le L i) HT.out.ll), keep_turned hturn1⟩
  · have hi : hasI i L = false := by simpa using hi
    rw [hi] at hh
    rw [if_neg (by simp [hi]), stopT_none hi]
    clear hi
    go_enter Try.func12, Try.ntmps12
    go_wp2_with (first
      | (at_lookup; refine wpList_lookup_own_ok_int _ rfl _ _ 48 rfl 3 3 .i64 lawI Try.underlying48 Try.underlying3 (zeroI _) b _ D rfl hown _ _ rfl hkey ?_; intro c hat hwc; clear hat hwc)
      | go_in)
    go_ret
    exact ⟨rfl, HT.out.up, Keep.refl _ _⟩
end
end Go.Proofs.Ytajpfmnnkglkiaa
