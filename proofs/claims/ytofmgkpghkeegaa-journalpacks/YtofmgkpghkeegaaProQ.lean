/- The contract of the program's Pack. -/
import Derived.Test.YtofmgkpghkeegaaProC
import Derived.Test.YtofmgkpghkeegaaProP
import Derived.Test.YtofmgkpghkeegaaProF
namespace Go.Proofs.Ytofmgkpghkeegaa
open Go.RowKit Go.Maps

/-- While Pack goes round: j facts are laid on the new device. -/
structure PackR (W1 W : World) (N : Nat) (F : List Fc) (j : Nat) (ad : Option Addr) (n cap : Nat) : Prop where
  c1 : W.cell? ⟨N, 1, none⟩ = some (.slice ad n cap)
  own : Own8 W W1.heap.size 5 (.slice ad n cap) n (bytesJ (F.take j))
  kp : Keep (fun k => k = N) W1 W
  co : ∀ o u, o ≠ 1 → W1.cell? ⟨N, o, none⟩ = some u → W.cell? ⟨N, o, none⟩ = some u
  fz : ∀ o, W.frozen? ⟨N, o, none⟩ = false
  lt : N < W.heap.size
section
variable {W1 W W2 W5 : World} {N j n cap : Nat} {F : List Fc} {ad a5 : Option Addr} {c5 : Nat}
theorem PackR.start (h : ∀ o, W1.frozen? ⟨N, o, none⟩ = false) {x : Value} (hx : W1.cell? ⟨N, 1, none⟩ = some x) : PackR W1 (W1.setCell ⟨N, 1, none⟩ (.slice none 0 0)) N F 0 none 0 0 :=
  ⟨World.cell?_setCell_same _ _ _ hx, own8_nil _ _ _, (Keep.refl (fun k => k = N) W1).setCell (p := ⟨N, 1, none⟩) rfl _, fun o u ho hu => by rw [World.cell?_setCell_other _ _ _ _ (by simp)]; exact hu, fun o => by rw [World.frozen?_setCell]; exact h o, by have := block_lt_of_cell hx; simpa [World.setCell] using this⟩
theorem PackR.own_ne (h : PackR W1 W N F j ad n cap) (hN : N < W1.heap.size) : (Value.slice ad n cap).ownBlock ≠ some N := fun e => by have := h.own.lt N e; omega
/-- What stands behind an append to the new device. -/
theorem PackR.at (h : PackR W1 W N F j ad n cap) (hN : N < W1.heap.size) (hb : Below W.heap.size W W2) (hg : W2.grownBy W5 (Value.slice ad n cap).ownBlock) : ∀ o, W5.cell? ⟨N, o, none⟩ = W.cell? ⟨N, o, none⟩ ∧ W5.frozen? ⟨N, o, none⟩ = false := fun o => by
  have h1 : W5.heap[N]? = W.heap[N]? := (hg.block N (Nat.lt_of_lt_of_le h.lt hb.size) fun e => h.own_ne hN e.symm).trans (hb.block N h.lt)
  exact ⟨World.cell?_of_block (w := W) (a := ⟨N, o, none⟩) h1, (World.frozen?_of_block (w := W) (a := ⟨N, o, none⟩) h1).trans (h.fz o)⟩
theorem PackR.step (h : PackR W1 W N F j ad n cap) (hN : N < W1.heap.size) (hb : Below W.heap.size W W2) (hg : W2.grownBy W5 (Value.slice ad n cap).ownBlock) {n' : Nat} (own5 : Own8 W5 W1.heap.size 5 (.slice a5 n' c5) n' (bytesJ (F.take (j + 1)))) : PackR W1 (W5.setCell ⟨N, 1, none⟩ (.slice a5 n' c5)) N F (j + 1) a5 n' c5 := by
  have hat := h.at hN hb hg
  have hk : Keep (fun k => k = N) W1 W5 := (h.kp.then hb).trans (keep_row hg) fun i hi e => by have := h.own.lt i e; omega
  refine ⟨?_, ?_, hk.setCell (p := ⟨N, 1, none⟩) rfl _, fun o u ho hu => ?_, fun o => ?_, ?_⟩
  · exact World.cell?_setCell_same _ _ _ ((hat 1).1.trans h.c1)
  · exact own5.same fun g hg' => Below.heap_setCell _ _ _ _ (show g ≠ N by have := own5.lt g hg'; omega)
  · rw [World.cell?_setCell_other _ _ _ _ (by simp), (hat o).1]; exact h.co o u ho hu
  · rw [World.frozen?_setCell]; exact (hat o).2
  · have := h.lt; have := hb.size; have := hg.size; simp [World.setCell]; omega
/-- The facts stand while the device is written. -/
theorem PackR.row {base nF cF : Nat} {aF : Option Addr} (h : PackR W1 W N F j ad n cap) (own : OwnF W1 base (.slice aF nF cF) nF F) (hb : N < base) (hF : Fcs F) : RowF W aF nF F := by
  refine OwnF.row (own.same fun g hg => h.kp.block g (own.own_lt hg) fun e => ?_) hF
  have := own.lt g hg
  omega
end
section
variable {N b K m : Nat} {room : Int} {v : Value} {L : List Fc}
theorem Jor.packed {w W1 W : World} {nF cap n : Nat} {ad : Option Addr} (h : Jor w N b v room L K m) (h1 : Below w.heap.size w W1) (hP : PackR W1 W N (factsJ L) nF ad n cap) (hn : n = 12 * nF) (hF : (factsJ L).length = nF) :
    Jor (W.setCell ⟨N, 2, none⟩ (.int .i64 (12 * (nF : Int)))) N b (.slice ad n cap) room (factsJ L) nF (m + 1) ∧ Keep (fpP N b v) w (W.setCell ⟨N, 2, none⟩ (.int .i64 (12 * (nF : Int)))) := by
  have hj := h.later h1
  have hle := factsJ_len L
  have hbk : W.heap[b]? = W1.heap[b]? := hP.kp.block b hj.mp.lt h.nb
  have key : ∀ o u, o ≠ 2 → W.cell? ⟨N, o, none⟩ = some u → (W.setCell ⟨N, 2, none⟩ (.int .i64 (12 * (nF : Int)))).cell? ⟨N, o, none⟩ = some u := fun o u ho hu => by rw [World.cell?_setCell_other _ _ _ _ (by simp)]; exact hu
  have own := hP.own
  rw [← hF, List.take_length] at own
  refine ⟨⟨key 0 _ (by decide) (hP.co 0 _ (by decide) hj.c0), key 1 _ (by decide) hP.c1, World.cell?_setCell_same _ _ _ (hP.co 2 _ (by decide) hj.c2), key 3 _ (by decide) (hP.co 3 _ (by decide) hj.c3), fun o => by rw [World.frozen?_setCell]; exact hP.fz o, ?_, ?_, h.nb, fun e => ?_, factsJ_sub h.ok, factsJ_sub h.may, by omega, by have := h.lm; omega, ?_⟩, ?_⟩
  · subst hn
    rw [hF]
    refine (own.base (Nat.succ_le_of_lt hj.lt)).same fun g hg => Below.heap_setCell _ _ _ _ (show g ≠ N by have := own.lt g hg; have := hj.lt; omega)
  · refine (h.mp.facts.same ?_).up (Nat.le_succ _)
    rw [Below.heap_setCell _ _ _ _ h.nb, hbk, h1.block b h.mp.lt]
  · have := own.lt b e; have := hj.mp.lt; omega
  · rcases h.lr with h0 | h0
    · left; omega
    · right; omega
  · refine Keep.setCell ?_ (p := ⟨N, 2, none⟩) (.inl rfl) _
    exact (keep_of (B := fpP N b v) h1).trans hP.kp fun i _ hi => .inl hi
set_option maxRecDepth 100000 in
set_option maxHeartbeats 4000000 in
theorem pack_any (hS : SortC) (w : World) {B : Nat → Prop} (hB : ∀ k, B k ↔ fpP N b v k) (h : Jor w N b v room L K m) (hm : m ≤ 2000) :
    Calls Try.prog 17 #[.pointer (some ⟨N, 0, none⟩)] w (DoneJ JM w B ⟨N, 0, none⟩ room (factsJ L) (factsJ L).length (m + 1) (.returned (.tuple #[]))) := by
  have HS : Hid SortC := hS
  have HT : Hid (Jor w N b v room L K m) := h
  have HB : Hid (∀ k, B k ↔ fpP N b v k) := hB
  have HM : Hid (m ≤ 2000 ∧ (factsJ L).length ≤ 2000) := ⟨hm, by have := factsJ_len L; have := h.lm; omega⟩
  have HFk : Hid (Fcs (factsJ L) ∧ ∀ p ∈ factsJ L, MayF p) := ⟨factsJ_sub h.ok, factsJ_sub h.may⟩
  have hNw := h.lt
  clear h hB hS hm
  go_enter Try.func17, Try.ntmps17
  go_wp2_with (go_at_call 22; refine (facts_any HS.out _ HT.out (Nat.le_trans HM.out.1 (by decide))).mono ?_; rintro e W1 ⟨aF, nF, cF, rfl, own, hb⟩; have HO : Hid (OwnF W1 w.heap.size (.slice aF nF cF) nF (factsJ L)) := own; have HB1 : Hid (Below w.heap.size w W1) := hb; have c1 := (HT.out.later hb).c1; have f1 := (HT.out.later hb).fz 1; clear own hb)
  have HNF : Hid ((factsJ L).length = nF ∧ nF ≤ 2000 ∧ N < W1.heap.size) := ⟨HO.out.len, by have := HO.out.len; have := HM.out.2; omega, Nat.lt_of_lt_of_le hNw HB1.out.size⟩
  have HST := PackR.start (F := factsJ L) (HT.out.later HB1.out).fz c1
  have HST' : Hid (PackR W1 (W1.setCell ⟨N, 1, none⟩ (.slice none 0 0)) N (factsJ L) 0 none 0 0) := HST
  have hn2 : nF ≤ 2000 := HNF.out.2.1
  clear HST c1 f1
  go_loopw [12] (fun i_ W => ∃ (j : Nat) (ad : Option Addr) (n cap : Nat), j ≤ nF ∧ i_ = .int .i64 j ∧ Hid (n = 12 * j) ∧ Hid (PackR W1 W N (factsJ L) j ad n cap)) (fun i_ _ => nF - (intOf i_).toNat)
  case atStart => exact ⟨0, none, 0, 0, Nat.zero_le _, rfl, rfl, HST'⟩
  case round =>
    obtain ⟨j, ad, n, cap, hj, rfl, HN, HP⟩ := hrel
    by_cases hlt : j < nF
    · have hlt' : (j : Int) < (nF : Int) := by omega
      obtain ⟨⟨pk, py, pn⟩, g, off, he, hok, rfl, q⟩ := (HP.out.row HO.out hNw HFk.out.1).at hlt
      have HOK : Hid (Fc.Ok ⟨pk, py, pn⟩) := hok
      have HMay : Hid (MayF ⟨pk, py, pn⟩) := HFk.out.2 _ (List.mem_of_getElem? he)
      have HE : Hid (bytesJ ((factsJ L).take j) ++ byF ⟨pk, py, pn⟩ = bytesJ ((factsJ L).take (j + 1))) := by rw [List.take_add_one, he]; exact (bytesJ_snoc _ _).symm
      obtain ⟨q0, q1, q2⟩ := q
      simp only at q0 q1 q2
      clear he hok
      obtain ⟨l2, hl2⟩ : ∃ l2, bytesJ ((factsJ L).take (j + 1)) = l2 := ⟨_, rfl⟩
      have HL2 : Hid (bytesJ ((factsJ L).take (j + 1)) = l2) := hl2
      have HA : Hid (bytesJ ((factsJ L).take j) ++ byF ⟨pk, py, pn⟩ = l2) := by unfold Hid; rw [HE.out, hl2]
      have HN3 : Hid (n + 12 = 12 * (j + 1) ∧ n + 12 ≤ 30000) := ⟨by have := HN.out; omega, by have := HN.out; have := HNF.out; omega⟩
      have c1 := HP.out.c1
      have f1 := HP.out.fz 1
      clear hl2
      go_wp2
      obtain ⟨W2, hW2⟩ : ∃ W2, W2 = wr.alloc (objF pk py pn) := ⟨_, rfl⟩
      rw [← hW2]
      have HB2 : Hid (Below wr.heap.size wr W2) := by rw [hW2]; exact below1 _ _
      have HF3 : Hid (∀ W, W2.grownBy W (Value.slice ad n cap).ownBlock → F3 W wr.heap.size 0 ⟨pk, py, pn⟩ ∧ W.cell? ⟨N, 1, none⟩ = some (.slice ad n cap) ∧ W.frozen? ⟨N, 1, none⟩ = false) := fun W hW => by
        have h1 : F3 W2 wr.heap.size 0 ⟨pk, py, pn⟩ := by rw [hW2]; exact F3.new wr pk py pn
        have hbk := hW.block wr.heap.size (by rw [hW2]; simp) fun e => by
          have := HP.out.own.own_lt (g := wr.heap.size) e.symm
          omega
        have hat := HP.out.at HNF.out.2.2 HB2.out hW 1
        exact ⟨h1.far fun o => World.cell?_of_block (w := W2) (a := ⟨wr.heap.size, o, none⟩) hbk, hat.1.trans HP.out.c1, hat.2⟩
      have HO2 : Hid (∀ W, Below W2.heap.size W2 W → Own8 W W1.heap.size 5 (.slice ad n cap) n (bytesJ ((factsJ L).take j)) ∧ W1.heap.size ≤ W.heap.size) := fun W hW => ⟨HP.out.own.later (stp HB2.out hW), Nat.le_trans HP.out.kp.size (Nat.le_trans HB2.out.size hW.size)⟩
      obtain ⟨⟨b0, b1, b2⟩, c12, f12⟩ := HF3.out W2 (grown_refl _ _)
      simp only [Nat.zero_add] at b0 b1 b2
      clear hW2 c1 f1 q0 q1 q2
      go_wp2
      go_region_law (first
        | (refine step_callf (by rfl) 27 _ _ #[valFc ⟨pk, py, pn⟩] (by rfl) (by kernel_rfl) (by kernel_rfl) _ (encode_any ⟨pk, py, pn⟩ _ HOK.out HMay.out) ?_; intro v3 W3 h3; obtain ⟨a3, p3, rfl, row3, hb3⟩ := h3; have HB3 : Hid (Below W2.heap.size W2 W3) := (by first | exact hb3 | exact (Below.refl _ _).drew.trans hb3 | exact (Below.refl _ _).drew.drew.trans hb3); have HR3 : Hid (Row8 W3 a3 12 (byF ⟨pk, py, pn⟩)) := row3; obtain ⟨⟨e0, e1, e2⟩, e3, e4⟩ := HF3.out W3 (grown_of HB3.out _); clear hb3 row3)
        | (go_must (refine step_app8g _ (by rfl) (.tmp 20) (.tmp 22) 43 5 (by rfl) W1.heap.size Try.underlying43 info5 (.slice ad n cap) n (bytesJ ((factsJ L).take j)) (by rfl) (by first | exact (HO2.out _ HB3.out).1 | exact (HO2.out _ HB3.out.drew).1) a3 12 p3 (byF ⟨pk, py, pn⟩) (by rfl) (by first | exact HR3.out | exact row8_later HR3.out (Below.refl _ _).drew) (n + 12) (by rfl) l2 HA.out (by have := HN3.out.2; omega) (by first | exact (HO2.out _ HB3.out).2 | exact (HO2.out _ HB3.out.drew).2) ?_; intro a5 c5 W5 own5 hg5 loc5; clear loc5 e0 e1 e2 e3 e4 b0 b1 b2; have HG5 : Hid (W2.grownBy W5 (Value.slice ad n cap).ownBlock) := (by first | exact grown_trans (grown_of HB3.out _) hg5 | exact grown_trans (grown_of HB3.out.drew _) hg5); obtain ⟨-, g3, g4⟩ := HF3.out W5 HG5.out; have HS5 : Hid (PackR W1 (W5.setCell ⟨N, 1, none⟩ (.slice a5 (n + 12) c5)) N (factsJ L) (j + 1) a5 (n + 12) c5) := HP.out.step HNF.out.2.2 HB2.out HG5.out (by rw [HL2.out]; exact own5); clear own5 hg5)))
      all_goals
        go_wp2
        go_roundw
        case rel => exact ⟨j + 1, a5, n + 12, c5, by omega, by go_num, HN3.out.1, HS5⟩
        case measure => simp [intOf]; omega
    · have hlt' : ¬ (j : Int) < (nF : Int) := by omega
      obtain rfl : j = nF := by omega
      have HQ : Hid ((n : Int) = 12 * (j : Int)) := by have := HN.out; unfold Hid; omega
      go_wp2_with (go_at_call 13; go_must (refine (sync_raw _ N n cap ad _ HP.out.c1 (HP.out.co 2 _ (by decide) (HT.out.later HB1.out).c2) (HP.out.fz 2)).mono ?_; rintro e W4 ⟨rfl, rfl⟩))
      refine bodyPost_end (results_none rfl _ _ _) rfl ?_
      rw [HQ.out, HNF.out.1]
      obtain ⟨p1, p2⟩ := HT.out.packed HB1.out HP.out HN.out HNF.out.1
      exact doneP HB.out p1 (.inl rfl) (fun g hg => .inr (Nat.le_trans HB1.out.size (HP.out.own.lt g hg))) p2 _
end
end Go.Proofs.Ytofmgkpghkeegaa
