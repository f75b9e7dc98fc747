/- The contract of the program's Put. -/
import Derived.Test.YtofmgkpghkeegaaProM
namespace Go.Proofs.Ytofmgkpghkeegaa
open Go.RowKit Go.Maps

theorem bytesJ_snoc (L : List Fc) (f : Fc) : bytesJ (L ++ [f]) = bytesJ L ++ byF f := by simp [bytesJ]
theorem up_store {w : World} {b n : Nat} {D : DataW Unit} {k y x : Int} (hown : w.ownsMap Try.prog 55 (plainElem Try.prog 30) b n D) (hn : n < maxLen) (hk : KyOk k y) (hx : 0 ≤ x ∧ x ≤ 4294967295) :
    ∃ w', (Instr.mapUpdate 50 (.map (some b)) (nameV k y) (.int .u32 x)).run Try.prog w = .ok () w' ∧ w'.ownsMap Try.prog 55 (plainElem Try.prog 30) b (n + 1) (D.put (kN k y) (.lit (.int .u32 x))) ∧ w.mapTurned w' b :=
  hown.store lawN Try.underlying50 hn (kN_is hk) (plainElem_int Try.underlying30 (wf_u32 hx.1 hx.2))
/-- One is written behind the others. -/
theorem Jor.written {w W X W7 : World} {N b K m : Nat} {room : Int} {v v' : Value} {L : List Fc} {f : Fc} (h : Jor w N b v room L K m) (hg : w.grownBy W v.ownBlock) (own : Own8 W (N + 1) 5 v' (12 * (L.length + 1)) (bytesJ (L ++ [f]))) (hv : ∀ g, v'.ownBlock = some g → v.ownBlock = some g ∨ w.heap.size ≤ g)
    (hX : ∀ k : Nat, X.heap[k]? = (W.setCell ⟨N, 1, none⟩ v').heap[k]?) (ht : X.grownBy W7 (some b)) (hXs : N < X.heap.size ∧ ∀ g, g < W.heap.size → g < X.heap.size) (hmap : MapR W7 b (L ++ [f]) (m + 1)) (hf : f.Ok) (hm : MayF f) (hr : (L.length : Int) + 1 ≤ room) : Jor W7 N b v' room (L ++ [f]) K (m + 1) := by
  have hN := h.lt
  have hbN : W.heap[N]? = w.heap[N]? := hg.block N hN fun e => h.own_ne e.symm
  have h7 : W7.heap[N]? = (W.setCell ⟨N, 1, none⟩ v').heap[N]? := (ht.block N hXs.1 fun e => h.nb (by simpa using e.symm)).trans (hX N)
  have e1 : W.cell? ⟨N, 1, none⟩ = some v := (World.cell?_of_block (w := w) (a := ⟨N, 1, none⟩) hbN).trans h.c1
  have key : ∀ o u, o ≠ 1 → w.cell? ⟨N, o, none⟩ = some u → W7.cell? ⟨N, o, none⟩ = some u := fun o u ho hu => by
    rw [World.cell?_of_block (w := W.setCell ⟨N, 1, none⟩ v') (a := ⟨N, o, none⟩) h7, World.cell?_setCell_other _ _ _ _ (by simp), World.cell?_of_block (w := w) (a := ⟨N, o, none⟩) hbN, hu]
  refine ⟨key 0 _ (by decide) h.c0, ?_, key 2 _ (by decide) h.c2, key 3 _ (by decide) h.c3, fun o => ?_, ?_, hmap, h.nb, fun e => ?_, ?_, ?_, ?_, ?_, ?_⟩
  · rw [World.cell?_of_block (w := W.setCell ⟨N, 1, none⟩ v') (a := ⟨N, 1, none⟩) h7, World.cell?_setCell_same _ _ _ e1]
  · rw [World.frozen?_of_block (w := W.setCell ⟨N, 1, none⟩ v') (a := ⟨N, o, none⟩) h7, World.frozen?_setCell, World.frozen?_of_block (w := w) (a := ⟨N, o, none⟩) hbN]
    exact h.fz o
  · rw [List.length_append, List.length_singleton]
    refine own.same fun g hg' => ?_
    have hgN := own.lt g hg'
    have hgb : g ≠ b := fun e => by
      subst e
      rcases hv _ hg' with e | e
      · exact h.vb e
      · have := h.mp.lt; omega
    rw [ht.block g (hXs.2 g (own.own_lt hg')) fun e => hgb (by simpa using e), hX g, Below.heap_setCell _ _ _ _ (show g ≠ N by omega)]
  · rcases hv _ e with e | e
    · exact h.vb e
    · have := h.mp.lt; omega
  · intro p hp
    rw [List.mem_append, List.mem_singleton] at hp
    rcases hp with hp | rfl
    · exact h.ok p hp
    · exact hf
  · intro p hp
    rw [List.mem_append, List.mem_singleton] at hp
    rcases hp with hp | rfl
    · exact h.may p hp
    · exact hm
  · have := h.kl; simp; omega
  · have := h.lm; simp; omega
  · exact .inr (by simp; omega)
section
variable {N b K m : Nat} {room : Int} {v : Value} {L : List Fc}
theorem put_no (w : World) {B : Nat → Prop} (hB : ∀ k, B k ↔ fpP N b v k) (h : Jor w N b v room L K m) {w' : World} (hb : Below w.heap.size w w') {f : Fc} (hx : putX room L f ≠ 0) {e : Ending} (he : e = .returned (.int .i64 (putX room L f))) : DoneJ JM w B ⟨N, 0, none⟩ room (putJ room L f) K (m + 1) (.returned (.int .i64 (putX room L f))) e w' := by
  subst he
  rw [putJ_no hx]
  exact doneP hB ((h.later hb).up (Nat.le_succ _)) (.inl rfl) (fun _ hg => .inl hg) (keep_of hb) _
set_option maxRecDepth 100000 in
set_option maxHeartbeats 4000000 in
theorem put_any (k y n : Int) (w : World) {B : Nat → Prop} (hB : ∀ k, B k ↔ fpP N b v k) (h : Jor w N b v room L K m) (hm : m ≤ 2000) (hf : Fc.Ok ⟨k, y, n⟩) :
    Calls Try.prog 11 #[.pointer (some ⟨N, 0, none⟩), .agg #[.int .i64 k, .int .u32 y, .int .u32 n]] w (DoneJ JM w B ⟨N, 0, none⟩ room (putJ room L ⟨k, y, n⟩) K (m + 1) (.returned (.int .i64 (putX room L ⟨k, y, n⟩)))) := by
  have HF : Hid (Fc.Ok ⟨k, y, n⟩) := hf
  have HT : Hid (Jor w N b v room L K m) := h
  have HB : Hid (∀ k, B k ↔ fpP N b v k) := hB
  by_cases h0 : k < 0
  · have hx := putX_arg (room := room) (L := L) (f := ⟨k, y, n⟩) (.inl h0)
    have HX : Hid (putX room L ⟨k, y, n⟩ = 1) := hx
    clear h hf hx hB
    go_enter Try.func11, Try.ntmps11
    go_wp2
    go_ret
    exact put_no w HB.out HT.out (below1 _ _) (by rw [HX.out]; decide) (by rw [HX.out]; rfl)
  by_cases h1 : 255 < k
  · have hx := putX_arg (room := room) (L := L) (f := ⟨k, y, n⟩) (.inr h1)
    have HX : Hid (putX room L ⟨k, y, n⟩ = 1) := hx
    clear h hf hx hB
    go_enter Try.func11, Try.ntmps11
    go_wp2
    go_ret
    exact put_no w HB.out HT.out (below1 _ _) (by rw [HX.out]; decide) (by rw [HX.out]; rfl)
  have hmay : MayF ⟨k, y, n⟩ := ⟨by simp only; omega, by simp only; omega⟩
  have hT1 := h.later (below1 w (objF k y n))
  have HT1 : Hid (Jor (w.alloc (objF k y n)) N b v room L K m) := hT1
  have c0 := hT1.c0
  obtain ⟨len, hlen⟩ : ∃ n, L.length = n := ⟨_, rfl⟩
  have HLen : Hid (∀ W, Below (w.alloc (objF k y n)).heap.size (w.alloc (objF k y n)) W → Calls Try.prog 24 #[.pointer (some ⟨N, 0, none⟩)] W fun e w' => e = .returned (.int .i64 (len : Int)) ∧ w' = W) := fun W hW => by rw [← hlen]; exact len_any W (hT1.later hW) (by omega)
  by_cases hr : room ≤ (len : Int)
  · have hx := putX_full (room := room) (L := L) hmay (by rw [hlen]; exact hr)
    have HX : Hid (putX room L ⟨k, y, n⟩ = 4) := hx
    have hr' : (len : Int) ≥ room := hr
    clear h hf hx hB hT1 hlen hm hmay
    go_enter Try.func11, Try.ntmps11
    go_wp2
    go_quiet ((go_at_call 24; exact Calls.quiet_of_same (HLen.out _ (below_drewN (Below.refl _ _) _))))
    go_wp2
    go_ret
    exact put_no w HB.out HT.out (below_drewN (below1 _ _) _) (by rw [HX.out]; decide) (by rw [HX.out]; rfl)
  · have hx := putX_ok (room := room) (L := L) hmay (by rw [hlen]; exact hr)
    have HX : Hid (putX room L ⟨k, y, n⟩ = 0 ∧ putJ room L ⟨k, y, n⟩ = L ++ [⟨k, y, n⟩] ∧ L.length = len ∧ ¬ room ≤ (len : Int)) := ⟨hx, putJ_ok hx, hlen, hr⟩
    rw [HX.out.1]
    have hr' : ¬ (len : Int) ≥ room := hr
    obtain ⟨ad, cap, rfl⟩ := h.own.shape
    have c1 := hT1.c1
    have HMay : Hid (MayF ⟨k, y, n⟩) := hmay
    have HMM : Hid (m ≤ 2000 ∧ len ≤ m) := ⟨hm, by have := h.lm; omega⟩
    obtain ⟨nn, hnn⟩ : ∃ n, 12 * L.length = n := ⟨_, rfl⟩
    have HNN : Hid (12 * L.length = nn ∧ nn ≤ 24000) := ⟨hnn, by have := h.lm; omega⟩
    rw [hnn] at c1 HT HT1 HB
    clear h hf hx hB hT1 hlen hm hmay hnn hr
    go_enter Try.func11, Try.ntmps11
    go_wp2
    go_quiet ((go_at_call 24; exact Calls.quiet_of_same (HLen.out _ (below_drewN (Below.refl _ _) _))))
    obtain ⟨W2, hW2⟩ : ∃ W2, W2 = (w.alloc (objF k y n)).drewN nq := ⟨_, rfl⟩
    rw [← hW2]
    have HB2 : Hid (Below (w.alloc (objF k y n)).heap.size (w.alloc (objF k y n)) W2) := by rw [hW2]; exact below_drewN (Below.refl _ _) _
    have HJ2 : Hid (Jor W2 N b (.slice ad nn cap) room L K m) := HT1.out.later HB2.out
    have HF3 : Hid (∀ W, W2.grownBy W (Value.slice ad nn cap).ownBlock → F3 W w.heap.size 0 ⟨k, y, n⟩ ∧ W.cell? ⟨N, 1, none⟩ = some (.slice ad nn cap) ∧ W.frozen? ⟨N, 1, none⟩ = false) := fun W hW => by
      have h1 : F3 W2 w.heap.size 0 ⟨k, y, n⟩ := (F3.new w k y n).later HB2.out
      have hbk := hW.block w.heap.size (Nat.lt_of_lt_of_le (by simp) HB2.out.size) fun e => by
        have := HT.out.own.own_lt (g := w.heap.size) e.symm
        omega
      have hbN := hW.block N HJ2.out.lt fun e => HJ2.out.own_ne e.symm
      refine ⟨h1.far fun o => World.cell?_of_block (w := W2) (a := ⟨w.heap.size, o, none⟩) hbk, ?_, ?_⟩
      · exact (World.cell?_of_block (w := W2) (a := ⟨N, 1, none⟩) hbN).trans HJ2.out.c1
      · exact (World.frozen?_of_block (w := W2) (a := ⟨N, 1, none⟩) hbN).trans (HJ2.out.fz 1)
    have HO2 : Hid (∀ W, Below W2.heap.size W2 W → Own8 W (N + 1) 5 (.slice ad nn cap) nn (bytesJ L) ∧ N + 1 ≤ W.heap.size) := fun W hW => by
      have := (HJ2.out.later hW).own
      rw [HNN.out.1] at this
      exact ⟨this, Nat.succ_le_of_lt (HJ2.out.later hW).lt⟩
    obtain ⟨⟨b0, b1, b2⟩, c12, f12⟩ := HF3.out W2 (grown_refl _ _)
    simp only [Nat.zero_add] at b0 b1 b2
    obtain ⟨l2, hl2⟩ : ∃ l2, bytesJ L ++ byF ⟨k, y, n⟩ = l2 := ⟨_, rfl⟩
    have HL2 : Hid (bytesJ L ++ byF ⟨k, y, n⟩ = l2) := hl2
    clear hW2 hl2 c0 c1
    go_wp2
    go_cut [4] from 20 (fun _ wx => ∃ W3 a5 c5, wx = (W3.setCell ⟨N, 1, none⟩ (.slice a5 (nn + 12) c5)) ∧ Hid (Own8 W3 (N + 1) 5 (.slice a5 (nn + 12) c5) (nn + 12) l2 ∧ W2.grownBy W3 (Value.slice ad nn cap).ownBlock ∧ ∀ g, (Value.slice a5 (nn + 12) c5).ownBlock = some g → (Value.slice ad nn cap).ownBlock = some g ∨ W2.heap.size ≤ g))
    case first =>
      go_region_law (first
        | (refine step_callf (by rfl) 27 _ _ #[valFc ⟨k, y, n⟩] (by rfl) (by kernel_rfl) (by kernel_rfl) _ (encode_any ⟨k, y, n⟩ _ HF.out HMay.out) ?_; intro v3 W3 h3; obtain ⟨a3, p3, rfl, row3, hb3⟩ := h3; have HB3 : Hid (Below W2.heap.size W2 W3) := (by first | exact hb3 | exact (Below.refl _ _).drew.trans hb3 | exact (Below.refl _ _).drew.drew.trans hb3); have HR3 : Hid (Row8 W3 a3 12 (byF ⟨k, y, n⟩)) := row3; obtain ⟨⟨e0, e1, e2⟩, e3, e4⟩ := HF3.out W3 (grown_of HB3.out _); clear hb3 row3)
        | (go_must (refine step_app8g _ (by rfl) (.tmp 24) (.tmp 26) 43 5 (by rfl) (N + 1) Try.underlying43 info5 (.slice ad nn cap) nn (bytesJ L) (by rfl) (by first | exact (HO2.out _ HB3.out).1 | exact (HO2.out _ HB3.out.drew).1) a3 12 p3 (byF ⟨k, y, n⟩) (by rfl) (by first | exact HR3.out | exact row8_later HR3.out (Below.refl _ _).drew) (nn + 12) (by rfl) l2 HL2.out (by have := HNN.out.2; omega) (by first | exact (HO2.out _ HB3.out).2 | exact (HO2.out _ HB3.out.drew).2) ?_; intro a5 c5 W5 own5 hg5 loc5; clear e0 e1 e2 e3 e4 b0 b1 b2; have HG5 : Hid (W2.grownBy W5 (Value.slice ad nn cap).ownBlock) := (by first | exact grown_trans (grown_of HB3.out _) hg5 | exact grown_trans (grown_of HB3.out.drew _) hg5); obtain ⟨-, g3, g4⟩ := HF3.out W5 HG5.out)))
      all_goals
        go_wp2_with fail
        go_meet
        exact ⟨W5, a5, c5, rfl, own5, HG5.out, fun g hg => by
          rcases loc5 with e | e
          · exact .inl (e ▸ hg)
          · rw [e] at hg
            simp only [Option.some.injEq] at hg
            have := HB3.out.size
            exact .inr (by omega)⟩
    case rest =>
      obtain ⟨W5, a5, c5, rfl, HH⟩ := hcut
      obtain ⟨W6, hW6⟩ : ∃ W6, W6 = W5.setCell ⟨N, 1, none⟩ (.slice a5 (nn + 12) c5) := ⟨_, rfl⟩
      rw [← hW6]
      have HW6 : Hid (W6 = W5.setCell ⟨N, 1, none⟩ (.slice a5 (nn + 12) c5)) := hW6
      obtain ⟨own5, hg5, hv5⟩ := HH.out
      have hNb := HJ2.out.nb
      have hbl : b < w.heap.size := HT.out.mp.lt
      have hNl : N < w.heap.size := HT.out.lt
      have hh6 : ∀ i, i ≠ N → W6.heap[i]? = W5.heap[i]? := fun i hi => by rw [hW6]; exact Below.heap_setCell _ _ _ _ hi
      have hb6 : W6.heap[b]? = W2.heap[b]? := (hh6 b hNb).trans (hg5.block b HJ2.out.mp.lt fun e => HJ2.out.vb e.symm)
      have hc6 : ∀ o u, o ≠ 1 → W2.cell? ⟨N, o, none⟩ = some u → W6.cell? ⟨N, o, none⟩ = some u := fun o u ho hu => by
        rw [hW6, World.cell?_setCell_other _ _ _ _ (by simp), World.cell?_of_block (w := W2) (a := ⟨N, o, none⟩) (hg5.block N HJ2.out.lt fun e => HJ2.out.own_ne e.symm), hu]
      have hF6 : F3 W6 w.heap.size 0 ⟨k, y, n⟩ := (HF3.out W5 hg5).1.far fun o => World.cell?_of_block (w := W5) (a := ⟨w.heap.size, o, none⟩) (hh6 w.heap.size (by omega))
      have hs6 : W6.heap.size = W5.heap.size := by rw [hW6]; simp [World.setCell]
      obtain ⟨D, n0, hn0, hown2, hrd⟩ := HJ2.out.mp
      have hown6 : W6.drew.ownsMap Try.prog 55 (plainElem Try.prog 30) b n0 D := by
        obtain ⟨es, clock, q1, q2⟩ := hown2
        exact ⟨es, clock, hb6.trans q1, q2⟩
      obtain ⟨W7, hup, hown7, hturn7⟩ := up_store hown6 (by have := HMM.out.1; unfold maxLen; omega) HF.out.ky ⟨HF.out.n0, HF.out.n1⟩
      have hg7 := hturn7.grown
      have h7 : ∀ i, i < W6.heap.size → i ≠ b → W7.heap[i]? = W6.heap[i]? := fun i hi hne => hg7.block i hi fun e => hne (by simpa using e)
      have hsz : w.heap.size + 1 ≤ W6.heap.size := by
        have h1 := HB2.out.size
        have h2 := hg5.size
        rw [hs6]
        simp at h1
        omega
      have HE : Hid (Jor W7 N b (.slice a5 (nn + 12) c5) room (L ++ [⟨k, y, n⟩]) K (m + 1) ∧ Keep (fpP N b (.slice ad nn cap)) w W7 ∧ ∀ g, (Value.slice a5 (nn + 12) c5).ownBlock = some g → (Value.slice ad nn cap).ownBlock = some g ∨ w.heap.size ≤ g) := by
        refine ⟨HJ2.out.written (X := W6.drew) hg5 (by rw [bytesJ_snoc, HL2.out, show 12 * (L.length + 1) = nn + 12 by have := HNN.out.1; omega]; exact own5) hv5 (fun k => by rw [hW6]; rfl) hg7 ⟨by show N < W6.heap.size; omega, fun g hg => by show g < W6.heap.size; omega⟩ ⟨_, _, by omega, hown7, hrd.put hown2.isMap HF.out⟩ HF.out HMay.out (by have := HX.out.2.2; omega), ?_, fun g hg => ?_⟩
        · have k1 : Keep (fpP N b (.slice ad nn cap)) w W2 := keep_of (Below.out1 HB2.out)
          have k2 : Keep (fpP N b (.slice ad nn cap)) w W5 := k1.trans (keep_row hg5) (fun i _ hi => .inr (.inr hi))
          have k3 : Keep (fpP N b (.slice ad nn cap)) w W6 := by rw [hW6]; exact k2.setCell (p := ⟨N, 1, none⟩) (.inl rfl) _
          exact k3.drew.trans (keep_row hg7) (fun i _ hi => .inr (.inl (by simpa using hi.symm)))
        · rcases hv5 g hg with e | e
          · exact .inl e
          · have := HB2.out.size
            simp at this
            exact .inr (by omega)
      have hF7 := hF6.far (W' := W7) fun o => World.cell?_of_block (w := W6) (a := ⟨w.heap.size, o, none⟩) (h7 w.heap.size (by omega) (by omega))
      obtain ⟨k0, k1, k2⟩ := hF6
      have c3 := hc6 3 _ (by decide) HJ2.out.c3
      obtain ⟨j0, j1, j2⟩ := hF7
      have n3 : W7.cell? ⟨N, 3, none⟩ = some (.map (some b)) := (World.cell?_of_block (w := W6) (a := ⟨N, 3, none⟩) (h7 N (by omega) (fun e => hNb e.symm))).trans c3
      simp only [Nat.zero_add] at k0 k1 k2 j0 j1 j2
      clear hW6 hh6 hb6 hc6 hs6 hown6 hown2 hrd hn0 hown7 hturn7 hg7 h7 hsz own5 hg5 hv5 b0 b1 b2 c12 f12
      go_wp2
      go_region_held3 (fun w' => w'.cell? ⟨N, 3, none⟩ = some (.map (some b)) ∧ w'.cell? ⟨w.heap.size, 0, none⟩ = some (.int .i64 k) ∧ w'.cell? ⟨w.heap.size, 1, none⟩ = some (.int .u32 y) ∧ w'.cell? ⟨w.heap.size, 2, none⟩ = some (.int .u32 n))
        (first | with_reducible exact ⟨n3, j0, j1, j2⟩ | exact ⟨c3, k0, k1, k2⟩)
        (fail)
      go_wp2
      go_ret
      rw [HX.out.2.1]
      exact doneP HB.out HE.out.1 (.inl rfl) HE.out.2.2 HE.out.2.1 _
end
end Go.Proofs.Ytofmgkpghkeegaa
