/- The contract of the program's Crash. -/
import Derived.Test.YtofmgkpghkeegaaProR
namespace Go.Proofs.Ytofmgkpghkeegaa
open Go.RowKit Go.Maps

theorem sync_raw (w : World) (N nn cap : Nat) (ad : Option Addr) (x : Value) (c1 : w.cell? ⟨N, 1, none⟩ = some (.slice ad nn cap)) (c2 : w.cell? ⟨N, 2, none⟩ = some x) (f2 : w.frozen? ⟨N, 2, none⟩ = false) :
    Calls Try.prog 13 #[.pointer (some ⟨N, 0, none⟩)] w fun e w' => e = .returned (.tuple #[]) ∧ w' = w.setCell ⟨N, 2, none⟩ (.int .i64 nn) := by
  go_enter Try.func13, Try.ntmps13
  go_wp2
  refine bodyPost_end (results_none rfl _ _ _) rfl ?_
  exact ⟨rfl, rfl⟩
theorem bytes_taken (L : List Fc) (k : Nat) : (bytesJ L).take (12 * k) = bytesJ (L.take k) := by
  induction k generalizing L with
  | zero => simp [bytesJ]
  | succ k ih =>
    cases L with
    | nil => simp [bytesJ]
    | cons f L =>
      rw [List.take_succ_cons, bytesJ_cons, bytesJ_cons, show 12 * (k + 1) = (byF f).length + 12 * k by rw [byF_len]; omega, List.take_length_add_append, ih]
theorem own_block_cut (ad : Option Addr) (n n' cap cap' : Nat) : (Value.slice ad n cap).ownBlock = (Value.slice ad n' cap').ownBlock := by cases ad <;> rfl
theorem Jor.crashed {w W1 W2 : World} {N b b' K m nn cap k : Nat} {room : Int} {ad : Option Addr} {L : List Fc} (h : Jor w N b (.slice ad nn cap) room L K m) (hn : 12 * L.length = nn) (h1 : Below w.heap.size w W1) (hk : k ≤ L.length)
    (hb2 : Below W1.heap.size (W1.setCell ⟨N, 1, none⟩ (.slice ad (12 * k) cap)) W2) (hb' : W1.heap.size ≤ b') (hmap : MapR W2 b' (L.take k) (L.take k).length) :
    Jor ((W2.setCell ⟨N, 3, none⟩ (.map (some b'))).setCell ⟨N, 2, none⟩ (.int .i64 (12 * (k : Int)))) N b' (.slice ad (12 * k) cap) room (L.take k) k (m + 1) ∧ Keep (fpP N b (.slice ad nn cap)) w ((W2.setCell ⟨N, 3, none⟩ (.map (some b'))).setCell ⟨N, 2, none⟩ (.int .i64 (12 * (k : Int)))) := by
  have hj := h.later h1
  have hN := hj.lt
  have hl : (L.take k).length = k := by rw [List.length_take]; omega
  have hb'2 : b' ≠ N := by omega
  have hblk : W2.heap[N]? = (W1.setCell ⟨N, 1, none⟩ (.slice ad (12 * k) cap)).heap[N]? := hb2.block N hN
  have key : ∀ o u, (W1.setCell ⟨N, 1, none⟩ (.slice ad (12 * k) cap)).cell? ⟨N, o, none⟩ = some u → W2.cell? ⟨N, o, none⟩ = some u := fun o u hu => by
    rw [World.cell?_of_block (w := W1.setCell ⟨N, 1, none⟩ (.slice ad (12 * k) cap)) (a := ⟨N, o, none⟩) hblk]; exact hu
  have e0 := key 0 _ (by rw [World.cell?_setCell_other _ _ _ _ (by simp)]; exact hj.c0)
  have e1 := key 1 _ (World.cell?_setCell_same _ _ _ hj.c1)
  have e2 := key 2 _ (by rw [World.cell?_setCell_other _ _ _ _ (by simp)]; exact hj.c2)
  have e3 := key 3 _ (by rw [World.cell?_setCell_other _ _ _ _ (by simp)]; exact hj.c3)
  have hown := hj.own
  rw [hn] at hown
  have hcut := hown.cut (k := 12 * k) (by omega)
  rw [bytes_taken] at hcut
  have hkp : Keep (fpP N b (.slice ad nn cap)) w W2 := by
    have k1 : Keep (fpP N b (.slice ad nn cap)) w (W1.setCell ⟨N, 1, none⟩ (.slice ad (12 * k) cap)) := (keep_of h1).setCell (p := ⟨N, 1, none⟩) (.inl rfl) _
    refine k1.then ⟨hb2.os, hb2.tape, hb2.output, hb2.size, fun i hi => hb2.block i (by simpa [World.setCell] using hi)⟩
  refine ⟨⟨?_, ?_, ?_, ?_, fun o => ?_, ?_, ?_, hb'2, fun e => ?_, fun p hp => h.ok p (List.mem_of_mem_take hp), fun p hp => h.may p (List.mem_of_mem_take hp), by omega, by have := h.lm; omega, ?_⟩, (hkp.setCell (p := ⟨N, 3, none⟩) (.inl rfl) _).setCell (p := ⟨N, 2, none⟩) (.inl rfl) _⟩
  · rw [World.cell?_setCell_other _ _ _ _ (by simp), World.cell?_setCell_other _ _ _ _ (by simp)]; exact e0
  · rw [World.cell?_setCell_other _ _ _ _ (by simp), World.cell?_setCell_other _ _ _ _ (by simp)]; exact e1
  · have e2' : (W2.setCell ⟨N, 3, none⟩ (.map (some b'))).cell? ⟨N, 2, none⟩ = some (.int .i64 (12 * (K : Int))) := by rw [World.cell?_setCell_other _ _ _ _ (by simp)]; exact e2
    exact World.cell?_setCell_same _ _ _ e2'
  · rw [World.cell?_setCell_other _ _ _ _ (by simp)]; exact World.cell?_setCell_same _ _ _ e3
  · rw [World.frozen?_setCell, World.frozen?_setCell, World.frozen?_of_block (w := W1.setCell ⟨N, 1, none⟩ (.slice ad (12 * k) cap)) (a := ⟨N, o, none⟩) hblk, World.frozen?_setCell]
    exact hj.fz o
  · rw [hl]
    refine hcut.same fun g hg => ?_
    have hg1 := hcut.lt g hg
    have hg2 := hcut.own_lt hg
    rw [Below.heap_setCell _ _ _ _ (show g ≠ N by omega), Below.heap_setCell _ _ _ _ (show g ≠ N by omega), hb2.block g hg2, Below.heap_setCell _ _ _ _ (show g ≠ N by omega)]
  · refine (hmap.same ?_).up (by rw [hl]; have := h.lm; omega)
    rw [Below.heap_setCell _ _ _ _ hb'2, Below.heap_setCell _ _ _ _ hb'2]
  · have := hcut.own_lt e; omega
  · rcases h.lr with h0 | h0
    · left; omega
    · right; omega
section
variable {N b K m : Nat} {room : Int} {v : Value} {L : List Fc}
set_option maxRecDepth 100000 in
set_option maxHeartbeats 2000000 in
/-- What is common to both ways. -/
theorem crash_end (w W1 W2 : World) {B : Nat → Prop} {nn cap b' k : Nat} {ad : Option Addr} (hB : ∀ k, B k ↔ fpP N b (.slice ad nn cap) k) (h : Jor w N b (.slice ad nn cap) room L K m) (hn : 12 * L.length = nn) (h1 : Below w.heap.size w W1) (hk : k ≤ L.length)
    (hb2 : Below W1.heap.size (W1.setCell ⟨N, 1, none⟩ (.slice ad (12 * k) cap)) W2) (hb' : W1.heap.size ≤ b') (hmap : MapR W2 b' (L.take k) (L.take k).length) (e0 : Ending) :
    DoneJ JM w B ⟨N, 0, none⟩ room (L.take k) k (m + 1) e0 e0 ((W2.setCell ⟨N, 3, none⟩ (.map (some b'))).setCell ⟨N, 2, none⟩ (.int .i64 (12 * (k : Int)))) := by
  obtain ⟨j, hk⟩ := h.crashed hn h1 hk hb2 hb' hmap
  exact doneP hB j (.inr (Nat.le_trans h1.size hb')) (fun g hg => .inl ((own_block_cut ad nn (12 * k) cap cap).trans hg)) hk _
set_option maxRecDepth 100000 in
set_option maxHeartbeats 4000000 in
theorem crash_any (keep : Int) (w : World) {B : Nat → Prop} (hB : ∀ k, B k ↔ fpP N b v k) (h : Jor w N b v room L K m) (hm : m ≤ 2000) (hz : I64 keep) :
    Calls Try.prog 15 #[.pointer (some ⟨N, 0, none⟩), .int .i64 keep] w (DoneJ JM w B ⟨N, 0, none⟩ room (crJ L K keep) (crJ L K keep).length (m + 1) (.returned (.tuple #[]))) := by
  obtain ⟨ad, cap, rfl⟩ := h.own.shape
  have hkl := h.kl
  have hlm := h.lm
  have hcap := h.own.cap_le
  obtain ⟨hz0, hz1⟩ := hz
  rw [crJ_len hkl keep]
  unfold crJ
  obtain ⟨d, hd0⟩ : ∃ d, L.length - K = d := ⟨_, rfl⟩
  rw [hd0]
  -- how much stays
  obtain ⟨r, hr, hrd⟩ : ∃ r : Nat, (max keep 0) % (((12 * d : Nat) : Int) + 1) = (r : Int) ∧ r ≤ 12 * d ∧ crN keep d = r / 12 := by
    by_cases hp : 0 < keep
    · obtain ⟨r, hr, hrd⟩ := rem_some keep d
      exact ⟨r, by rw [Int.max_eq_left (by omega), Int.natCast_mul]; exact hr, hrd, crN_pos hp hr⟩
    · exact ⟨0, by rw [Int.max_eq_right (by omega)]; simp, Nat.zero_le _, crN_neg hp⟩
  obtain ⟨hrd, hcr⟩ := hrd
  rw [hcr]
  obtain ⟨nn, hnn⟩ : ∃ n, 12 * L.length = n := ⟨_, rfl⟩
  obtain ⟨kk, hkk⟩ : ∃ n, 12 * K = n := ⟨_, rfl⟩
  obtain ⟨dd, hdd⟩ : ∃ n, 12 * d = n := ⟨_, rfl⟩
  obtain ⟨lf, hlf⟩ : ∃ n, kk + r = n := ⟨_, rfl⟩
  obtain ⟨rr, hrr⟩ : ∃ n, r % 12 = n := ⟨_, rfl⟩
  obtain ⟨kn, hkn⟩ : ∃ n, K + r / 12 = n := ⟨_, rfl⟩
  obtain ⟨mm, hmm⟩ : ∃ n, 12 * kn = n := ⟨_, rfl⟩
  rw [hdd] at hr
  rw [hnn] at h hB hcap
  rw [hkn]
  have c1 := h.c1
  have c2 := h.c2
  have f1 := h.fz 1
  rw [show 12 * (K : Int) = (kk : Int) by omega] at c2
  have q1 : (nn : Int) - (kk : Int) = (dd : Int) := by omega
  have q2 : (kk : Int) + (r : Int) = (lf : Int) := by omega
  have q3 : (lf : Int) % 12 = (rr : Int) := by omega
  have q4 : (lf : Int) - (rr : Int) = (mm : Int) := by omega
  have b1 : (dd : Int) ≤ 30000 := by omega
  have b2 : (kk : Int) ≤ 30000 := by omega
  have b3 : (r : Int) ≤ 30000 := by omega
  have b4 : (lf : Int) ≤ 60000 := by omega
  have b5 : (mm : Int) ≤ (cap : Int) := by omega
  have HT : Hid (Jor w N b (.slice ad nn cap) room L K m) := h
  have HB : Hid (∀ k, B k ↔ fpP N b (.slice ad nn cap) k) := hB
  have HN : Hid (12 * L.length = nn ∧ kn ≤ L.length ∧ 12 * kn = mm ∧ mm ≤ cap ∧ mm ≤ 30000 ∧ L.length ≤ 2002) := ⟨hnn, by omega, hmm, by omega, by omega, by omega⟩
  have HMM : Hid ((mm : Int) = 12 * (kn : Int)) := by unfold Hid; omega
  clear h hB hkl hlm hcap hd0 hrd hcr hnn hkk hdd hlf hrr hkn hmm hm
  by_cases hp : 0 < keep
  · have hr' : keep % ((dd : Int) + 1) = (r : Int) := by rw [Int.max_eq_left (by omega)] at hr; exact hr
    clear hr
    go_enter Try.func15, Try.ntmps15
    go_wp2
    go_quiet (fail)
    obtain ⟨W0, hW0⟩ : ∃ W0, W0 = w.drewN nq := ⟨_, rfl⟩
    rw [← hW0]
    have hB0 : Below w.heap.size w W0 := by rw [hW0]; exact below_drewN (Below.refl _ _) _
    have c1 := cell_later hB0 c1
    have c2 := cell_later hB0 c2
    clear hW0
    go_wp2
    go_quiet (fail)
    obtain ⟨W1, hW1⟩ : ∃ W1, W1 = W0.drewN nq := ⟨_, rfl⟩
    rw [← hW1]
    have HB1 : Hid (Below w.heap.size w W1) := by rw [hW1]; exact below_drewN hB0 _
    clear hW1 hB0 c1 c2
    have HJ1 : Hid (Jor W1 N b (.slice ad nn cap) room L K m) := HT.out.later HB1.out
    have c1 := HJ1.out.c1
    have f1 := HJ1.out.fz 1
    have HRow : Hid (Row8 (W1.setCell ⟨N, 1, none⟩ (.slice ad mm cap)) ad mm (bytesJ (L.take kn))) := by
      have hj := HJ1.out.own
      rw [HN.out.1] at hj
      have hc := hj.cut (k := mm) (by have := HN.out; omega)
      rw [← HN.out.2.2.1, bytes_taken, HN.out.2.2.1] at hc
      have hc2 := hc.same (W' := W1.setCell ⟨N, 1, none⟩ (.slice ad mm cap)) fun g hg => Below.heap_setCell _ _ _ _ (show g ≠ N by have := hc.lt g hg; omega)
      exact hc2.row (bytes_J (fun p hp => HJ1.out.ok p (List.mem_of_mem_take hp)) fun p hp => HJ1.out.may p (List.mem_of_mem_take hp)) (by have := HN.out; omega)
    have HLT : Hid ((L.take kn).length = kn) := by show _ = _; rw [List.length_take]; have := HN.out; omega
    have HLa : Hid (∀ o u, o ≠ 1 → W1.cell? ⟨N, o, none⟩ = some u → ∀ W2, Below W1.heap.size (W1.setCell ⟨N, 1, none⟩ (.slice ad mm cap)) W2 → W2.cell? ⟨N, o, none⟩ = some u ∧ W2.frozen? ⟨N, o, none⟩ = false) := fun o u ho hu W2 hb => by
      have hb' := hb.block N HJ1.out.lt
      refine ⟨?_, ?_⟩
      · rw [World.cell?_of_block (w := W1.setCell ⟨N, 1, none⟩ (.slice ad mm cap)) (a := ⟨N, o, none⟩) hb', World.cell?_setCell_other _ _ _ _ (by simp)]; exact hu
      · rw [World.frozen?_of_block (w := W1.setCell ⟨N, 1, none⟩ (.slice ad mm cap)) (a := ⟨N, o, none⟩) hb', World.frozen?_setCell]; exact HJ1.out.fz o
    have HLb : Hid (∀ W2, Below W1.heap.size (W1.setCell ⟨N, 1, none⟩ (.slice ad mm cap)) W2 → W2.cell? ⟨N, 1, none⟩ = some (.slice ad mm cap)) := fun W2 hb => by
      rw [World.cell?_of_block (w := W1.setCell ⟨N, 1, none⟩ (.slice ad mm cap)) (a := ⟨N, 1, none⟩) (hb.block N HJ1.out.lt), World.cell?_setCell_same _ _ _ HJ1.out.c1]
    go_wp2_with (first
      | (go_at_call 28; go_must (refine (readBack_any _ (L.take kn) _ _ _ HRow.out (by rw [HLT.out]; exact HN.out.2.2.1.symm) HN.out.2.2.2.1 (fun p hp => HJ1.out.ok p (List.mem_of_mem_take hp)) (fun p hp => HJ1.out.may p (List.mem_of_mem_take hp)) (by rw [HLT.out]; have := HN.out; omega)).mono ?_; rintro e W2 ⟨b', rfl, hb', hmap, hbel⟩; have HB2 : Hid (Below W1.heap.size (W1.setCell ⟨N, 1, none⟩ (.slice ad mm cap)) W2) := hbel.mono (by simp [World.setCell]); have HB' : Hid (W1.heap.size ≤ b') := (Nat.le_trans (by simp [World.setCell]) hb'); have HMap : Hid (MapR W2 b' (L.take kn) (L.take kn).length) := hmap; obtain ⟨x3, y3⟩ := HLa.out 3 _ (by decide) HJ1.out.c3 W2 HB2.out; clear hb' hmap hbel))
      | (go_at_call 13; go_must (refine (sync_raw _ N mm cap ad _ (by rw [World.cell?_setCell_other _ _ _ _ (by simp)]; exact HLb.out W2 HB2.out) (by rw [World.cell?_setCell_other _ _ _ _ (by simp)]; exact (HLa.out 2 _ (by decide) HJ1.out.c2 W2 HB2.out).1) (by rw [World.frozen?_setCell]; exact (HLa.out 2 _ (by decide) HJ1.out.c2 W2 HB2.out).2)).mono ?_; rintro e W4 ⟨rfl, rfl⟩)))
    refine bodyPost_end (results_none rfl _ _ _) rfl ?_
    rw [HMM.out]
    have hb2 := HB2.out
    rw [← HN.out.2.2.1] at hb2
    exact crash_end w W1 W2 HB.out HT.out HN.out.1 HB1.out HN.out.2.1 hb2 HB'.out HMap.out _
  · have hmx : (if keep < 0 then (0 : Int) else keep) = 0 := by split <;> omega
    have hr0 : (r : Int) = 0 := by rw [← hr, Int.max_eq_right (by omega)]; simp
    obtain rfl : r = 0 := by omega
    obtain rfl : lf = kk := by omega
    clear hr hr0 q2 b3
    go_enter Try.func15, Try.ntmps15
    go_wp2
    go_quiet (fail)
    obtain ⟨W0, hW0⟩ : ∃ W0, W0 = w.drewN nq := ⟨_, rfl⟩
    rw [← hW0]
    have hB0 : Below w.heap.size w W0 := by rw [hW0]; exact below_drewN (Below.refl _ _) _
    have c1 := cell_later hB0 c1
    have c2 := cell_later hB0 c2
    clear hW0
    go_wp2
    go_quiet (fail)
    obtain ⟨W1, hW1⟩ : ∃ W1, W1 = W0.drewN nq := ⟨_, rfl⟩
    rw [← hW1]
    have HB1 : Hid (Below w.heap.size w W1) := by rw [hW1]; exact below_drewN hB0 _
    clear hW1 hB0 c1 c2
    have HJ1 : Hid (Jor W1 N b (.slice ad nn cap) room L K m) := HT.out.later HB1.out
    have c1 := HJ1.out.c1
    have f1 := HJ1.out.fz 1
    have HRow : Hid (Row8 (W1.setCell ⟨N, 1, none⟩ (.slice ad mm cap)) ad mm (bytesJ (L.take kn))) := by
      have hj := HJ1.out.own
      rw [HN.out.1] at hj
      have hc := hj.cut (k := mm) (by have := HN.out; omega)
      rw [← HN.out.2.2.1, bytes_taken, HN.out.2.2.1] at hc
      have hc2 := hc.same (W' := W1.setCell ⟨N, 1, none⟩ (.slice ad mm cap)) fun g hg => Below.heap_setCell _ _ _ _ (show g ≠ N by have := hc.lt g hg; omega)
      exact hc2.row (bytes_J (fun p hp => HJ1.out.ok p (List.mem_of_mem_take hp)) fun p hp => HJ1.out.may p (List.mem_of_mem_take hp)) (by have := HN.out; omega)
    have HLT : Hid ((L.take kn).length = kn) := by show _ = _; rw [List.length_take]; have := HN.out; omega
    have HLa : Hid (∀ o u, o ≠ 1 → W1.cell? ⟨N, o, none⟩ = some u → ∀ W2, Below W1.heap.size (W1.setCell ⟨N, 1, none⟩ (.slice ad mm cap)) W2 → W2.cell? ⟨N, o, none⟩ = some u ∧ W2.frozen? ⟨N, o, none⟩ = false) := fun o u ho hu W2 hb => by
      have hb' := hb.block N HJ1.out.lt
      refine ⟨?_, ?_⟩
      · rw [World.cell?_of_block (w := W1.setCell ⟨N, 1, none⟩ (.slice ad mm cap)) (a := ⟨N, o, none⟩) hb', World.cell?_setCell_other _ _ _ _ (by simp)]; exact hu
      · rw [World.frozen?_of_block (w := W1.setCell ⟨N, 1, none⟩ (.slice ad mm cap)) (a := ⟨N, o, none⟩) hb', World.frozen?_setCell]; exact HJ1.out.fz o
    have HLb : Hid (∀ W2, Below W1.heap.size (W1.setCell ⟨N, 1, none⟩ (.slice ad mm cap)) W2 → W2.cell? ⟨N, 1, none⟩ = some (.slice ad mm cap)) := fun W2 hb => by
      rw [World.cell?_of_block (w := W1.setCell ⟨N, 1, none⟩ (.slice ad mm cap)) (a := ⟨N, 1, none⟩) (hb.block N HJ1.out.lt), World.cell?_setCell_same _ _ _ HJ1.out.c1]
    go_wp2_with (first
      | (go_at_call 28; go_must (refine (readBack_any _ (L.take kn) _ _ _ HRow.out (by rw [HLT.out]; exact HN.out.2.2.1.symm) HN.out.2.2.2.1 (fun p hp => HJ1.out.ok p (List.mem_of_mem_take hp)) (fun p hp => HJ1.out.may p (List.mem_of_mem_take hp)) (by rw [HLT.out]; have := HN.out; omega)).mono ?_; rintro e W2 ⟨b', rfl, hb', hmap, hbel⟩; have HB2 : Hid (Below W1.heap.size (W1.setCell ⟨N, 1, none⟩ (.slice ad mm cap)) W2) := hbel.mono (by simp [World.setCell]); have HB' : Hid (W1.heap.size ≤ b') := (Nat.le_trans (by simp [World.setCell]) hb'); have HMap : Hid (MapR W2 b' (L.take kn) (L.take kn).length) := hmap; obtain ⟨x3, y3⟩ := HLa.out 3 _ (by decide) HJ1.out.c3 W2 HB2.out; clear hb' hmap hbel))
      | (go_at_call 13; go_must (refine (sync_raw _ N mm cap ad _ (by rw [World.cell?_setCell_other _ _ _ _ (by simp)]; exact HLb.out W2 HB2.out) (by rw [World.cell?_setCell_other _ _ _ _ (by simp)]; exact (HLa.out 2 _ (by decide) HJ1.out.c2 W2 HB2.out).1) (by rw [World.frozen?_setCell]; exact (HLa.out 2 _ (by decide) HJ1.out.c2 W2 HB2.out).2)).mono ?_; rintro e W4 ⟨rfl, rfl⟩)))
    refine bodyPost_end (results_none rfl _ _ _) rfl ?_
    rw [HMM.out]
    have hb2 := HB2.out
    rw [← HN.out.2.2.1] at hb2
    exact crash_end w W1 W2 HB.out HT.out HN.out.1 HB1.out HN.out.2.1 hb2 HB'.out HMap.out _
end
end Go.Proofs.Ytofmgkpghkeegaa
