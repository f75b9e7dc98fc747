/- The program's journal in memory: its bytes, how many are kept, the map of last numbers; the contracts of New, Len, Get, Sync and Bytes. -/
import Derived.Test.YtofmgkpghkeegaaProL
import Derived.Test.YtofmgkpghkeegaaLawA
namespace Go.Proofs.Ytofmgkpghkeegaa
open Go.RowKit Go.Maps

theorem zeroN (w : World) : (zeroValue 30).run Try.prog w = .ok (.int .u32 0) w := by kernel_rfl
/-- Block b is a map that reads as L, of at most m entries. -/
def MapR (W : World) (b : Nat) (L : List Fc) (m : Nat) : Prop := ∃ (D : DataW Unit) (n : Nat), n ≤ m ∧ W.ownsMap Try.prog 55 (plainElem Try.prog 30) b n D ∧ Rd D L
theorem MapR.lt {W : World} {b m : Nat} {L : List Fc} (h : MapR W b L m) : b < W.heap.size := by
  obtain ⟨D, n, -, h, -⟩ := h
  exact h.lt
theorem MapR.same {W W' : World} {b m : Nat} {L : List Fc} (h : MapR W b L m) (hb : W'.heap[b]? = W.heap[b]?) : MapR W' b L m := by
  obtain ⟨D, n, hn, ⟨es, clock, h1, h2⟩, hr⟩ := h
  exact ⟨D, n, hn, ⟨es, clock, hb.trans h1, h2⟩, hr⟩
theorem MapR.up {W : World} {b m m' : Nat} {L : List Fc} (h : MapR W b L m) (hm : m ≤ m') : MapR W b L m' := by
  obtain ⟨D, n, hn, h⟩ := h
  exact ⟨D, n, Nat.le_trans hn hm, h⟩
theorem MapR.facts {W : World} {b m : Nat} {L : List Fc} (h : MapR W b L m) : MapR W b (factsJ L) m := by
  obtain ⟨D, n, hn, h, hr⟩ := h
  exact ⟨D, n, hn, h, hr.same fun k y => last_facts k y L⟩
/-- The program's journal in block N: its device's bytes are v, its map is block b. -/
structure Jor (W : World) (N b : Nat) (v : Value) (room : Int) (L : List Fc) (K m : Nat) : Prop where
  c0 : W.cell? ⟨N, 0, none⟩ = some (.int .i64 room)
  c1 : W.cell? ⟨N, 1, none⟩ = some v
  c2 : W.cell? ⟨N, 2, none⟩ = some (.int .i64 (12 * (K : Int)))
  c3 : W.cell? ⟨N, 3, none⟩ = some (.map (some b))
  fz : ∀ o, W.frozen? ⟨N, o, none⟩ = false
  own : Own8 W (N + 1) 5 v (12 * L.length) (bytesJ L)
  mp : MapR W b L m
  nb : b ≠ N
  vb : v.ownBlock ≠ some b
  ok : Fcs L
  may : ∀ f ∈ L, MayF f
  kl : K ≤ L.length
  lm : L.length ≤ m
  lr : L.length = 0 ∨ (L.length : Int) ≤ room
/-- The blocks that are its own. -/
def fpP (N b : Nat) (v : Value) (k : Nat) : Prop := k = N ∨ k = b ∨ v.ownBlock = some k
def JM (w : World) (B : Nat → Prop) (p : Addr) (room : Int) (L : List Fc) (K m : Nat) : Prop := ∃ N b v, p = ⟨N, 0, none⟩ ∧ (∀ k, B k ↔ fpP N b v k) ∧ Jor w N b v room L K m
section
variable {w w' W W' : World} {N b b' K K' m m' : Nat} {room : Int} {v v' : Value} {L L' : List Fc}
theorem Jor.lt (h : Jor W N b v room L K m) : N < W.heap.size := block_lt_of_cell h.c0
theorem Jor.own_ne (h : Jor W N b v room L K m) : v.ownBlock ≠ some N := fun e => by have := h.own.lt N e; omega
theorem Jor.keep (h : Jor W N b v room L K m) {C : Nat → Prop} (hk : Keep C W W') (hd : ∀ k, fpP N b v k → ¬ C k) : Jor W' N b v room L K m := by
  have hN := hd N (.inl rfl)
  have hc : ∀ o, W'.cell? ⟨N, o, none⟩ = W.cell? ⟨N, o, none⟩ := fun o => hk.cell (p := ⟨N, o, none⟩) h.lt hN
  exact { h with c0 := (hc 0).trans h.c0, c1 := (hc 1).trans h.c1, c2 := (hc 2).trans h.c2, c3 := (hc 3).trans h.c3, fz := fun o => (hk.frozen (p := ⟨N, o, none⟩) h.lt hN).trans (h.fz o), own := h.own.same fun g hg => hk.block g (h.own.own_lt hg) (hd g (.inr (.inr hg))), mp := h.mp.same (hk.block b h.mp.lt (hd b (.inr (.inl rfl)))) }
theorem Jor.later (h : Jor W N b v room L K m) (hk : Below W.heap.size W W') : Jor W' N b v room L K m := h.keep (C := fun _ => False) (keep_of hk) (fun _ _ h => h)
theorem Jor.up (h : Jor W N b v room L K m) (hm : m ≤ m') : Jor W N b v room L K m' := { h with mp := h.mp.up hm, lm := Nat.le_trans h.lm hm }
theorem doneP {B : Nat → Prop} (hB : ∀ k, B k ↔ fpP N b v k) (h : Jor w' N b' v' room L' K' m') (hb : b' = b ∨ w.heap.size ≤ b') (hv : ∀ g, v'.ownBlock = some g → v.ownBlock = some g ∨ w.heap.size ≤ g) (hk : Keep (fpP N b v) w w') (e0 : Ending) :
    DoneJ JM w B ⟨N, 0, none⟩ room L' K' m' e0 e0 w' := by
  refine ⟨fpP N b' v', rfl, ⟨N, b', v', rfl, fun _ => Iff.rfl, h⟩, fun k hk => ?_, hk.mono fun i _ hi => (hB i).2 hi⟩
  rcases hk with rfl | rfl | hg
  · exact .inl ((hB _).2 (.inl rfl))
  · rcases hb with rfl | hb
    · exact .inl ((hB _).2 (.inr (.inl rfl)))
    · exact .inr hb
  · rcases hv _ hg with hg | hg
    · exact .inl ((hB _).2 (.inr (.inr hg)))
    · exact .inr hg
/-- Another number is kept. -/
theorem Jor.mark (h : Jor W N b v room L K m) {K' : Nat} (hK : K' ≤ L.length) : Jor (W.setCell ⟨N, 2, none⟩ (.int .i64 (12 * (K' : Int)))) N b v room L K' m := by
  refine { h with c0 := ?_, c1 := ?_, c2 := ?_, c3 := ?_, fz := fun o => ?_, own := ?_, mp := ?_, kl := hK }
  · rw [World.cell?_setCell_other _ _ _ _ (by simp)]; exact h.c0
  · rw [World.cell?_setCell_other _ _ _ _ (by simp)]; exact h.c1
  · rw [World.cell?_setCell_same _ _ _ h.c2]
  · rw [World.cell?_setCell_other _ _ _ _ (by simp)]; exact h.c3
  · rw [World.frozen?_setCell]; exact h.fz o
  · refine h.own.same fun g hg => Below.heap_setCell _ _ _ _ ?_
    have := h.own.lt g hg
    show g ≠ N
    omega
  · exact h.mp.same (Below.heap_setCell _ _ _ _ h.nb)
end
theorem new_any (room : Int) (w : World) : Calls Try.prog 10 #[.int .i64 room] w fun e w' => ∃ p B, e = .returned (.pointer (some p)) ∧ JM w' B p room [] 0 0 ∧ (∀ k, B k → w.heap.size ≤ k) ∧ Below w.heap.size w w' := by
  have hmm := @run_makeMap Try.prog
  go_enter Try.func10, Try.ntmps10
  go_wp2
  go_ret
  have h0 := World.ownsMap_made w Try.prog 55 (plainElem (H := Unit) Try.prog 30)
  refine ⟨_, fpP (w.heap.size + 1) w.heap.size (.slice none 0 0), rfl, ⟨w.heap.size + 1, w.heap.size, .slice none 0 0, rfl, fun k => Iff.rfl, ⟨by simp [go_sem], by simp [go_sem], by simp [go_sem], by simp [go_sem], fun o => by simp [go_sem], own8_nil _ _ _, ⟨_, 0, Nat.le_refl _, h0.alloc _, rd_nil⟩, by omega, by simp [Value.ownBlock], (fun _ h => by cases h), (fun _ h => by cases h), Nat.le_refl _, Nat.le_refl _, .inl rfl⟩⟩, fun k hk => ?_, below2 _ _ _⟩
  rcases hk with rfl | rfl | hk
  · omega
  · omega
  · simp [Value.ownBlock] at hk
section
variable {N b K m : Nat} {room : Int} {v : Value} {L : List Fc}
theorem len_any (w : World) (h : Jor w N b v room L K m) (hm : m ≤ 2002) : Calls Try.prog 24 #[.pointer (some ⟨N, 0, none⟩)] w fun e w' => e = .returned (.int .i64 (L.length : Int)) ∧ w' = w := by
  obtain ⟨ad, cap, rfl⟩ := h.own.shape
  have hl := h.lm
  have c1 := h.c1
  obtain ⟨nn, hn⟩ : ∃ n, 12 * L.length = n := ⟨_, rfl⟩
  rw [hn] at c1
  have hq : (nn : Int) / 12 = (L.length : Int) := by omega
  have HQ : Hid ((nn : Int) / 12 = (L.length : Int)) := hq
  have hn3 : (nn : Int) ≤ 30000 := by omega
  clear h hn hl hq
  go_enter Try.func24, Try.ntmps24
  go_wp2
  go_ret
  exact ⟨by rw [← HQ.out]; rfl, rfl⟩
set_option maxHeartbeats 1000000 in
theorem get_any (k y : Int) (w : World) (h : Jor w N b v room L K m) (hk : KyOk k y) : Calls Try.prog 19 #[.pointer (some ⟨N, 0, none⟩), .int .i64 k, .int .u32 y] w fun e w' => e = .returned (.tuple #[.int .u32 (numF k y L), .bool (isF k y L)]) ∧ Below w.heap.size w w' := by
  obtain ⟨D, n, -, hown, hr⟩ := h.mp
  have HR : Hid (Rd D L) := hr
  have hkey := kN_is hk
  have HK : Hid (KyOk k y) := hk
  have c3 := h.c3
  clear h hr hk
  go_enter Try.func19, Try.ntmps19
  go_wp2_with (first
    | (at_lookup; refine wpList_lookup_own_ok_int _ rfl _ _ 50 rfl 55 30 .u32 lawN Try.underlying50 Try.underlying30 (zeroN _) b _ D rfl hown _ _ rfl hkey ?_; intro c hat hwc; have HC : Hid (c = numF k y L) := HR.out.num HK.out hat; clear hat hwc)
    | go_in)
  go_ret2
  exact ⟨by rw [HC.out, HR.out.has _ _ HK.out]; rfl, Below.refl _ _⟩
theorem sync_any (w : World) {B : Nat → Prop} (hB : ∀ k, B k ↔ fpP N b v k) (h : Jor w N b v room L K m) : Calls Try.prog 13 #[.pointer (some ⟨N, 0, none⟩)] w (DoneJ JM w B ⟨N, 0, none⟩ room L L.length (m + 1) (.returned (.tuple #[]))) := by
  obtain ⟨ad, cap, rfl⟩ := h.own.shape
  have HT : Hid (Jor w N b (.slice ad (12 * L.length) cap) room L K m) := h
  have HB : Hid (∀ k, B k ↔ fpP N b (.slice ad (12 * L.length) cap) k) := hB
  have c1 := h.c1
  have c2 := h.c2
  have f2 := h.fz 2
  obtain ⟨nn, hn⟩ : ∃ n, 12 * L.length = n := ⟨_, rfl⟩
  rw [hn] at c1
  have HQ : Hid ((nn : Int) = 12 * (L.length : Int)) := by unfold Hid; omega
  clear h hn hB
  go_enter Try.func13, Try.ntmps13
  go_wp2
  refine bodyPost_end (results_none rfl _ _ _) rfl ?_
  rw [HQ.out]
  exact doneP HB.out ((HT.out.mark (Nat.le_refl _)).up (Nat.le_succ _)) (.inl rfl) (fun _ hg => .inl hg) ((Keep.refl _ _).setCell (p := ⟨N, 2, none⟩) (.inl rfl) _) _
theorem bytes_any (w : World) (h : Jor w N b v room L K m) (hm : m ≤ 2002) : Calls Try.prog 25 #[.pointer (some ⟨N, 0, none⟩)] w fun e w' => ∃ ad k cap, e = .returned (.slice ad k cap) ∧ Row8 w' ad k (bytesJ L) ∧ Below w.heap.size w w' := by
  obtain ⟨ad, cap, rfl⟩ := h.own.shape
  have hl := h.lm
  have c1 := h.c1
  have own := h.own
  have HBy : Hid (Bytes (bytesJ L)) := bytes_J h.ok h.may
  obtain ⟨nn, hn⟩ : ∃ n, 12 * L.length = n := ⟨_, rfl⟩
  rw [hn] at c1 own
  have hn3 : nn ≤ 100000 := by omega
  have HO : Hid (Own8 w (N + 1) 5 (.slice ad nn cap) nn (bytesJ L)) := own
  clear h hn hl own
  go_enter Try.func25, Try.ntmps25
  go_wp2_with (go_at_call 31; refine (clone_any _ _ _ _ _ _ HO.out HBy.out hn3).mono ?_; rintro e W1 ⟨a1, k1, c1', rfl, row1, hb1⟩; have H1 : Hid (Row8 W1 a1 k1 (bytesJ L) ∧ Below w.heap.size w W1) := ⟨row1, hb1⟩; clear row1 hb1)
  go_ret
  exact ⟨a1, k1, c1', rfl, H1.out.1, H1.out.2⟩
end
end Go.Proofs.Ytofmgkpghkeegaa
