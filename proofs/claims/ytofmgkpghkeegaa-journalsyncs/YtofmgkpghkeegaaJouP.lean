/- The contracts of the document's Put and Crash. -/
import Derived.Test.YtofmgkpghkeegaaJouR
import Derived.Deep.RegionLaw
namespace Go.Proofs.Ytofmgkpghkeegaa
open Go.RowKit

theorem below_dal (X : World) (o : Obj) : Below X.heap.size X (X.drew.alloc o) := (Below.refl _ _).drew.alloc (Nat.le_refl _) o
abbrev valFc (f : Fc) : Value := .agg #[.int .i64 f.k, .int .u32 f.y, .int .u32 f.n]
set_option maxRecDepth 100000 in
set_option maxHeartbeats 4000000 in
theorem refPut_any (N K : Nat) (room : Int) (v : Value) (L : List Fc) (k y n : Int) (w : World) (h : RefJ w N room v L K) (hL : L.length ≤ 3000) (hf : Fc.Ok ⟨k, y, n⟩) :
    Calls Try.prog 12 #[.pointer (some ⟨N, 0, none⟩), .agg #[.int .i64 k, .int .u32 y, .int .u32 n]] w (DoneR w N room v (putJ room L ⟨k, y, n⟩) K (.returned (.int .i64 (putX room L ⟨k, y, n⟩)))) := by
  have HF : Hid (Fc.Ok ⟨k, y, n⟩) := hf
  have HT : Hid (RefJ w N room v L K) := h
  by_cases h0 : k < 0
  · have hx := putX_arg (room := room) (L := L) (f := ⟨k, y, n⟩) (.inl h0)
    rw [putJ_no (by rw [hx]; decide), hx]
    clear h hf hx
    go_enter Try.func12, Try.ntmps12
    go_wp2
    go_ret
    exact DoneR.none HT.out (below1 _ _)
  by_cases h1 : 255 < k
  · have hx := putX_arg (room := room) (L := L) (f := ⟨k, y, n⟩) (.inr h1)
    rw [putJ_no (by rw [hx]; decide), hx]
    clear h hf hx
    go_enter Try.func12, Try.ntmps12
    go_wp2
    go_ret
    exact DoneR.none HT.out (below1 _ _)
  have hm : MayF ⟨k, y, n⟩ := ⟨by simp only; omega, by simp only; omega⟩
  obtain ⟨ad, cap, rfl⟩ := h.own.shape
  obtain ⟨nn, hn⟩ : ∃ n, L.length = n := ⟨_, rfl⟩
  have HN : Hid (L.length = nn) := hn
  have h' := h.later (below1 w (objF k y n))
  have HT1 : Hid (RefJ (w.alloc (objF k y n)) N room (.slice ad L.length cap) L K) := h'
  have hg := h'.head (grown_refl _ _)
  have c0 := h'.c0
  have c1 := h'.c1
  have f1 := h'.fz 1
  rw [hn] at c1 hL HT HT1
  have hN := h.lt
  by_cases hr : room ≤ (nn : Int)
  · have hx := putX_full (room := room) (L := L) hm (by rw [hn]; exact hr)
    rw [putJ_no (by rw [hx]; decide), hx, hn]
    have hr' : (nn : Int) ≥ room := hr
    clear h h' hg hf hx hn hm
    go_enter Try.func12, Try.ntmps12
    go_wp2
    go_quiet (fail)
    go_wp2
    go_ret
    exact DoneR.none HT.out (below_drewN (below1 _ _) _)
  · have hx := putX_ok (room := room) (L := L) hm (by rw [hn]; exact hr)
    rw [putJ_ok hx, hx, hn]
    have hr' : ¬ (nn : Int) ≥ room := hr
    have HA : Hid (∀ W', (w.alloc (objF k y n)).grownBy W' (Value.slice ad nn cap).ownBlock → W'.cell? ⟨N, 1, none⟩ = some (.slice ad nn cap) ∧ W'.frozen? ⟨N, 1, none⟩ = false ∧ W'.cell? ⟨w.heap.size, 0, none⟩ = some (.int .i64 k) ∧ W'.cell? ⟨w.heap.size, 1, none⟩ = some (.int .u32 y) ∧ W'.cell? ⟨w.heap.size, 2, none⟩ = some (.int .u32 n)) := fun W' hW => by
      have e1 := HT1.out.head hW 1
      rw [c1] at e1
      obtain ⟨b0, b1, b2⟩ := (F3.new w k y n).z
      have hb := hW.block w.heap.size (by simp) fun e => by
        have := HT.out.own.own_lt (g := w.heap.size) e.symm
        omega
      refine ⟨e1.1, e1.2, ?_, ?_, ?_⟩
      · rw [World.cell?_of_block (w := w.alloc (objF k y n)) (a := ⟨w.heap.size, 0, none⟩) hb]; exact b0
      · rw [World.cell?_of_block (w := w.alloc (objF k y n)) (a := ⟨w.heap.size, 1, none⟩) hb]; exact b1
      · rw [World.cell?_of_block (w := w.alloc (objF k y n)) (a := ⟨w.heap.size, 2, none⟩) hb]; exact b2
    have HO : Hid (OwnF (w.alloc (objF k y n)) (N + 1) (.slice ad nn cap) nn L) := by have := HT1.out.own; rw [HN.out] at this; exact this
    clear h h' hg hf hx hn hm f1
    go_enter Try.func12, Try.ntmps12
    go_wp2
    go_quiet (fail)
    obtain ⟨W2, hW2⟩ : ∃ W2, W2 = (w.alloc (objF k y n)).drewN nq := ⟨_, rfl⟩
    rw [← hW2]
    have HG2 : Hid ((w.alloc (objF k y n)).grownBy W2 (Value.slice ad nn cap).ownBlock) := by rw [hW2]; exact grown_of (below_drewN (Below.refl _ _) _) _
    have HO2 : Hid (OwnF W2 (N + 1) (.slice ad nn cap) nn L) := by rw [hW2]; exact HO.out.later (below_drewN (Below.refl _ _) _)
    obtain ⟨c12, f12, b0, b1, b2⟩ := HA.out W2 HG2.out
    have HC5 : Hid (∀ w', (w.alloc (objF k y n)).grownBy w' (Value.slice ad nn cap).ownBlock → w'.cell? ⟨N, 1, none⟩ = some (.slice ad nn cap) ∧ w'.frozen? ⟨N, 1, none⟩ = false) := fun w' hW => ⟨(HA.out w' hW).1, (HA.out w' hW).2.1⟩
    have c12a : (W2.alloc (.cells #[.int .i64 k, .int .u32 y, .int .u32 n] 32)).cell? ⟨N, 1, none⟩ = some (.slice ad nn cap) := (HA.out _ (grown_alloc HG2.out _)).1
    have hbs : w.heap.size < W2.heap.size := Nat.lt_of_lt_of_le (by simp) HG2.out.size
    have hNs : N + 1 ≤ W2.heap.size := Nat.le_trans (Nat.succ_le_of_lt hN) (Nat.le_trans (by simp) HG2.out.size)
    clear hW2 HA HO c0 c1
    go_wp2
    go_region_law
      (first
        | (refine step_appFg _ (by rfl) _ _ 27 (by rfl) (N + 1) Try.underlying27 infoF _ nn L (by rfl) (HO2.out.later (below1 _ _).drew) _ 1 1 [⟨k, y, n⟩] (by rfl) (rowF_one ((F3.newAt W2 W2.heap.size rfl k y n).later (Below.refl _ _).drew) rfl HF.out) (nn + 1) (by rfl) (L ++ [⟨k, y, n⟩]) (by rfl) (by omega) (by simp [World.drew]; omega) ?_; intro a5 c5 W5 own5 hg5 loc5; have HGW : Hid ((w.alloc (objF k y n)).grownBy W5 (Value.slice ad nn cap).ownBlock) := grown_trans (grown_draw (grown_alloc HG2.out _)) hg5; obtain ⟨c15, f15⟩ := HC5.out _ HGW.out))
    all_goals
      go_wp2
      go_ret
      have hgw := HGW.out
      refine ⟨.slice a5 (nn + 1) c5, rfl, HT1.out.lay hgw (by simpa [HN.out] using own5) (fun p hp => ?_) (by have := HT.out.kl; simp; omega), fun g hg => ?_, ?_⟩
      · rw [List.mem_append, List.mem_singleton] at hp
        rcases hp with hp | rfl
        · exact HT.out.ok p hp
        · exact HF.out
      · rcases loc5 with e | e
        · exact .inl (e ▸ hg)
        · rw [e] at hg
          simp only [Option.some.injEq] at hg
          subst hg
          have := HG2.out.size
          refine .inr ?_
          simp at this ⊢
          omega
      · exact ((keep_of (below1 w _)).trans (keep_fp hgw) (fun i _ hi => hi)).setCell (p := ⟨N, 1, none⟩) (.inl rfl) _
theorem crN_pos {keep : Int} {d r : Nat} (h : 0 < keep) (hr : keep % (12 * (d : Int) + 1) = (r : Int)) : crN keep d = r / 12 := by
  unfold crN
  rw [if_pos h, hr]
  rfl
theorem crN_neg {keep : Int} {d : Nat} (h : ¬ 0 < keep) : crN keep d = 0 := by unfold crN; rw [if_neg h]; rfl
theorem rem_some (keep : Int) (d : Nat) : ∃ r : Nat, keep % (12 * (d : Int) + 1) = (r : Int) ∧ r ≤ 12 * d := by
  have h1 := Int.emod_lt_of_pos keep (show 0 < 12 * (d : Int) + 1 by omega)
  have h2 := Int.emod_nonneg keep (show 12 * (d : Int) + 1 ≠ 0 by omega)
  exact ⟨(keep % (12 * (d : Int) + 1)).toNat, by rw [Int.toNat_of_nonneg h2], by omega⟩
theorem RefJ.crash {w W : World} {N K nn cap k : Nat} {room : Int} {ad : Option Addr} {L : List Fc} (h : RefJ w N room (.slice ad nn cap) L K) (hn : L.length = nn) (hb : Below w.heap.size w W) (hk : k ≤ nn) (hK : K ≤ k) (e0 : Ending) :
    DoneR w N room (.slice ad nn cap) (L.take k) k e0 e0 ((W.setCell ⟨N, 1, none⟩ (.slice ad k cap)).setCell ⟨N, 2, none⟩ (.int .i64 (k : Int))) := by
  have hl : (L.take k).length = k := by rw [List.length_take, hn]; omega
  have own := (h.later hb).own
  rw [hn] at own
  have h1 := h.lay (grown_of hb _) (v' := .slice ad k cap) (L' := L.take k) (by rw [hl]; exact own.cut hk) (fun p hp => h.ok p (List.mem_of_mem_take hp)) (by rw [hl]; exact hK)
  refine ⟨_, rfl, h1.mark (by rw [hl]; exact Nat.le_refl _), fun g hg => .inl ?_, ((keep_of hb).setCell (p := ⟨N, 1, none⟩) (.inl rfl) _).setCell (p := ⟨N, 2, none⟩) (.inl rfl) _⟩
  cases ad with
  | none => exact hg
  | some x => exact hg
set_option maxRecDepth 100000 in
set_option maxHeartbeats 2000000 in
theorem refCrash_any (N K : Nat) (room keep : Int) (v : Value) (L : List Fc) (w : World) (h : RefJ w N room v L K) (hL : L.length ≤ 3000) :
    Calls Try.prog 16 #[.pointer (some ⟨N, 0, none⟩), .int .i64 keep] w (DoneR w N room v (crJ L K keep) (crJ L K keep).length (.returned (.tuple #[]))) := by
  obtain ⟨ad, cap, rfl⟩ := h.own.shape
  obtain ⟨nn, hn⟩ : ∃ n, L.length = n := ⟨_, rfl⟩
  have hkl := h.kl
  have hcap := h.own.cap_le
  rw [crJ_len hkl keep]
  unfold crJ
  rw [hn] at h hL hkl hcap ⊢
  have HT : Hid (RefJ w N room (.slice ad nn cap) L K) := h
  have HN : Hid (L.length = nn) := hn
  obtain ⟨d, hd0⟩ : ∃ d, nn - K = d := ⟨_, rfl⟩
  rw [hd0]
  have hd : (nn : Int) - (K : Int) = (d : Int) := by omega
  have c1 := h.c1
  have c2 := h.c2
  have f1 := h.fz 1
  have f2 := h.fz 2
  have hle := crN_le keep d
  clear h hn
  by_cases hp : 0 < keep
  · obtain ⟨r, hr, hrd⟩ := rem_some keep d
    rw [crN_pos hp hr] at hle ⊢
    obtain ⟨q, hq⟩ : ∃ q, r / 12 = q := ⟨_, rfl⟩
    rw [hq] at hle ⊢
    have hq' : ((r : Int)) / 12 = (q : Int) := by rw [← hq]; rfl
    obtain ⟨m, hm⟩ : ∃ m, K + q = m := ⟨_, rfl⟩
    have hkq : (K : Int) + (q : Int) = (m : Int) := by omega
    have hmc : (m : Int) ≤ (cap : Int) := by omega
    have HMN : Hid (m ≤ nn ∧ K ≤ m) := ⟨by omega, by omega⟩
    have hm3 : (m : Int) ≤ 3000 := by omega
    rw [hm]
    clear hq hm hd0 hle
    go_enter Try.func16, Try.ntmps16
    go_wp2
    go_quiet (fail)
    go_wp2
    go_region
    all_goals
      go_wp2
      refine bodyPost_end (results_none rfl _ _ _) rfl ?_
      exact HT.out.crash HN.out (below_drewN (Below.refl _ _) _) HMN.out.1 HMN.out.2 _
  · rw [crN_neg hp, Nat.add_zero]
    have hmc : (K : Int) ≤ (cap : Int) := by omega
    have hm3 : (K : Int) ≤ 3000 := by omega
    have HMN : Hid (K ≤ nn) := hkl
    clear hd0 hle hd
    go_enter Try.func16, Try.ntmps16
    go_wp2
    go_region
    all_goals
      go_wp2
      refine bodyPost_end (results_none rfl _ _ _) rfl ?_
      exact HT.out.crash HN.out ((Below.refl _ _).drew) HMN.out (Nat.le_refl _) _
end Go.Proofs.Ytofmgkpghkeegaa
