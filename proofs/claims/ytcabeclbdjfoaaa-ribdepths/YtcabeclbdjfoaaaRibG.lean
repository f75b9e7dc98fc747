/- The contracts of the document's New, Take and Same. -/
import Derived.Test.YtcabeclbdjfoaaaRibR
namespace Go.Proofs.Ytcabeclbdjfoaaa
open Go.RowKit

theorem RowR.take {W : World} {ad : Option Addr} {n : Nat} {L : List Rt} (h : RowR W ad n L) (m : Nat) (hm : m ≤ n) : RowR W ad m (L.take m) :=
  ⟨by rw [List.length_take, h.1]; omega, fun p hp => h.2.1 p (List.mem_of_mem_take hp), fun i p hp => by
    have hi : i < m := by
      rcases Nat.lt_or_ge i m with hi | hi
      · exact hi
      · rw [List.getElem?_eq_none (by rw [List.length_take]; omega)] at hp; cases hp
    rw [List.getElem?_take_of_lt hi] at hp
    exact h.2.2 i p hp⟩
theorem RowR.drop {W : World} {b off n : Nat} {L : List Rt} (h : RowR W (some ⟨b, off, none⟩) n L) (k m : Nat) (hk : k + m = n) : RowR W (some ⟨b, off + k * 7, none⟩) m (L.drop k) :=
  ⟨by rw [List.length_drop, h.1]; omega, fun p hp => h.2.1 p (List.mem_of_mem_drop hp), fun i p hp => by
    rw [List.getElem?_drop] at hp
    obtain ⟨b', off', e, q⟩ := h.2.2 (k + i) p hp
    simp only [Option.some.injEq, Addr.mk.injEq, and_true] at e
    obtain ⟨rfl, rfl⟩ := e
    refine ⟨_, _, rfl, ?_⟩
    rw [show off + k * 7 + i * 7 = off + (k + i) * 7 by omega]; exact q⟩
theorem rowR_zero {W : World} {ad : Option Addr} {L : List Rt} (h : L.length = 0) : RowR W ad 0 L := by
  obtain rfl := List.eq_nil_of_length_eq_zero h
  exact ⟨rfl, (fun _ h => by cases h), fun i e h => by simp at h⟩
/-- What a call that changes the document's table leaves. -/
def DoneB (w : World) (N : Nat) (v : Value) (most : Int) (L : List Rt) (full x : Int) (e : Ending) (w' : World) : Prop :=
  ∃ v', e = .returned (.int .i64 x) ∧ RefB w' N v' most L full ∧ (∀ g, v'.ownBlock = some g → v.ownBlock = some g ∨ w.heap.size ≤ g) ∧ Keep (fpB N v) w w'
theorem DoneB.none {w w' : World} {N : Nat} {v : Value} {most : Int} {L : List Rt} {full x : Int} (h : RefB w N v most L full) (hb : Below w.heap.size w w') : DoneB w N v most L full x (.returned (.int .i64 x)) w' :=
  ⟨v, rfl, h.later hb, fun _ hg => .inl hg, keep_of hb⟩
/-- A new row is laid. -/
theorem RefB.lay {w W : World} {N : Nat} {v : Value} {most : Int} {L L' : List Rt} {full : Int} (h : RefB w N v most L full) (hb : Below w.heap.size w W) {v' : Value} (own : OwnR W w.heap.size v' L'.length L') (hP : Rts L') (x : Int) : DoneB w N v most L' full x (.returned (.int .i64 x)) (W.setCell ⟨N, 1, none⟩ v') := by
  have h' := h.later hb
  obtain ⟨h0, h1, h1', h2, -, -, h5⟩ := h'
  have hNw := h.lt
  refine ⟨v', rfl, ⟨?_, ?_, ?_, fun o => ?_, ?_, hP, by simpa using h5⟩, fun g hg => .inr (own.lt g hg), (keep_of hb).setCell (p := ⟨N, 1, none⟩) (.inl rfl) _⟩
  · rw [World.cell?_setCell_other _ _ _ _ (by simp)]; exact h0
  · rw [World.cell?_setCell_same _ _ _ h1]
  · rw [World.cell?_setCell_other _ _ _ _ (by simp)]; exact h1'
  · rw [World.frozen?_setCell]; exact h2 o
  · refine OwnR.base (OwnR.same (W' := W.setCell ⟨N, 1, none⟩ v') own fun g hg => ?_) (Nat.succ_le_of_lt hNw)
    have := own.lt g hg
    exact Below.heap_setCell _ _ _ _ (by show g ≠ N; omega)
/-- One more was refused. -/
theorem RefB.more {w W : World} {N : Nat} {v : Value} {most : Int} {L : List Rt} {full : Int} (h : RefB w N v most L full) (hb : Below w.heap.size w W) (f x : Int) : DoneB w N v most L f x (.returned (.int .i64 x)) (W.setCell ⟨N, 2, none⟩ (.int .i64 f)) := by
  have h' := h.later hb
  obtain ⟨h0, h1, h1', h2, h3, h4, h5⟩ := h'
  refine ⟨v, rfl, ⟨?_, ?_, ?_, fun o => ?_, ?_, h4, by simpa using h5⟩, fun g hg => .inl hg, (keep_of hb).setCell (p := ⟨N, 2, none⟩) (.inl rfl) _⟩
  · rw [World.cell?_setCell_other _ _ _ _ (by simp)]; exact h0
  · rw [World.cell?_setCell_other _ _ _ _ (by simp)]; exact h1
  · rw [World.cell?_setCell_same _ _ _ h1']
  · rw [World.frozen?_setCell]; exact h2 o
  · refine OwnR.same (W' := W.setCell ⟨N, 2, none⟩ (.int .i64 f)) h3 fun g hg => ?_
    have := h3.lt g hg
    exact Below.heap_setCell _ _ _ _ (by show g ≠ N; omega)
theorem eraseR_is (L : List Rt) (i : Nat) : L.take i ++ L.drop (i + 1) = L.eraseIdx i := (List.eraseIdx_eq_take_drop_succ L i).symm
theorem Rts.erase {L : List Rt} (h : Rts L) (i : Nat) : Rts (L.eraseIdx i) := fun p hp => h p ((List.eraseIdx_sublist L i).subset hp)
set_option maxHeartbeats 1000000 in
theorem refTakeR_any (N : Nat) (v : Value) (most : Int) (L : List Rt) (full a l d : Int) (w : World) (h : RefB w N v most L full) (hL : L.length ≤ 1000) :
    Calls Try.prog 20 #[.pointer (some ⟨N, 0, none⟩), valP a l, .int .i64 d] w (DoneB w N v most (takeR L ⟨a, l, d⟩) full (takeRX L ⟨a, l, d⟩)) := by
  have HT : Hid (RefB w N v most L full) := h
  obtain ⟨ad, cap, rfl⟩ := h.own.shape
  obtain ⟨n, hn⟩ : ∃ n, L.length = n := ⟨_, rfl⟩
  have HN : Hid (L.length = n) := hn
  have HRow : Hid (RowR w ad n L) := by unfold Hid; have := h.own; rw [hn] at this; exact this.row h.ok
  have hNw := h.lt
  unfold takeR takeRX
  cases hf : rAt ⟨a, l, d⟩ L with
  | none =>
    have HA : Hid (atR ⟨a, l, d⟩ L = -1) := atR_none hf
    simp only [Option.isSome_none, Bool.false_eq_true, if_false]
    clear hf h
    go_enter Try.func20, Try.ntmps20
    go_wp2_with (go_at_call 38; refine (refAtR_any N _ most L full a l d _ (HT.out.later (below1 _ _)) hL HA.out).mono ?_; rintro e W1 ⟨rfl, hb1⟩)
    go_ret
    exact DoneB.none HT.out (Below.out1 hb1)
  | some i =>
    obtain ⟨p, hp, -, hi⟩ := rAt_some hf
    have HA : Hid (atR ⟨a, l, d⟩ L = (i : Int)) := atR_some hf
    simp only [Option.isSome_some, if_true]
    have hcap : n ≤ cap := by
      have := h.own
      rcases this.2 with ⟨e, e'⟩ | ⟨g, c, cur, hv, _, _, hle, _⟩
      · omega
      · simp only [Value.slice.injEq] at hv; rw [hv.2.2]; rw [hn] at hle; exact hle
    have HP : Hid (Rts L) := h.ok
    rw [hn] at hi hL
    have HL : Hid (L.length ≤ 1000) := by unfold Hid; rw [HN.out]; exact hL
    obtain ⟨q, b, off, hq, -, rfl, -⟩ := HRow.out.at hi
    have hi' : (i : Int) ≤ (n : Int) := by omega
    have hi0 : ¬ (i : Int) < 0 := by omega
    have hi2 : (i : Int) ≤ (cap : Int) := by omega
    have hi3 : (n : Int) ≤ (cap : Int) := by omega
    obtain ⟨i1, hi1⟩ : ∃ k, i + 1 = k := ⟨_, rfl⟩
    have hw1 : (i : Int) + 1 = (i1 : Int) := by omega
    have hi4 : (i1 : Int) ≤ (n : Int) := by omega
    have hi5 : (i1 : Int) ≤ (cap : Int) := by omega
    have HI1 : Hid (i + 1 = i1) := hi1
    have HRd : Hid (∀ W, Below w.heap.size w W → RowR W (if cap = i1 then some ⟨b, off, none⟩ else some ⟨b, off + i1 * 7, none⟩) (n - i1) (L.drop i1)) := fun W hW => by
      by_cases hc : cap = i1
      · rw [if_pos hc, show n - i1 = 0 by omega]
        exact rowR_zero (by rw [List.length_drop, HN.out]; omega)
      · rw [if_neg hc]
        exact (HRow.out.later hW).drop i1 (n - i1) (by omega)
    obtain ⟨ra, hra⟩ : ∃ ra, (if cap = i1 then some (⟨b, off, none⟩ : Addr) else some ⟨b, off + i1 * 7, none⟩) = ra := ⟨_, rfl⟩
    rw [hra] at HRd
    have HE : Hid (L.take i ++ L.drop i1 = L.eraseIdx i) := by unfold Hid; rw [← hi1]; exact eraseR_is L i
    have HEl : Hid ((L.eraseIdx i).length = i + (n - i1)) := by unfold Hid; rw [← HE.out, List.length_append, List.length_take, List.length_drop, HN.out]; omega
    clear hf hp h hn hi1 hq
    go_enter Try.func20, Try.ntmps20
    go_wp2_with (first
      | (go_at_call 38; refine (refAtR_any N _ most L full a l d _ (HT.out.later (below1 _ _)) HL.out HA.out).mono ?_; rintro e W1 ⟨rfl, hb1⟩; have hB1 := Below.out1 hb1; have z1 := (HT.out.later hB1).2.1; rw [HN.out] at z1)
      | (at_builtin; refine wpList_appR _ rfl (.const (.slice none 0 0)) (.tmp 20) 42 rfl w.heap.size Try.underlying42 infoR _ 0 [] rfl (ownR_nil _ _) _ i cap (L.take i) rfl ((HRow.out.later hB1).take i (by omega)) i (by omega) (L.take i) rfl (by omega) (by exact hB1.size) ?_; intro a2 c2 W2 own2 hb2; have hB2 := hB1.trans hb2; have z1 := (HT.out.later hB2).2.1; rw [HN.out] at z1)
      | (at_builtin; refine wpList_appR _ rfl (.tmp 22) (.tmp 29) 42 rfl w.heap.size Try.underlying42 infoR _ i _ rfl own2 ra (n - i1) (cap - i1) (L.drop i1) rfl (HRd.out _ hB2) (i + (n - i1)) rfl _ HE.out (by omega) (by exact hB2.size) ?_; intro a3 c3 W3 own3 hb3; have hB3 := hB2.trans hb3; have hT3 := HT.out.later hB3; obtain ⟨y0, y1, y1', y2, -, -, y5⟩ := hT3))
    go_ret
    exact HT.out.lay hB3 (by rw [HEl.out]; exact own3) (HP.out.erase i) 0
end Go.Proofs.Ytcabeclbdjfoaaa
