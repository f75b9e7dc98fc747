/- The contracts of the document's Get and Take. -/
import Derived.Test.YtifokdebocgaiaaTriR
namespace Go.Proofs.Ytifokdebocgaiaa
open Go.RowKit

def getN (L : List Pr) (a l : Int) : Int := ((getP L a l).map Pr.n).getD 0
def getB (L : List Pr) (a l : Int) : Bool := (getP L a l).isSome
theorem get_at {L : List Pr} {a l : Int} {i : Nat} {p : Pr} (h : fAt a l L = some i) (hp : L[i]? = some p) : getN L a l = p.n ∧ getB L a l = true := by
  unfold getN getB
  rw [getP_fAt, h]
  simp [hp]
theorem get_no {L : List Pr} {a l : Int} (h : fAt a l L = none) : getN L a l = 0 ∧ getB L a l = false := by
  unfold getN getB
  rw [getP_fAt, h]
  simp
theorem RowQ.take {W : World} {ad : Option Addr} {n : Nat} {L : List Pr} (h : RowQ W ad n L) (m : Nat) (hm : m ≤ n) : RowQ W ad m (L.take m) :=
  ⟨by rw [List.length_take, h.1]; omega, fun p hp => h.2.1 p (List.mem_of_mem_take hp), fun i p hp => by
    have hi : i < m := by
      rcases Nat.lt_or_ge i m with hi | hi
      · exact hi
      · rw [List.getElem?_eq_none (by rw [List.length_take]; omega)] at hp; cases hp
    rw [List.getElem?_take_of_lt hi] at hp
    exact h.2.2 i p hp⟩
theorem RowQ.drop {W : World} {b off n : Nat} {L : List Pr} (h : RowQ W (some ⟨b, off, none⟩) n L) (k m : Nat) (hk : k + m = n) : RowQ W (some ⟨b, off + k * 3, none⟩) m (L.drop k) :=
  ⟨by rw [List.length_drop, h.1]; omega, fun p hp => h.2.1 p (List.mem_of_mem_drop hp), fun i p hp => by
    rw [List.getElem?_drop] at hp
    obtain ⟨b', off', e, q⟩ := h.2.2 (k + i) p hp
    simp only [Option.some.injEq, Addr.mk.injEq, and_true] at e
    obtain ⟨rfl, rfl⟩ := e
    refine ⟨_, _, rfl, ?_⟩
    rw [show off + k * 3 + i * 3 = off + (k + i) * 3 by omega]; exact q⟩
theorem rowQ_zero {W : World} {ad : Option Addr} {L : List Pr} (h : L.length = 0) : RowQ W ad 0 L := by
  obtain rfl := List.eq_nil_of_length_eq_zero h
  exact ⟨rfl, (fun _ h => by cases h), fun i e h => by simp at h⟩
set_option maxHeartbeats 1000000 in
theorem refGet_any (N : Nat) (v : Value) (most : Int) (L : List Pr) (a l : Int) (w : World) (h : RefT w N v most L) (hL : L.length ≤ 1000) :
    Calls Try.prog 16 #[.pointer (some ⟨N, 0, none⟩), valX a l] w fun e w' => e = .returned (.tuple #[.int .i64 (getN L a l), .bool (getB L a l)]) ∧ Below w.heap.size w w' := by
  have HT : Hid (RefT w N v most L) := h
  obtain ⟨ad, cap, rfl⟩ := h.2.2.2.1.shape
  have hNw := h.2.2.2.2.2
  obtain ⟨n, hn⟩ : ∃ n, L.length = n := ⟨_, rfl⟩
  have HN : Hid (L.length = n) := hn
  have HRow : Hid (RowQ w ad n L) := by unfold Hid; have := h.2.2.2.1; rw [hn] at this; exact this.row h.2.2.2.2.1
  clear h
  cases hf : fAt a l L with
  | none =>
    obtain ⟨e1, e2⟩ := get_no hf
    have HA : Hid (atI a l L = -1) := atI_none hf
    rw [e1, e2]
    clear hf e1 e2
    go_enter Try.func16, Try.ntmps16
    go_wp2_with (go_at_call 28; refine (refAt_any N _ most L a l _ (HT.out.later (below1 _ _)) hL HA.out).mono ?_; rintro e W1 ⟨rfl, hb1⟩)
    go_ret2
    exact ⟨rfl, Below.out1 hb1⟩
  | some i =>
    obtain ⟨p, hp, -, -, hi⟩ := fAt_some hf
    obtain ⟨e1, e2⟩ := get_at hf hp
    have HA : Hid (atI a l L = (i : Int)) := atI_some hf
    rw [e1, e2]
    rw [hn] at hi hL
    have HL : Hid (L.length ≤ 1000) := by unfold Hid; rw [HN.out]; exact hL
    obtain ⟨q, b, off, hq, -, rfl, q3⟩ := HRow.out.at hi
    rw [hp] at hq
    simp at hq
    subst hq
    have HQ : Hid (Q3 w b (off + i * 3) p) := q3
    have hi' : (i : Int) < (n : Int) := by omega
    have hi0 : ¬ (i : Int) < 0 := by omega
    obtain ⟨x, hx⟩ : ∃ x, p.n = x := ⟨_, rfl⟩
    have HX : Hid (p.n = x) := hx
    rw [hx]
    clear hf e1 e2 hp q3 hn hx
    go_enter Try.func16, Try.ntmps16
    go_wp2_with (go_at_call 28; refine (refAt_any N _ most L a l _ (HT.out.later (below1 _ _)) HL.out HA.out).mono ?_; rintro e W1 ⟨rfl, hb1⟩; have hB1 := Below.out1 hb1; have z1 := (HT.out.later hB1).2.1; rw [HN.out] at z1; obtain ⟨d0, d1, d2⟩ := HQ.out.later hB1; rw [HX.out] at d2)
    go_ret2
    exact ⟨rfl, hB1⟩
/-- What a call that changes the document's trie leaves. -/
def DoneR (w : World) (N : Nat) (v : Value) (most : Int) (L : List Pr) (x : Int) (e : Ending) (w' : World) : Prop :=
  ∃ v', e = .returned (.int .i64 x) ∧ RefT w' N v' most L ∧ (∀ g, v'.ownBlock = some g → v.ownBlock = some g ∨ w.heap.size ≤ g) ∧ Keep (fpR N v) w w'
theorem DoneR.none {w w' : World} {N : Nat} {v : Value} {most : Int} {L : List Pr} {x : Int} (h : RefT w N v most L) (hb : Below w.heap.size w w') : DoneR w N v most L x (.returned (.int .i64 x)) w' :=
  ⟨v, rfl, h.later hb, fun _ hg => .inl hg, keep_of hb⟩
/-- A new row is laid. -/
theorem RefT.lay {w W : World} {N : Nat} {v : Value} {most : Int} {L L' : List Pr} (h : RefT w N v most L) (hb : Below w.heap.size w W) {v' : Value} (own : OwnQ W w.heap.size v' L'.length L') (hP : Prs L') (x : Int) : DoneR w N v most L' x (.returned (.int .i64 x)) (W.setCell ⟨N, 1, none⟩ v') := by
  have h' := h.later hb
  obtain ⟨h0, h1, h2, -, -, h5⟩ := h'
  have hNw := h.2.2.2.2.2
  refine ⟨v', rfl, ⟨?_, ?_, fun o => ?_, ?_, hP, by simpa using h5⟩, fun g hg => .inr (own.lt g hg), (keep_of hb).setCell (p := ⟨N, 1, none⟩) (.inl rfl) _⟩
  · rw [World.cell?_setCell_other _ _ _ _ (by simp)]; exact h0
  · rw [World.cell?_setCell_same _ _ _ h1]
  · rw [World.frozen?_setCell]; exact h2 o
  · refine OwnQ.base (OwnQ.same (W' := W.setCell ⟨N, 1, none⟩ v') own fun g hg => ?_) (Nat.succ_le_of_lt hNw)
    have := own.lt g hg
    exact Below.heap_setCell _ _ _ _ (by show g ≠ N; omega)
theorem erase_is (L : List Pr) (i : Nat) : L.take i ++ L.drop (i + 1) = L.eraseIdx i := (List.eraseIdx_eq_take_drop_succ L i).symm
theorem Prs.erase {L : List Pr} (h : Prs L) (i : Nat) : Prs (L.eraseIdx i) := fun p hp => h p ((List.eraseIdx_sublist L i).subset hp)
set_option maxHeartbeats 1000000 in
theorem refTake_any (N : Nat) (v : Value) (most : Int) (L : List Pr) (a l : Int) (w : World) (h : RefT w N v most L) (hL : L.length ≤ 1000) :
    Calls Try.prog 14 #[.pointer (some ⟨N, 0, none⟩), valX a l] w (DoneR w N v most (takeL L a l) (takeX L a l)) := by
  have HT : Hid (RefT w N v most L) := h
  obtain ⟨ad, cap, rfl⟩ := h.2.2.2.1.shape
  obtain ⟨n, hn⟩ : ∃ n, L.length = n := ⟨_, rfl⟩
  have HN : Hid (L.length = n) := hn
  have HRow : Hid (RowQ w ad n L) := by unfold Hid; have := h.2.2.2.1; rw [hn] at this; exact this.row h.2.2.2.2.1
  have hNw := h.2.2.2.2.2
  unfold takeL takeX
  cases hf : fAt a l L with
  | none =>
    have HA : Hid (atI a l L = -1) := atI_none hf
    simp only [Option.isSome_none, Bool.false_eq_true, if_false]
    clear hf h
    go_enter Try.func14, Try.ntmps14
    go_wp2_with (go_at_call 28; refine (refAt_any N _ most L a l _ (HT.out.later (below1 _ _)) hL HA.out).mono ?_; rintro e W1 ⟨rfl, hb1⟩)
    go_ret
    exact DoneR.none HT.out (Below.out1 hb1)
  | some i =>
    obtain ⟨p, hp, -, -, hi⟩ := fAt_some hf
    have HA : Hid (atI a l L = (i : Int)) := atI_some hf
    simp only [Option.isSome_some, if_true]
    have hcap : n ≤ cap := by
      have := h.2.2.2.1
      rcases this.2 with ⟨e, e'⟩ | ⟨g, c, cur, hv, _, _, hle, _⟩
      · omega
      · simp only [Value.slice.injEq] at hv; rw [hv.2.2]; rw [hn] at hle; exact hle
    have HP : Hid (Prs L) := h.2.2.2.2.1
    rw [hn] at hi hL
    have HL : Hid (L.length ≤ 1000) := by unfold Hid; rw [HN.out]; exact hL
    obtain ⟨q, b, off, hq, -, rfl, -⟩ := HRow.out.at hi
    have hi' : (i : Int) ≤ (n : Int) := by omega
    have hi0 : ¬ (i : Int) < 0 := by omega
    have hi2 : (i : Int) ≤ (cap : Int) := by omega
    have hi3 : (n : Int) ≤ (cap : Int) := by omega
    obtain ⟨i1, hi1⟩ : ∃ k, i + 1 = k := ⟨_, rfl⟩
    have hw1 : (i : Int) + 1 = (i1 : Int) := by omega
    have hi4 : (i1 : Int) ≤ (n : Int) := by omega
    have hi5 : (i1 : Int) ≤ (cap : Int) := by omega
    have HI1 : Hid (i + 1 = i1) := hi1
    have HRd : Hid (∀ W, Below w.heap.size w W → RowQ W (if cap = i1 then some ⟨b, off, none⟩ else some ⟨b, off + i1 * 3, none⟩) (n - i1) (L.drop i1)) := fun W hW => by
      by_cases hc : cap = i1
      · rw [if_pos hc, show n - i1 = 0 by omega]
        exact rowQ_zero (by rw [List.length_drop, HN.out]; omega)
      · rw [if_neg hc]
        exact (HRow.out.later hW).drop i1 (n - i1) (by omega)
    obtain ⟨ra, hra⟩ : ∃ ra, (if cap = i1 then some (⟨b, off, none⟩ : Addr) else some ⟨b, off + i1 * 3, none⟩) = ra := ⟨_, rfl⟩
    rw [hra] at HRd
    have HE : Hid (L.take i ++ L.drop i1 = L.eraseIdx i) := by unfold Hid; rw [← hi1]; exact erase_is L i
    have HEl : Hid ((L.eraseIdx i).length = i + (n - i1)) := by unfold Hid; rw [← HE.out, List.length_append, List.length_take, List.length_drop, HN.out]; omega
    clear hf hp h hn hi1 hq
    go_enter Try.func14, Try.ntmps14
    go_wp2_with (first
      | (go_at_call 28; refine (refAt_any N _ most L a l _ (HT.out.later (below1 _ _)) HL.out HA.out).mono ?_; rintro e W1 ⟨rfl, hb1⟩; have hB1 := Below.out1 hb1; have z1 := (HT.out.later hB1).2.1; rw [HN.out] at z1)
      | (at_builtin; refine wpList_appQ _ rfl (.const (.slice none 0 0)) (.tmp 17) 27 rfl w.heap.size Try.underlying27 infoQ _ 0 [] rfl (ownQ_nil _ _) _ i cap (L.take i) rfl ((HRow.out.later hB1).take i (by omega)) i (by omega) (L.take i) rfl (by omega) (by exact hB1.size) ?_; intro a2 c2 W2 own2 hb2; have hB2 := hB1.trans hb2; have z1 := (HT.out.later hB2).2.1; rw [HN.out] at z1)
      | (at_builtin; refine wpList_appQ _ rfl (.tmp 19) (.tmp 26) 27 rfl w.heap.size Try.underlying27 infoQ _ i _ rfl own2 ra (n - i1) (cap - i1) (L.drop i1) rfl (HRd.out _ hB2) (i + (n - i1)) rfl _ HE.out (by omega) (by exact hB2.size) ?_; intro a3 c3 W3 own3 hb3; have hB3 := hB2.trans hb3; have hT3 := HT.out.later hB3; obtain ⟨y0, y1, y2, -, -, y5⟩ := hT3))
    go_ret
    exact HT.out.lay hB3 (by rw [HEl.out]; exact own3) (HP.out.erase i) 0
end Go.Proofs.Ytifokdebocgaiaa
