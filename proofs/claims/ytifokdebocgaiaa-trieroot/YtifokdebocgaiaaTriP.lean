/- The contract of the document's Put. -/
import Derived.Test.YtifokdebocgaiaaTriG
namespace Go.Proofs.Ytifokdebocgaiaa
open Go.RowKit

theorem flat_set (x : Int) : ∀ (L : List Pr) (i : Nat) (p : Pr), L[i]? = some p → (L.flatMap Pr.cs).set (i * 3 + 2) (.int .i64 x) = (L.set i ⟨p.a, p.l, x⟩).flatMap Pr.cs
  | [], i, p, h => by simp at h
  | q :: L, 0, p, h => by simp at h; subst h; rfl
  | q :: L, i + 1, p, h => by
    have ih := flat_set x L i p (by simpa using h)
    rw [List.flatMap_cons, List.set_cons_succ, List.flatMap_cons, ← ih, show (i + 1) * 3 + 2 = (i * 3 + 2) + 1 + 1 + 1 by omega]
    rfl
theorem OwnQ.setN {W : World} {base g n cap i : Nat} {L : List Pr} {p : Pr} (h : OwnQ W base (.slice (some ⟨g, 0, none⟩) n cap) n L) (hp : L[i]? = some p) (x : Int) : OwnQ (W.setCell ⟨g, i * 3 + 2, none⟩ (.int .i64 x)) base (.slice (some ⟨g, 0, none⟩) n cap) n (L.set i ⟨p.a, p.l, x⟩) := by
  have hl := h.len
  have hi := (List.getElem?_eq_some_iff.1 hp).1
  rcases h.2 with ⟨h1, h0⟩ | ⟨g', c', cur, hv, hbg, hg, hle, hmx, hsz, htk⟩
  · cases h1
  simp only [Value.slice.injEq, Option.some.injEq, Addr.mk.injEq, and_true, true_and] at hv
  obtain ⟨rfl, rfl⟩ := hv
  rw [setCell_eq_setRow W g (i * 3 + 2) cur 62 (0, 0) _ hg]
  refine ⟨by rw [csQ_flat_len, List.length_set, hl], .inr ⟨g, cap, _, rfl, hbg, setRow_heap W g _ _ 62 (0, 0) hg, hle, hmx, by simpa using hsz, ?_⟩⟩
  rw [Array.toList_setIfInBounds, List.take_set, htk, flat_set x L i p hp]
theorem Prs.set {L : List Pr} (h : Prs L) (i : Nat) {q : Pr} (hq : q.Ok) : Prs (L.set i q) := fun p hp => by
  rcases mem_set_cases hp with rfl | hp
  · exact hq
  · exact h p hp
theorem Prs.ins {L : List Pr} (h : Prs L) {q : Pr} (hq : q.Ok) : Prs (insP q L) := fun p hp => by
  rcases mem_insP.1 hp with rfl | hp
  · exact hq
  · exact h p hp
/-- What is still to come of a list with one more. -/
def restP (q : Pr) (L : List Pr) (d : Bool) (k : Nat) : List Pr := if d = true then L.drop k else insP q (L.drop k)
theorem rest_done {q : Pr} {L out : List Pr} {k : Nat} {p : Pr} (h : insP q L = out ++ restP q L true k) (hp : L[k]? = some p) : insP q L = (out ++ [p]) ++ restP q L true (k + 1) := by
  have hk := (List.getElem?_eq_some_iff.1 hp).1
  have e : L.drop k = p :: L.drop (k + 1) := by rw [List.drop_eq_getElem_cons hk, (List.getElem?_eq_some_iff.1 hp).2]
  rw [h]; unfold restP; simp [e]
theorem rest_no {q : Pr} {L out : List Pr} {k : Nat} {p : Pr} (h : insP q L = out ++ restP q L false k) (hp : L[k]? = some p) (hl : lessB q.a q.l p.a p.l = false) : insP q L = (out ++ [p]) ++ restP q L false (k + 1) := by
  have hk := (List.getElem?_eq_some_iff.1 hp).1
  have e : L.drop k = p :: L.drop (k + 1) := by rw [List.drop_eq_getElem_cons hk, (List.getElem?_eq_some_iff.1 hp).2]
  rw [h]; unfold restP; simp [e, insP, hl]
theorem rest_yes {q : Pr} {L out : List Pr} {k : Nat} {p : Pr} (h : insP q L = out ++ restP q L false k) (hp : L[k]? = some p) (hl : lessB q.a q.l p.a p.l = true) : insP q L = ((out ++ [q]) ++ [p]) ++ restP q L true (k + 1) := by
  have hk := (List.getElem?_eq_some_iff.1 hp).1
  have e : L.drop k = p :: L.drop (k + 1) := by rw [List.drop_eq_getElem_cons hk, (List.getElem?_eq_some_iff.1 hp).2]
  rw [h]; unfold restP; simp [e, insP, hl]
theorem rest_end {q : Pr} {L out : List Pr} {d : Bool} (h : insP q L = out ++ restP q L d L.length) : insP q L = out ++ (if d = true then [] else [q]) := by
  rw [h]; unfold restP; cases d <;> simp [insP]
set_option maxHeartbeats 2000000 in
theorem refPut_any (N : Nat) (v : Value) (most : Int) (L : List Pr) (a l x : Int) (w : World) (h : RefT w N v most L) (hL : L.length ≤ 1000) (hq : Pr.Ok ⟨a, l, x⟩) :
    Calls Try.prog 12 #[.pointer (some ⟨N, 0, none⟩), valX a l, .int .i64 x] w (DoneR w N v most (putL most L a l x) (putX most L a l)) := by
  have a0 : 0 ≤ a := hq.a0
  have a1 : a < 4294967296 := hq.a1
  have l0 : -9223372036854775808 ≤ l := hq.l0
  have l1 : l ≤ 9223372036854775807 := hq.l1
  have HQ : Hid (Pr.Ok ⟨a, l, x⟩) := hq
  obtain ⟨ad, cap, rfl⟩ := h.2.2.2.1.shape
  obtain ⟨n, hn⟩ : ∃ n, L.length = n := ⟨_, rfl⟩
  rw [hn] at h ⊢
  have HT : Hid (RefT w N (.slice ad n cap) most L) := h
  have HN : Hid (L.length = n) := hn
  have HRow : Hid (RowQ w ad n L) := by unfold Hid; have := h.2.2.2.1; rw [hn] at this; exact this.row h.2.2.2.2.1
  have HP : Hid (Prs L) := h.2.2.2.2.1
  have hNw := h.2.2.2.2.2
  have HL : Hid (L.length ≤ 1000) := hL
  clear hq hL
  unfold putL putX
  cases hm : mayB a l
  · have HM : Hid (mayB a l = false) := hm
    simp only [if_true]
    clear hm h hn
    go_enter Try.func12, Try.ntmps12
    go_wp2_with (go_at_call 27; refine (refMay_any _ _ _ a0 a1 l0 l1 HM.out).mono ?_; rintro e W1 ⟨rfl, hb1⟩)
    go_ret
    exact DoneR.none HT.out (Below.out1 hb1)
  have HM : Hid (mayB a l = true) := hm
  simp only [Bool.true_eq_false, if_false]
  clear hm
  cases hf : fAt a l L with
  | some i =>
    obtain ⟨p, hp, pa, pl, hi⟩ := fAt_some hf
    have HA : Hid (atI a l L = (i : Int)) := atI_some hf
    simp only [Option.isSome_some, if_true]
    have HPp : Hid (L[i]? = some p) := hp
    have HS : Hid (L.set i ⟨a, l, x⟩ = L.set i ⟨p.a, p.l, x⟩) := by unfold Hid; rw [pa, pl]
    rw [hn] at hi
    obtain ⟨q, b, off, hq, -, rfl, q3⟩ := HRow.out.at hi
    rw [hp] at hq
    simp at hq
    subst hq
    obtain ⟨g, rfl, rfl⟩ : ∃ g, b = g ∧ off = 0 := by
      rcases h.2.2.2.1.2 with ⟨e, e'⟩ | ⟨g, c, cur, hv, _⟩
      · cases e
      · simp only [Value.slice.injEq, Option.some.injEq, Addr.mk.injEq, and_true] at hv; exact ⟨g, hv.1.1, hv.1.2⟩
    have HQ3 : Hid (Q3 w b (0 + i * 3) p) := q3
    have hi' : (i : Int) < (n : Int) := by omega
    have hi0 : (0 : Int) ≤ (i : Int) := by omega
    have hfz : ∀ o, w.frozen? ⟨b, o, none⟩ = false := fun o => by
      rcases h.2.2.2.1.2 with ⟨e, e'⟩ | ⟨g', c', cur, hv, _, hg, _⟩
      · cases e
      · simp only [Value.slice.injEq, Option.some.injEq, Addr.mk.injEq, and_true] at hv
        obtain ⟨⟨rfl, -⟩, -⟩ := hv
        simp [World.frozen?, hg]
    have hbw : b < w.heap.size := block_lt_of_cell q3.1
    have hbN : N + 1 ≤ b := h.2.2.2.1.lt b rfl
    obtain ⟨y, hy⟩ : ∃ y, p.n = y := ⟨_, rfl⟩
    have HY : Hid (p.n = y) := hy
    clear hf hp h hn pa pl q3 hy
    go_enter Try.func12, Try.ntmps12
    go_wp2_with (first
      | (go_at_call 27; refine (refMay_any _ _ _ a0 a1 l0 l1 HM.out).mono ?_; rintro e W1 ⟨rfl, hb1⟩; obtain ⟨x0, x1⟩ := ((X2.new w a l).later hb1).z)
      | (go_at_call 28; refine (refAt_any N _ most L a l _ (HT.out.later (Below.out1 hb1)) HL.out HA.out).mono ?_; rintro e W2 ⟨rfl, hb2⟩; have hB2 := stp (Below.out1 hb1) hb2; have z1 := (HT.out.later hB2).2.1; obtain ⟨d0, d1, d2⟩ := HQ3.out.later hB2; rw [HY.out] at d2; simp only [Nat.zero_add] at d0 d1 d2; have fz2 : ∀ o, W2.frozen? ⟨b, o, none⟩ = false := fun o => (hB2.frozen (p := ⟨b, o, none⟩) hbw).trans (hfz o)))
    go_ret
    obtain ⟨t0, t1, t2, t3, t4, t5⟩ := HT.out.later hB2
    rw [HS.out]
    refine ⟨.slice (some ⟨b, 0, none⟩) n cap, rfl, ⟨?_, ?_, fun o => ?_, ?_, ?_, by simpa using t5⟩, fun g hg => .inl hg, (keep_of hB2).setCell (p := ⟨b, i * 3 + 2, none⟩) (.inr rfl) _⟩
    · rw [World.cell?_setCell_other _ _ _ _ (by simp <;> omega)]; exact t0
    · rw [World.cell?_setCell_other _ _ _ _ (by simp <;> omega)]; exact t1
    · rw [World.frozen?_setCell]; exact t2 o
    · rw [List.length_set, HN.out]; rw [HN.out] at t3; exact t3.setN HPp.out x
    · rw [← HS.out]; exact HP.out.set i HQ.out
  | none =>
    have HA : Hid (atI a l L = -1) := atI_none hf
    simp only [Option.isSome_none, Bool.false_eq_true, if_false]
    rw [hn]
    by_cases hfull : most ≤ (n : Int)
    · simp only [hfull, if_true]
      have hfull' : (n : Int) ≥ most := hfull
      clear hf h hn
      go_enter Try.func12, Try.ntmps12
      go_wp2_with (first
        | (go_at_call 27; refine (refMay_any _ _ _ a0 a1 l0 l1 HM.out).mono ?_; rintro e W1 ⟨rfl, hb1⟩; obtain ⟨x0, x1⟩ := ((X2.new w a l).later hb1).z)
        | (go_at_call 28; refine (refAt_any N _ most L a l _ (HT.out.later (Below.out1 hb1)) HL.out HA.out).mono ?_; rintro e W2 ⟨rfl, hb2⟩; have hB2 := stp (Below.out1 hb1) hb2; have z0 := (HT.out.later hB2).1; have z1 := (HT.out.later hB2).2.1))
      go_quiet (fail)
      go_wp2
      go_ret
      exact DoneR.none HT.out (below_drewN hB2 _)
    · simp only [hfull, if_false]
      have hfull' : ¬ (n : Int) ≥ most := by omega
      have hlen : Hid (n ≤ 1000) := by unfold Hid; rw [← HN.out]; exact HL.out
      have hn1000 : n ≤ 1000 := hlen
      have HIP : Hid (Prs (insP ⟨a, l, x⟩ L)) := HP.out.ins HQ.out
      have HIL : Hid ((insP ⟨a, l, x⟩ L).length = n + 1) := by unfold Hid; rw [insP_len, HN.out]
      clear hf h hn
      go_enter Try.func12, Try.ntmps12
      go_wp2_with (first
        | (go_at_call 27; refine (refMay_any _ _ _ a0 a1 l0 l1 HM.out).mono ?_; rintro e W1 ⟨rfl, hb1⟩; obtain ⟨x0, x1⟩ := ((X2.new w a l).later hb1).z)
        | (go_at_call 28; refine (refAt_any N _ most L a l _ (HT.out.later (Below.out1 hb1)) HL.out HA.out).mono ?_; rintro e W2 ⟨rfl, hb2⟩; have hB2 := stp hb1 hb2; have z0 := (HT.out.later (Below.out1 hB2)).1; have z1 := (HT.out.later (Below.out1 hB2)).2.1))
      go_quiet (fail)
      go_wp2
      have hB2' : Below (w.heap.size + 1) (w.alloc (objX a l)) W2 := by simpa using hB2
      go_loopw [9, 10, 11] (fun o_ d_ i_ W => ∃ (j m : Nat) (d : Bool) (ad' : Option Addr) (cp' : Nat) (out : List Pr), j ≤ n ∧ Hid (m ≤ j + (if d = true then 1 else 0)) ∧ i_ = .int .i64 j ∧ d_ = .bool d ∧ o_ = .slice ad' m cp' ∧ Hid (OwnQ W (w.heap.size + 1) (.slice ad' m cp') m out) ∧ Hid (insP ⟨a, l, x⟩ L = out ++ restP ⟨a, l, x⟩ L d j) ∧ Below (w.heap.size + 1) (w.alloc (objX a l)) W) (fun _ _ i_ _ => n - (intOf i_).toNat)
      case atStart => exact ⟨0, 0, false, none, 0, [], Nat.zero_le _, Nat.zero_le _, rfl, rfl, rfl, ownQ_nil _ _, rfl, below_drewN hB2' _⟩
      case round =>
        clear z0 z1 x0 x1 hb1 hb2 hB2 hB2'
        obtain ⟨j, m, d, ad', cp', out, hj, HMJ, rfl, rfl, rfl, HO, HI, hB⟩ := hrel
        have hB' : Below (w.alloc (objX a l)).heap.size (w.alloc (objX a l)) wr := by simpa using hB
        have HBw : Hid (Below w.heap.size w wr) := out8 hB
        have sB := hB.size
        have hmj : m ≤ j + 1 := by have := HMJ.out; split at this <;> omega
        obtain ⟨x0, x1⟩ := ((X2.new w a l).later hB').z
        have HTr : Hid (RefT wr N (.slice ad n cap) most L) := HT.out.later HBw.out
        obtain ⟨z0, z1, z2, -, -, zN⟩ := HTr.out
        have hxw : w.heap.size < wr.heap.size := by simp at sB; omega
        by_cases hlt : j < n
        · have hlt' : (j : Int) < (n : Int) := by omega
          obtain ⟨⟨pa, pl, pn⟩, b, off, he, hok, rfl, q3⟩ := HRow.out.at hlt
          have HE : Hid (L[j]? = some ⟨pa, pl, pn⟩) := he
          have HOK : Hid (Pr.Ok ⟨pa, pl, pn⟩) := hok
          have HQ3 : Hid (Q3 w b (off + j * 3) ⟨pa, pl, pn⟩) := q3
          obtain ⟨d0, d1, d2⟩ := q3.later HBw.out
          simp only at d0 d1 d2
          obtain ⟨u, hu⟩ : ∃ u, lessB a l pa pl = u := ⟨_, rfl⟩
          have HU : Hid (lessB a l pa pl = u) := hu
          clear hu he hok
          go_wp2
          go_region_held3 (fun w' => w'.cell? ⟨w.heap.size, 0, none⟩ = some (.int .u32 a) ∧ w'.cell? ⟨w.heap.size, 1, none⟩ = some (.int .i64 l) ∧ w'.cell? ⟨N, 1, none⟩ = some (.slice (some ⟨b, off, none⟩) n cap) ∧ w'.cell? ⟨b, off + j * 3, none⟩ = some (.int .u32 pa) ∧ w'.cell? ⟨b, off + j * 3 + 1, none⟩ = some (.int .i64 pl)) (first | exact ⟨x0, x1, z1, d0, d1⟩ | exact ⟨v0, v1, v2, v3, v4⟩)
            ((go_at_call 29; refine (refLess_any _ _ _ _ _ HU.out).mono ?_; rintro e W3 ⟨rfl, hb3⟩; have hb3 : Below wr.heap.size wr W3 := ((Below.refl _ _).drew).trans hb3; have v0 := cell_later hb3 x0; have v1 := cell_later hb3 x1; have v2 := cell_later hb3 z1; have v3 := cell_later hb3 d0; have v4 := cell_later hb3 d1))
          have hB3 : Below (w.heap.size + 1) (w.alloc (objX a l)) W3 := hB.trans (hb3.mono (by simp at sB; omega))
          have sB3 := hB3.size
          have HBw3 : Hid (Below w.heap.size w W3) := out8 hB3
          have HO3 : Hid (OwnQ W3 (w.heap.size + 1) (.slice ad' m cp') m out) := HO.out.later hb3
          have d2 := cell_later hb3 d2
          rename_i hHeld
          clear hHeld hb3 x0 x1 z0 z1 z2 d0 d1 hB hB' HBw HTr HO sB hxw zN
          cases d
          · cases u
            · have HI' : Hid (_) := rest_no HI.out HE.out HU.out
              clear HI
              go_wp2_with (at_builtin; refine wpList_appQ _ rfl (.tmp 70) (.tmp 78) 27 rfl (w.heap.size + 1) Try.underlying27 infoQ _ (m) (out) rfl (HO3.out.later (below1 _ _)) _ 1 1 [⟨pa, pl, pn⟩] rfl (rowQ_one (Q3.newAt W3 _ rfl pa pl pn) rfl HOK.out) (m + 1) rfl _ rfl (by omega) (by simp at sB3 ⊢; omega) ?_; intro a5 c5 W5 own5 hb5; have HO5 : Hid (OwnQ W5 (w.heap.size + 1) (.slice a5 (m + 1) c5) (m + 1) (out ++ [⟨pa, pl, pn⟩])) := own5; clear own5; have hB5 : Below (w.heap.size + 1) (w.alloc (objX a l)) W5 := (hB3.alloc (by simp at sB3 ⊢; omega) _).trans hb5; have HBw5 : Hid (Below w.heap.size w W5) := out8 hB5; have z1 := (HT.out.later HBw5.out).2.1)
              go_roundw
              case rel => exact ⟨j + 1, m + 1, false, a5, c5, out ++ [⟨pa, pl, pn⟩], by omega, Nat.succ_le_succ HMJ.out, by go_num, rfl, rfl, HO5, HI', hB5⟩
              case measure => simp [intOf]; omega
            · have HI' : Hid (_) := rest_yes HI.out HE.out HU.out
              clear HI
              have hmj' : m ≤ j := HMJ.out
              go_wp2_with (first
                | (at_builtin; refine wpList_appQ _ rfl (.tmp 64) (.tmp 68) 27 rfl (w.heap.size + 1) Try.underlying27 infoQ _ m out rfl (HO3.out.later (below1 _ _)) _ 1 1 [⟨a, l, x⟩] rfl (rowQ_one (Q3.newAt W3 _ rfl a l x) rfl HQ.out) (m + 1) rfl _ rfl (by omega) (by simp at sB3 ⊢; omega) ?_; intro a4 c4 W4 own4 hb4; have HO4 : Hid (OwnQ W4 (w.heap.size + 1) (.slice a4 (m + 1) c4) (m + 1) (out ++ [⟨a, l, x⟩])) := own4; clear own4; have hB4 : Below (w.heap.size + 1) (w.alloc (objX a l)) W4 := (hB3.alloc (by simp at sB3 ⊢; omega) _).trans hb4; have sB4 := hB4.size; have HBw4 : Hid (Below w.heap.size w W4) := out8 hB4; have z1 := (HT.out.later HBw4.out).2.1; obtain ⟨d0, d1, d2⟩ := HQ3.out.later HBw4.out; simp only at d0 d1 d2)
                | (at_builtin; refine wpList_appQ _ rfl (.tmp 70) (.tmp 78) 27 rfl (w.heap.size + 1) Try.underlying27 infoQ _ (m + 1) (out ++ [⟨a, l, x⟩]) rfl (HO4.out.later (below1 _ _)) _ 1 1 [⟨pa, pl, pn⟩] rfl (rowQ_one (Q3.newAt W4 _ rfl pa pl pn) rfl HOK.out) (m + 1 + 1) rfl _ rfl (by omega) (by simp at sB4 ⊢; omega) ?_; intro a5 c5 W5 own5 hb5; have HO5 : Hid (OwnQ W5 (w.heap.size + 1) (.slice a5 (m + 1 + 1) c5) (m + 1 + 1) (out ++ [⟨a, l, x⟩] ++ [⟨pa, pl, pn⟩])) := own5; clear own5; have hB5 : Below (w.heap.size + 1) (w.alloc (objX a l)) W5 := (hB4.alloc (by simp at sB4 ⊢; omega) _).trans hb5; have HBw5 : Hid (Below w.heap.size w W5) := out8 hB5; have z1 := (HT.out.later HBw5.out).2.1))
              go_roundw
              case rel => exact ⟨j + 1, m + 1 + 1, true, a5, c5, (out ++ [⟨a, l, x⟩]) ++ [⟨pa, pl, pn⟩], by omega, Nat.succ_le_succ (Nat.succ_le_succ hmj'), by go_num, rfl, rfl, HO5, HI', hB5⟩
              case measure => simp [intOf]; omega
          · have HI' : Hid (_) := rest_done HI.out HE.out
            clear HI
            go_wp2_with (at_builtin; refine wpList_appQ _ rfl (.tmp 70) (.tmp 78) 27 rfl (w.heap.size + 1) Try.underlying27 infoQ _ (m) (out) rfl (HO3.out.later (below1 _ _)) _ 1 1 [⟨pa, pl, pn⟩] rfl (rowQ_one (Q3.newAt W3 _ rfl pa pl pn) rfl HOK.out) (m + 1) rfl _ rfl (by omega) (by simp at sB3 ⊢; omega) ?_; intro a5 c5 W5 own5 hb5; have HO5 : Hid (OwnQ W5 (w.heap.size + 1) (.slice a5 (m + 1) c5) (m + 1) (out ++ [⟨pa, pl, pn⟩])) := own5; clear own5; have hB5 : Below (w.heap.size + 1) (w.alloc (objX a l)) W5 := (hB3.alloc (by simp at sB3 ⊢; omega) _).trans hb5; have HBw5 : Hid (Below w.heap.size w W5) := out8 hB5; have z1 := (HT.out.later HBw5.out).2.1)
            go_roundw
            case rel => exact ⟨j + 1, m + 1, true, a5, c5, out ++ [⟨pa, pl, pn⟩], by omega, Nat.succ_le_succ HMJ.out, by go_num, rfl, rfl, HO5, HI', hB5⟩
            case measure => simp [intOf]; omega
        · have hlt' : ¬ (j : Int) < (n : Int) := by omega
          obtain rfl : j = n := by omega
          have HIe : Hid (_) := rest_end (by rw [HN.out]; exact HI.out)
          clear HI
          cases d
          · have HIe' : Hid (out ++ [⟨a, l, x⟩] = insP ⟨a, l, x⟩ L) := HIe.out.symm
            have HEl : Hid (m + 1 = (insP ⟨a, l, x⟩ L).length) := by unfold Hid; rw [← HIe'.out, List.length_append, HO.out.len]; rfl
            go_wp2_with (at_builtin; refine wpList_appQ _ rfl (.tmp 82) (.tmp 86) 27 rfl (w.heap.size + 1) Try.underlying27 infoQ _ m out rfl (HO.out.later (below1 _ _)) _ 1 1 [⟨a, l, x⟩] rfl (rowQ_one (Q3.newAt wr _ rfl a l x) rfl HQ.out) (m + 1) rfl _ rfl (by omega) (by simp at sB ⊢; omega) ?_; intro a4 c4 W4 own4 hb4; have HO4 : Hid (OwnQ W4 (w.heap.size + 1) (.slice a4 (m + 1) c4) (m + 1) (out ++ [⟨a, l, x⟩])) := own4; clear own4; have hB4 : Below (w.heap.size + 1) (w.alloc (objX a l)) W4 := (hB.alloc (by simp at sB ⊢; omega) _).trans hb4; have HBw4 : Hid (Below w.heap.size w W4) := out8 hB4; obtain ⟨y0, y1, y2, -, -, y5⟩ := HT.out.later HBw4.out)
            go_ret
            exact HT.out.lay HBw4.out (by rw [← HEl.out, ← HIe'.out]; exact HO4.out.base (by omega)) HIP.out 0
          · have HIe' : Hid (out = insP ⟨a, l, x⟩ L) := by unfold Hid; have := HIe.out; simpa using this.symm
            have HEl : Hid (m = (insP ⟨a, l, x⟩ L).length) := by unfold Hid; rw [← HIe'.out, HO.out.len]
            go_wp2
            go_ret
            exact HT.out.lay HBw.out (by rw [← HEl.out, ← HIe'.out]; exact HO.out.base (by omega)) HIP.out 0
end Go.Proofs.Ytifokdebocgaiaa
