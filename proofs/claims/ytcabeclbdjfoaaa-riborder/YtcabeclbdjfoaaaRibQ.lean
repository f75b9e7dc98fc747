/- The contract of the document's Put. -/
import Derived.Test.YtcabeclbdjfoaaaRibP
namespace Go.Proofs.Ytcabeclbdjfoaaa
open Go.RowKit

theorem Rts.set {L : List Rt} (h : Rts L) (i : Nat) {q : Rt} (hq : q.Ok) : Rts (L.set i q) := fun p hp => by
  rcases List.mem_or_eq_of_mem_set hp with hp | rfl
  · exact h p hp
  · exact hq
theorem Rts.ins {L : List Rt} (h : Rts L) {q : Rt} (hq : q.Ok) : Rts (insR q L) := fun p hp => by
  rcases mem_insR.1 hp with rfl | hp
  · exact hq
  · exact h p hp
/-- What is still to come of a list with one more. -/
def restR (q : Rt) (L : List Rt) (d : Bool) (k : Nat) : List Rt := if d = true then L.drop k else insR q (L.drop k)
theorem restR_done {q : Rt} {L out : List Rt} {k : Nat} {p : Rt} (h : insR q L = out ++ restR q L true k) (hp : L[k]? = some p) : insR q L = (out ++ [p]) ++ restR q L true (k + 1) := by
  have hk := (List.getElem?_eq_some_iff.1 hp).1
  have e : L.drop k = p :: L.drop (k + 1) := by rw [List.drop_eq_getElem_cons hk, (List.getElem?_eq_some_iff.1 hp).2]
  rw [h]; unfold restR; simp [e]
theorem restR_no {q : Rt} {L out : List Rt} {k : Nat} {p : Rt} (h : insR q L = out ++ restR q L false k) (hp : L[k]? = some p) (hl : ¬ q.k.lt p.k) : insR q L = (out ++ [p]) ++ restR q L false (k + 1) := by
  have hk := (List.getElem?_eq_some_iff.1 hp).1
  have e : L.drop k = p :: L.drop (k + 1) := by rw [List.drop_eq_getElem_cons hk, (List.getElem?_eq_some_iff.1 hp).2]
  rw [h]; unfold restR; simp [e, insR, hl]
theorem restR_yes {q : Rt} {L out : List Rt} {k : Nat} {p : Rt} (h : insR q L = out ++ restR q L false k) (hp : L[k]? = some p) (hl : q.k.lt p.k) : insR q L = ((out ++ [q]) ++ [p]) ++ restR q L true (k + 1) := by
  have hk := (List.getElem?_eq_some_iff.1 hp).1
  have e : L.drop k = p :: L.drop (k + 1) := by rw [List.drop_eq_getElem_cons hk, (List.getElem?_eq_some_iff.1 hp).2]
  rw [h]; unfold restR; simp [e, insR, hl]
theorem restR_end {q : Rt} {L out : List Rt} {d : Bool} (h : insR q L = out ++ restR q L d L.length) : insR q L = out ++ (if d = true then [] else [q]) := by
  rw [h]; unfold restR; cases d <;> simp [insR]
theorem drew_cell (W : World) (p : Addr) : W.drew.cell? p = W.cell? p := rfl
theorem set7_drew {W : World} {b o : Nat} {a l d s m n t : Int} {p : Addr} (h : p.block ≠ b) : (set7 W b o a l d s m n t).drew.cell? p = W.cell? p := (drew_cell _ _).trans (set7_far h)
theorem DoneB.drew {w W : World} {N : Nat} {v : Value} {most : Int} {L : List Rt} {full x : Int} {e : Ending} (h : DoneB w N v most L full x e W) : DoneB w N v most L full x e W.drew := by
  obtain ⟨v', h1, h2, h3, h4⟩ := h
  exact ⟨v', h1, h2.later ((Below.refl _ _).drew), h3, h4.drew⟩
theorem RefB.put7 {w W : World} {N b nn cap i : Nat} {most : Int} {L : List Rt} {full : Int} (h : RefB w N (.slice (some ⟨b, 0, none⟩) nn cap) most L full) (hb : Below w.heap.size w W) (hn : L.length = nn) {p : Rt} (hp : L[i]? = some p) {a l d s m n t : Int} (hq : Rt.Ok ⟨a, l, d, s, m, n, t⟩) (x : Int) :
    DoneB w N (.slice (some ⟨b, 0, none⟩) nn cap) most (L.set i ⟨a, l, d, s, m, n, t⟩) full x (.returned (.int .i64 x)) (set7 W b (i * 7) a l d s m n t) := by
  have h' := h.later hb
  have hlt := h'.own.lt b rfl
  have hNb : N ≠ b := by omega
  obtain ⟨h0, h1, h1', h2, h3, h4, h5⟩ := h'
  refine ⟨.slice (some ⟨b, 0, none⟩) nn cap, rfl, ⟨?_, ?_, ?_, fun o => ?_, ?_, h4.set i hq, by rw [set7_size]; exact h5⟩, fun g hg => .inl hg, set7_keep (keep_of hb) (.inr rfl)⟩
  · rw [set7_far (p := ⟨N, 0, none⟩) hNb]; exact h0
  · rw [set7_far (p := ⟨N, 1, none⟩) hNb]; exact h1
  · rw [set7_far (p := ⟨N, 2, none⟩) hNb]; exact h1'
  · rw [set7_frozen]; exact h2 o
  · rw [List.length_set, hn]; rw [hn] at h3; exact h3.set7 hp a l d s m n t
/-- How many were refused behind a Put. -/
def fullR (most : Int) (L : List Rt) (x : Rt) (full : Int) : Int := if putRX most L x = 4 then full + 1 else full
set_option maxHeartbeats 4000000 in
theorem refPutR_any (N : Nat) (v : Value) (most : Int) (L : List Rt) (full a l d s m n t : Int) (w : World) (h : RefB w N v most L full) (hL : L.length ≤ 1000) (f0 : 0 ≤ full) (f1 : full ≤ 1000000) (hq : Rt.Ok ⟨a, l, d, s, m, n, t⟩) :
    Calls Try.prog 18 #[.pointer (some ⟨N, 0, none⟩), valR a l d s m n t] w (DoneB w N v most (putR most L ⟨a, l, d, s, m, n, t⟩) (fullR most L ⟨a, l, d, s, m, n, t⟩ full) (putRX most L ⟨a, l, d, s, m, n, t⟩)) := by
  have HQ : Hid (Rt.Ok ⟨a, l, d, s, m, n, t⟩) := hq
  obtain ⟨ad, cap, rfl⟩ := h.own.shape
  obtain ⟨nn, hn⟩ : ∃ n, L.length = n := ⟨_, rfl⟩
  rw [hn] at h ⊢
  have HT : Hid (RefB w N (.slice ad nn cap) most L full) := h
  have HN : Hid (L.length = nn) := hn
  have HRow : Hid (RowR w ad nn L) := by unfold Hid; have := h.own; rw [hn] at this; exact this.row h.ok
  have HP : Hid (Rts L) := h.ok
  have hNw := h.lt
  have HL : Hid (L.length ≤ 1000) := hL
  clear hq hL
  unfold fullR putR putRX
  cases hm : mayR ⟨a, l, d, s, m, n, t⟩
  · have HM : Hid (mayR ⟨a, l, d, s, m, n, t⟩ = false) := hm
    simp only [if_true]
    rw [if_neg (by decide)]
    clear hm h hn
    go_enter Try.func18, Try.ntmps18
    go_wp2_with (go_at_call 12; refine (refMayR_any a l d s m n t _ HQ.out HM.out).mono ?_; rintro e W1 ⟨rfl, hb1⟩; obtain ⟨x0, x1, x2, x3, x4, x5, x6⟩ := ((R7.new w a l d s m n t).later hb1).z)
    go_ret
    exact DoneB.none HT.out (Below.out1 hb1)
  have HM : Hid (mayR ⟨a, l, d, s, m, n, t⟩ = true) := hm
  simp only [Bool.true_eq_false, if_false]
  clear hm
  cases hf : rAt (Rt.k ⟨a, l, d, s, m, n, t⟩) L with
  | some i =>
    obtain ⟨p, hp, pk, hi⟩ := rAt_some hf
    have HA : Hid (atR ⟨a, l, d⟩ L = (i : Int)) := atR_some hf
    simp only [Option.isSome_some, if_true]
    rw [if_neg (by decide)]
    have HPp : Hid (L[i]? = some p) := hp
    rw [hn] at hi
    obtain ⟨q, b, off, hq, -, rfl, q3⟩ := HRow.out.at hi
    rw [hp] at hq
    simp only [Option.some.injEq] at hq
    subst hq
    obtain ⟨g, rfl, rfl⟩ : ∃ g, b = g ∧ off = 0 := by
      rcases h.own.2 with ⟨e, e'⟩ | ⟨g, c, cur, hv, _⟩
      · cases e
      · simp only [Value.slice.injEq, Option.some.injEq, Addr.mk.injEq, and_true] at hv; exact ⟨g, hv.1.1, hv.1.2⟩
    have HQ3 : Hid (R7 w b (0 + i * 7) p) := q3
    have hi' : (i : Int) < (nn : Int) := by omega
    have hi0 : (0 : Int) ≤ (i : Int) := by omega
    have hfz : ∀ o, w.frozen? ⟨b, o, none⟩ = false := fun o => by
      rcases h.own.2 with ⟨e, e'⟩ | ⟨g', c', cur, hv, _, hg, _⟩
      · cases e
      · simp only [Value.slice.injEq, Option.some.injEq, Addr.mk.injEq, and_true] at hv
        obtain ⟨⟨rfl, -⟩, -⟩ := hv
        simp [World.frozen?, hg]
    have hbw : b < w.heap.size := block_lt_of_cell q3.1
    have hbN : N + 1 ≤ b := h.own.lt b rfl
    obtain ⟨pa, pl, pd, ps, pm, pn, pt⟩ := p
    clear hf hp h hn pk q3
    go_enter Try.func18, Try.ntmps18
    go_wp2_with (first
      | (go_at_call 12; refine (refMayR_any a l d s m n t _ HQ.out HM.out).mono ?_; rintro e W1 ⟨rfl, hb1⟩; obtain ⟨x0, x1, x2, x3, x4, x5, x6⟩ := ((R7.new w a l d s m n t).later hb1).z)
      | (go_at_call 38; refine (refAtR_any N _ most L full a l d _ (HT.out.later (Below.out1 hb1)) HL.out HA.out).mono ?_; rintro e W2 ⟨rfl, hb2⟩; have hB2 := stp (Below.out1 hb1) hb2; have z1 := (HT.out.later hB2).2.1; obtain ⟨x0, x1, x2, x3, x4, x5, x6⟩ := ((R7.new w a l d s m n t).later (hb1.trans (hb2.mono hb1.size))).z; obtain ⟨d0, d1, d2, d3, d4, d5, d6⟩ := HQ3.out.later hB2; simp only [Nat.zero_add] at d0 d1 d2 d3 d4 d5 d6; have fz2 : ∀ o, W2.frozen? ⟨b, o, none⟩ = false := fun o => (hB2.frozen (p := ⟨b, o, none⟩) hbw).trans (hfz o)))
    have hS1 : (fun w' : World => w'.cell? ⟨N, 1, none⟩ = some (.slice (some ⟨b, 0, none⟩) nn cap) ∧ w'.cell? ⟨w.heap.size, 0, none⟩ = some (.int .u32 a) ∧ w'.cell? ⟨w.heap.size, 1, none⟩ = some (.int .i64 l) ∧ w'.cell? ⟨w.heap.size, 2, none⟩ = some (.int .i64 d) ∧ w'.cell? ⟨w.heap.size, 3, none⟩ = some (.int .i64 s) ∧ w'.cell? ⟨w.heap.size, 4, none⟩ = some (.int .i64 m) ∧ w'.cell? ⟨w.heap.size, 5, none⟩ = some (.int .i64 n) ∧ w'.cell? ⟨w.heap.size, 6, none⟩ = some (.int .u16 t)) W2.drew := ⟨z1, x0, x1, x2, x3, x4, x5, x6⟩
    have hS2 : (fun w' : World => w'.cell? ⟨N, 1, none⟩ = some (.slice (some ⟨b, 0, none⟩) nn cap) ∧ w'.cell? ⟨w.heap.size, 0, none⟩ = some (.int .u32 a) ∧ w'.cell? ⟨w.heap.size, 1, none⟩ = some (.int .i64 l) ∧ w'.cell? ⟨w.heap.size, 2, none⟩ = some (.int .i64 d) ∧ w'.cell? ⟨w.heap.size, 3, none⟩ = some (.int .i64 s) ∧ w'.cell? ⟨w.heap.size, 4, none⟩ = some (.int .i64 m) ∧ w'.cell? ⟨w.heap.size, 5, none⟩ = some (.int .i64 n) ∧ w'.cell? ⟨w.heap.size, 6, none⟩ = some (.int .u16 t)) (set7 W2 b (i * 7) a l d s m n t).drew := by
      have hN : N ≠ b := by omega
      have hw : w.heap.size ≠ b := by omega
      refine ⟨?_, ?_, ?_, ?_, ?_, ?_, ?_, ?_⟩
      · exact (set7_drew (p := ⟨N, 1, none⟩) hN).trans z1
      · exact (set7_drew (p := ⟨w.heap.size, 0, none⟩) hw).trans x0
      · exact (set7_drew (p := ⟨w.heap.size, 1, none⟩) hw).trans x1
      · exact (set7_drew (p := ⟨w.heap.size, 2, none⟩) hw).trans x2
      · exact (set7_drew (p := ⟨w.heap.size, 3, none⟩) hw).trans x3
      · exact (set7_drew (p := ⟨w.heap.size, 4, none⟩) hw).trans x4
      · exact (set7_drew (p := ⟨w.heap.size, 5, none⟩) hw).trans x5
      · exact (set7_drew (p := ⟨w.heap.size, 6, none⟩) hw).trans x6
    unfold set7 at hS2
    simp only at hS1 hS2
    go_region_held3 (fun w' => w'.cell? ⟨N, 1, none⟩ = some (.slice (some ⟨b, 0, none⟩) nn cap) ∧ w'.cell? ⟨w.heap.size, 0, none⟩ = some (.int .u32 a) ∧ w'.cell? ⟨w.heap.size, 1, none⟩ = some (.int .i64 l) ∧ w'.cell? ⟨w.heap.size, 2, none⟩ = some (.int .i64 d) ∧ w'.cell? ⟨w.heap.size, 3, none⟩ = some (.int .i64 s) ∧ w'.cell? ⟨w.heap.size, 4, none⟩ = some (.int .i64 m) ∧ w'.cell? ⟨w.heap.size, 5, none⟩ = some (.int .i64 n) ∧ w'.cell? ⟨w.heap.size, 6, none⟩ = some (.int .u16 t)) (first | with_reducible exact hS1 | with_reducible exact hS2) (fail)
    all_goals
      clear hS1 hS2
      go_wp2
      go_ret
      exact (HT.out.put7 hB2 HN.out HPp.out HQ.out 0).drew
  | none =>
    have HA : Hid (atR ⟨a, l, d⟩ L = -1) := atR_none hf
    simp only [Option.isSome_none, Bool.false_eq_true, if_false]
    rw [hn]
    by_cases hfull : most ≤ (nn : Int)
    · simp only [hfull, if_true]
      have hfull' : (nn : Int) ≥ most := hfull
      clear hf h hn
      go_enter Try.func18, Try.ntmps18
      go_wp2_with (first
        | (go_at_call 12; refine (refMayR_any a l d s m n t _ HQ.out HM.out).mono ?_; rintro e W1 ⟨rfl, hb1⟩; obtain ⟨x0, x1, x2, x3, x4, x5, x6⟩ := ((R7.new w a l d s m n t).later hb1).z)
        | (go_at_call 38; refine (refAtR_any N _ most L full a l d _ (HT.out.later (Below.out1 hb1)) HL.out HA.out).mono ?_; rintro e W2 ⟨rfl, hb2⟩; have hB2 := stp (Below.out1 hb1) hb2; obtain ⟨z0, z1, z2, fz, -⟩ := HT.out.later hB2))
      go_quiet (fail)
      go_wp2
      go_ret
      exact HT.out.more (below_drewN hB2 _) (full + 1) 4
    · simp only [hfull, if_false]
      rw [if_neg (by decide)]
      have hfull' : ¬ (nn : Int) ≥ most := by omega
      have hlen : Hid (nn ≤ 1000) := by unfold Hid; rw [← HN.out]; exact HL.out
      have hn1000 : nn ≤ 1000 := hlen
      have HIP : Hid (Rts (insR ⟨a, l, d, s, m, n, t⟩ L)) := HP.out.ins HQ.out
      have HIL : Hid ((insR ⟨a, l, d, s, m, n, t⟩ L).length = nn + 1) := by unfold Hid; rw [insR_len, HN.out]
      clear hf h hn f0 f1
      go_enter Try.func18, Try.ntmps18
      go_wp2_with (first
        | (go_at_call 12; refine (refMayR_any a l d s m n t _ HQ.out HM.out).mono ?_; rintro e W1 ⟨rfl, hb1⟩; obtain ⟨x0, x1, x2, x3, x4, x5, x6⟩ := ((R7.new w a l d s m n t).later hb1).z)
        | (go_at_call 38; refine (refAtR_any N _ most L full a l d _ (HT.out.later (Below.out1 hb1)) HL.out HA.out).mono ?_; rintro e W2 ⟨rfl, hb2⟩; have hB2 := stp hb1 hb2; obtain ⟨z0, z1, z2, -⟩ := HT.out.later (Below.out1 hB2)))
      go_quiet (fail)
      go_wp2
      have hB2' : Below (w.heap.size + 1) (w.alloc (objR a l d s m n t)) W2 := by simpa using hB2
      go_loopw [7, 8, 9] (fun o_ d_ i_ W => ∃ (j k : Nat) (dn : Bool) (ad' : Option Addr) (cp' : Nat) (out : List Rt), j ≤ nn ∧ Hid (k ≤ j + (if dn = true then 1 else 0)) ∧ i_ = .int .i64 j ∧ d_ = .bool dn ∧ o_ = .slice ad' k cp' ∧ Hid (OwnR W (w.heap.size + 1) (.slice ad' k cp') k out) ∧ Hid (insR ⟨a, l, d, s, m, n, t⟩ L = out ++ restR ⟨a, l, d, s, m, n, t⟩ L dn j) ∧ Below (w.heap.size + 1) (w.alloc (objR a l d s m n t)) W) (fun _ _ i_ _ => nn - (intOf i_).toNat)
      case atStart => exact ⟨0, 0, false, none, 0, [], Nat.zero_le _, Nat.zero_le _, rfl, rfl, rfl, ownR_nil _ _, rfl, below_drewN hB2' _⟩
      case round =>
        clear z0 z1 z2 x0 x1 x2 x3 x4 x5 x6 hb1 hb2 hB2 hB2'
        obtain ⟨j, k, dn, ad', cp', out, hj, HMJ, rfl, rfl, rfl, HO, HI, hB⟩ := hrel
        have hB' : Below (w.alloc (objR a l d s m n t)).heap.size (w.alloc (objR a l d s m n t)) wr := by simpa using hB
        have HBw : Hid (Below w.heap.size w wr) := out9 hB
        have sB := hB.size
        have hmj : k ≤ j + 1 := by have := HMJ.out; split at this <;> omega
        obtain ⟨x0, x1, x2, x3, x4, x5, x6⟩ := ((R7.new w a l d s m n t).later hB').z
        obtain ⟨z0, z1, z1', z2, -, -, zN⟩ := HT.out.later HBw.out
        have hxw : w.heap.size < wr.heap.size := by simp at sB; omega
        by_cases hlt : j < nn
        · have hlt' : (j : Int) < (nn : Int) := by omega
          obtain ⟨⟨pa, pl, pd, ps, pm, pn, pt⟩, b, off, he, hok, rfl, q3⟩ := HRow.out.at hlt
          have HE : Hid (L[j]? = some ⟨pa, pl, pd, ps, pm, pn, pt⟩) := he
          have HOK : Hid (Rt.Ok ⟨pa, pl, pd, ps, pm, pn, pt⟩) := hok
          have HQ3 : Hid (R7 w b (off + j * 7) ⟨pa, pl, pd, ps, pm, pn, pt⟩) := q3
          obtain ⟨d0, d1, d2, d3, d4, d5, d6⟩ := q3.later HBw.out
          simp only at d0 d1 d2 d3 d4 d5 d6
          obtain ⟨u, hu⟩ : ∃ u, ahB a l d pa pl pd = u := ⟨_, rfl⟩
          have HU : Hid (ahB a l d pa pl pd = u) := hu
          clear hu he hok q3
          go_wp2
          go_region_held3 (fun w' => w'.cell? ⟨w.heap.size, 0, none⟩ = some (.int .u32 a) ∧ w'.cell? ⟨w.heap.size, 1, none⟩ = some (.int .i64 l) ∧ w'.cell? ⟨w.heap.size, 2, none⟩ = some (.int .i64 d) ∧ w'.cell? ⟨w.heap.size, 3, none⟩ = some (.int .i64 s) ∧ w'.cell? ⟨w.heap.size, 4, none⟩ = some (.int .i64 m) ∧ w'.cell? ⟨w.heap.size, 5, none⟩ = some (.int .i64 n) ∧ w'.cell? ⟨w.heap.size, 6, none⟩ = some (.int .u16 t) ∧ w'.cell? ⟨N, 1, none⟩ = some (.slice (some ⟨b, off, none⟩) nn cap) ∧ w'.cell? ⟨b, off + j * 7, none⟩ = some (.int .u32 pa) ∧ w'.cell? ⟨b, off + j * 7 + 1, none⟩ = some (.int .i64 pl) ∧ w'.cell? ⟨b, off + j * 7 + 2, none⟩ = some (.int .i64 pd) ∧ w'.cell? ⟨b, off + j * 7 + 3, none⟩ = some (.int .i64 ps) ∧ w'.cell? ⟨b, off + j * 7 + 4, none⟩ = some (.int .i64 pm) ∧ w'.cell? ⟨b, off + j * 7 + 5, none⟩ = some (.int .i64 pn) ∧ w'.cell? ⟨b, off + j * 7 + 6, none⟩ = some (.int .u16 pt)) (first | exact ⟨x0, x1, x2, x3, x4, x5, x6, z1, d0, d1, d2, d3, d4, d5, d6⟩ | exact ⟨v0, v1, v2, v3, v4, v5, v6, v7, u0, u1, u2, u3, u4, u5, u6⟩)
            ((go_at_call 39; refine (refAhead_any a l d s m n t pa pl pd ps pm pn pt _ HU.out).mono ?_; rintro e W3 ⟨rfl, hb3⟩; have hb3 : Below wr.heap.size wr W3 := ((Below.refl _ _).drew).trans hb3; have v0 := cell_later hb3 x0; have v1 := cell_later hb3 x1; have v2 := cell_later hb3 x2; have v3 := cell_later hb3 x3; have v4 := cell_later hb3 x4; have v5 := cell_later hb3 x5; have v6 := cell_later hb3 x6; have v7 := cell_later hb3 z1; have u0 := cell_later hb3 d0; have u1 := cell_later hb3 d1; have u2 := cell_later hb3 d2; have u3 := cell_later hb3 d3; have u4 := cell_later hb3 d4; have u5 := cell_later hb3 d5; have u6 := cell_later hb3 d6))
          have hB3 : Below (w.heap.size + 1) (w.alloc (objR a l d s m n t)) W3 := hB.trans (hb3.mono (by simp at sB; omega))
          have sB3 := hB3.size
          have HBw3 : Hid (Below w.heap.size w W3) := out9 hB3
          have HO3 : Hid (OwnR W3 (w.heap.size + 1) (.slice ad' k cp') k out) := HO.out.later hb3
          rename_i hHeld
          clear hHeld hb3 x0 x1 x2 x3 x4 x5 x6 z0 z1 z1' z2 d0 d1 d2 d3 d4 d5 d6 hB hB' HBw HO sB hxw zN
          cases dn
          · cases u
            · have HI' : Hid (_) := restR_no HI.out HE.out (fun hk => by have := ahB_iff.2 hk; rw [HU.out] at this; cases this)
              clear HI
              go_wp2_with (at_builtin; refine wpList_appR _ rfl (.tmp 74) (.tmp 82) 42 rfl (w.heap.size + 1) Try.underlying42 infoR _ (k) (out) rfl (HO3.out.later (below1 _ _)) _ 1 1 [⟨pa, pl, pd, ps, pm, pn, pt⟩] rfl (rowR_one (R7.newAt W3 _ rfl pa pl pd ps pm pn pt) rfl HOK.out) (k + 1) rfl _ rfl (by omega) (by simp at sB3 ⊢; omega) ?_; intro a5 c5 W5 own5 hb5; have HO5 : Hid (OwnR W5 (w.heap.size + 1) (.slice a5 (k + 1) c5) (k + 1) (out ++ [⟨pa, pl, pd, ps, pm, pn, pt⟩])) := own5; clear own5; have hB5 : Below (w.heap.size + 1) (w.alloc (objR a l d s m n t)) W5 := (hB3.alloc (by simp at sB3 ⊢; omega) _).trans hb5; clear hb5; have sB5 := hB5.size; have HBw5 : Hid (Below w.heap.size w W5) := out9 hB5; have z1 := (HT.out.later HBw5.out).2.1)
              go_roundw
              case rel => exact ⟨j + 1, k + 1, false, a5, c5, out ++ [⟨pa, pl, pd, ps, pm, pn, pt⟩], by omega, Nat.succ_le_succ HMJ.out, by go_num, rfl, rfl, HO5, HI', hB5⟩
              case measure => simp [intOf]; omega
            · have HI' : Hid (_) := restR_yes HI.out HE.out (ahB_iff.1 HU.out)
              clear HI
              have hmj' : k ≤ j := HMJ.out
              go_wp2_with (first
                | (at_builtin; refine wpList_appR _ rfl (.tmp 70) (.tmp 72) 42 rfl (w.heap.size + 1) Try.underlying42 infoR _ (k) (out) rfl (HO3.out.later (below1 _ _)) _ 1 1 [⟨a, l, d, s, m, n, t⟩] rfl (rowR_one (R7.newAt W3 _ rfl a l d s m n t) rfl HQ.out) (k + 1) rfl _ rfl (by omega) (by simp at sB3 ⊢; omega) ?_; intro a4 c4 W4 own5 hb5; have HO4 : Hid (OwnR W4 (w.heap.size + 1) (.slice a4 (k + 1) c4) (k + 1) (out ++ [⟨a, l, d, s, m, n, t⟩])) := own5; clear own5; have hB4 : Below (w.heap.size + 1) (w.alloc (objR a l d s m n t)) W4 := (hB3.alloc (by simp at sB3 ⊢; omega) _).trans hb5; clear hb5; have sB4 := hB4.size; have HBw4 : Hid (Below w.heap.size w W4) := out9 hB4; have z1 := (HT.out.later HBw4.out).2.1; obtain ⟨d0, d1, d2, d3, d4, d5, d6⟩ := HQ3.out.later HBw4.out; simp only at d0 d1 d2 d3 d4 d5 d6)
                | (at_builtin; refine wpList_appR _ rfl (.tmp 74) (.tmp 82) 42 rfl (w.heap.size + 1) Try.underlying42 infoR _ (k + 1) (out ++ [⟨a, l, d, s, m, n, t⟩]) rfl (HO4.out.later (below1 _ _)) _ 1 1 [⟨pa, pl, pd, ps, pm, pn, pt⟩] rfl (rowR_one (R7.newAt W4 _ rfl pa pl pd ps pm pn pt) rfl HOK.out) (k + 1 + 1) rfl _ rfl (by omega) (by simp at sB4 ⊢; omega) ?_; intro a5 c5 W5 own5 hb5; have HO5 : Hid (OwnR W5 (w.heap.size + 1) (.slice a5 (k + 1 + 1) c5) (k + 1 + 1) (out ++ [⟨a, l, d, s, m, n, t⟩] ++ [⟨pa, pl, pd, ps, pm, pn, pt⟩])) := own5; clear own5; have hB5 : Below (w.heap.size + 1) (w.alloc (objR a l d s m n t)) W5 := (hB4.alloc (by simp at sB4 ⊢; omega) _).trans hb5; clear hb5; have sB5 := hB5.size; have HBw5 : Hid (Below w.heap.size w W5) := out9 hB5; have z1 := (HT.out.later HBw5.out).2.1))
              go_roundw
              case rel => exact ⟨j + 1, k + 1 + 1, true, a5, c5, (out ++ [⟨a, l, d, s, m, n, t⟩]) ++ [⟨pa, pl, pd, ps, pm, pn, pt⟩], by omega, Nat.succ_le_succ (Nat.succ_le_succ hmj'), by go_num, rfl, rfl, HO5, HI', hB5⟩
              case measure => simp [intOf]; omega
          · have HI' : Hid (_) := restR_done HI.out HE.out
            clear HI
            go_wp2_with (at_builtin; refine wpList_appR _ rfl (.tmp 74) (.tmp 82) 42 rfl (w.heap.size + 1) Try.underlying42 infoR _ (k) (out) rfl (HO3.out.later (below1 _ _)) _ 1 1 [⟨pa, pl, pd, ps, pm, pn, pt⟩] rfl (rowR_one (R7.newAt W3 _ rfl pa pl pd ps pm pn pt) rfl HOK.out) (k + 1) rfl _ rfl (by omega) (by simp at sB3 ⊢; omega) ?_; intro a5 c5 W5 own5 hb5; have HO5 : Hid (OwnR W5 (w.heap.size + 1) (.slice a5 (k + 1) c5) (k + 1) (out ++ [⟨pa, pl, pd, ps, pm, pn, pt⟩])) := own5; clear own5; have hB5 : Below (w.heap.size + 1) (w.alloc (objR a l d s m n t)) W5 := (hB3.alloc (by simp at sB3 ⊢; omega) _).trans hb5; clear hb5; have sB5 := hB5.size; have HBw5 : Hid (Below w.heap.size w W5) := out9 hB5; have z1 := (HT.out.later HBw5.out).2.1)
            go_roundw
            case rel => exact ⟨j + 1, k + 1, true, a5, c5, out ++ [⟨pa, pl, pd, ps, pm, pn, pt⟩], by omega, Nat.succ_le_succ HMJ.out, by go_num, rfl, rfl, HO5, HI', hB5⟩
            case measure => simp [intOf]; omega
        · have hlt' : ¬ (j : Int) < (nn : Int) := by omega
          obtain rfl : j = nn := by omega
          have HIe : Hid (_) := restR_end (by rw [HN.out]; exact HI.out)
          clear HI
          cases dn
          · have HIe' : Hid (out ++ [⟨a, l, d, s, m, n, t⟩] = insR ⟨a, l, d, s, m, n, t⟩ L) := HIe.out.symm
            have HEl : Hid (k + 1 = (insR ⟨a, l, d, s, m, n, t⟩ L).length) := by unfold Hid; rw [← HIe'.out, List.length_append, HO.out.len]; rfl
            go_wp2_with (at_builtin; refine wpList_appR _ rfl (.tmp 86) (.tmp 88) 42 rfl (w.heap.size + 1) Try.underlying42 infoR _ (k) (out) rfl (HO.out.later (below1 _ _)) _ 1 1 [⟨a, l, d, s, m, n, t⟩] rfl (rowR_one (R7.newAt wr _ rfl a l d s m n t) rfl HQ.out) (k + 1) rfl _ rfl (by omega) (by simp at sB ⊢; omega) ?_; intro a5 c5 W5 own5 hb5; have HO5 : Hid (OwnR W5 (w.heap.size + 1) (.slice a5 (k + 1) c5) (k + 1) (out ++ [⟨a, l, d, s, m, n, t⟩])) := own5; clear own5; have hB5 : Below (w.heap.size + 1) (w.alloc (objR a l d s m n t)) W5 := (hB.alloc (by simp at sB ⊢; omega) _).trans hb5; clear hb5; have sB5 := hB5.size; have HBw5 : Hid (Below w.heap.size w W5) := out9 hB5; obtain ⟨y0, y1, y1b, y2, -, -, y5⟩ := HT.out.later HBw5.out)
            go_ret
            exact HT.out.lay HBw5.out (by rw [← HEl.out, ← HIe'.out]; exact HO5.out.base (by omega)) HIP.out 0
          · have HIe' : Hid (out = insR ⟨a, l, d, s, m, n, t⟩ L) := by unfold Hid; have := HIe.out; simpa using this.symm
            have HEl : Hid (k = (insR ⟨a, l, d, s, m, n, t⟩ L).length) := by unfold Hid; rw [← HIe'.out, HO.out.len]
            go_wp2
            go_ret
            exact HT.out.lay HBw.out (by rw [← HEl.out, ← HIe'.out]; exact HO.out.base (by omega)) HIP.out 0
end Go.Proofs.Ytcabeclbdjfoaaa
