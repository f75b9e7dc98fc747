/- The document's Decode: bytes that are framed. -/
import Derived.Test.YtabpillcpnnidaaConH
namespace Go.Proofs.Ytabpillcpnnidaa
open Go.RowKit
set_option linter.unusedVariables false

set_option maxHeartbeats 1000000 in
theorem refDecode_long (b off n cap : Nat) (l : List Int) (w : World) (hr : Row8 w (some ⟨b, off, none⟩) n l) (hn : n ≤ 3000) (hc : n ≤ cap) (hf : framed l = true) (h25 : 25 < (n - 4) / 20) :
    Calls Try.prog 14 #[.slice (some ⟨b, off, none⟩) n cap] w (Decoded w (dec l)) := by
  rw [dec_long hf (by rw [hr.1]; omega)]
  have HR : Hid (Row8 w (some ⟨b, off, none⟩) n l) := hr
  obtain ⟨h4, hr20, hx12, hl4⟩ := framed_all hf
  rw [hr.1] at h4 hr20
  have c0 := hr.at (by omega)
  obtain ⟨b', off', e, hcell⟩ := c0
  simp only [Option.some.injEq, Addr.mk.injEq, and_true] at e
  obtain ⟨rfl, rfl⟩ := e
  have d0 := hcell 0 (by omega)
  rw [Nat.add_zero] at d0
  have d1 := hcell 1 (by omega)
  have d2 := hcell 2 (by omega)
  have d3 := hcell 3 (by omega)
  rw [show l[1]?.getD 0 = 2 from by rw [hl4]; rfl] at d1
  rw [show l[2]?.getD 0 = 0 from by rw [hl4]; rfl] at d2
  rw [show l[3]?.getD 0 = 0 from by rw [hl4]; rfl] at d3
  obtain ⟨x, hx⟩ : ∃ x, l[0]?.getD 0 = x := ⟨_, rfl⟩
  rw [hx] at d0 hx12
  have HX : Hid (l[0]?.getD 0 = x) := hx
  have hx0 : 0 ≤ x := by omega
  have hx1 : x ≤ 2 := by omega
  have h4i : ¬ (n : Int) < 4 := by omega
  have e : ((((n : Int) - 4) % 20) != 0) = false := by rw [bne_eq_false_iff_eq]; omega
  have nb : b < w.heap.size := World.block_lt_of_cell? w ⟨b, off, none⟩ d0
  obtain ⟨r, hr25⟩ : ∃ r, r = (n - 4) / 20 := ⟨_, rfl⟩
  have e3 : ((n : Int) - 4) / 20 = (r : Int) := by omega
  have HL : Hid (l.length = 4 + 20 * r) := by unfold Hid; rw [hr.1]; omega
  have h25i : (25 : Int) < (r : Int) := by omega
  have key : (x != 1) = false ∨ ((x != 1) = true ∧ (x != 2) = false) := by rcases hx12 with rfl | rfl <;> simp
  clear hr hcell hl4 hx hx12 hr20 h4 h25 hr25
  rcases key with e1 | ⟨e1, e2⟩
  all_goals
    go_enter Try.func14, Try.ntmps14
    go_wp2
    exact fin14z rfl rfl rfl

/-- What is known ahead of the loop. -/
structure At8 (w : World) (x : Int) (W : World) : Prop where
  res : PF W w.heap.size 0 false none 0 0
  non : PF W (w.heap.size + 1) 0 false none 0 0
  pkt : PF W (w.heap.size + 1 + 1) x false none 0 0
  bel : Below w.heap.size w W
theorem at8 (w : World) (x : Int) : At8 w x (((w.alloc (objP 0 false none 0 0)).alloc (objP 0 false none 0 0)).alloc (objP x false none 0 0)) := by
  refine ⟨((PF.new w 0 false none 0 0).later (below1 _ _)).later (below1 _ _), ?_, ?_, below3 _ _ _ _⟩
  · have := (PF.new (w.alloc (objP 0 false none 0 0)) 0 false none 0 0).later (below1 _ (objP x false none 0 0))
    simpa using this
  · have := PF.new ((w.alloc (objP 0 false none 0 0)).alloc (objP 0 false none 0 0)) x false none 0 0
    simpa using this
theorem At8.later {w W W' : World} {x : Int} (h : At8 w x W) (hb : Below W.heap.size W W') : At8 w x W' := ⟨h.res.later hb, h.non.later hb, h.pkt.later hb, stp h.bel hb⟩

/-- Ahead of round k. -/
def DL (w : World) (x : Int) (l : List Int) (r : Nat) (i : Value) (W : World) : Prop :=
  ∃ (k : Nat) (ad : Option Addr) (cp : Nat) (es : List Ent), k ≤ r ∧ i = .int .i64 k ∧ PF W w.heap.size 0 false none 0 0 ∧ PF W (w.heap.size + 1) 0 false none 0 0 ∧ PF W (w.heap.size + 1 + 1) x false ad k cp ∧ OwnE W (w.heap.size + 1 + 1 + 1) (.slice ad k cp) k es ∧ Ents es ∧
    decN r (l.drop 4) = (decN (r - k) (l.drop (4 + 20 * k))).map (es ++ ·) ∧ Below w.heap.size w W
theorem At8.loop {w W : World} {x : Int} (h : At8 w x W) (l : List Int) (r : Nat) : DL w x l r (.int .i64 0) W :=
  ⟨0, none, 0, [], Nat.zero_le _, rfl, h.res, h.non, h.pkt, ownE_nil _ _, (fun _ h => by cases h), by simp, h.bel⟩
theorem refRead_at (a : Option Addr) (cap : Nat) (l : List Int) (e1 e2 e3 e4 e5 : Int) (w : World) (hr : Row8 w a 20 l) (he : decE l = ⟨e1, e2, e3, e4, e5⟩) {v : Bool} (hv : decB l = v) :
    Calls Try.prog 27 #[.slice a 20 cap] w fun e w' => e = .returned (.tuple #[.agg #[.int .u32 e1, .int .i64 e2, .int .u16 e3, .int .u32 e4, .int .i64 e5], .bool v]) ∧ Below w.heap.size w w' := by
  refine (refRead_any a cap l w hr hv).mono ?_
  rintro e w' ⟨rfl, hb⟩
  have : decV l = .agg #[.int .u32 (decE l).a, .int .i64 (decE l).l, .int .u16 (decE l).t, .int .u32 (decE l).x, .int .i64 (decE l).m] := rfl
  rw [this, he]
  exact ⟨rfl, hb⟩
theorem fin14 {w V : World} {a : Act} {p : Pkt} {ad : Option Addr} {k cp : Nat} {c0 : Int} {w0 : Bool} {a0 : Option Addr} {n0 cap0 : Nat} (h : P3 V w.heap.size c0 w0 a0 n0 cap0) (hB : Below w.heap.size w V)
    (h2 : a.tmps[2]?.getD undef = .pointer (some ⟨w.heap.size, 0, none⟩)) (h3 : a.tmps[3]?.getD undef = .int .i64 p.x) (hd : a.defers = []) (hr : RowE (set3 V w.heap.size p.c p.w ad k cp) ad k p.es) :
    bodyPost Try.prog Try.f14 (Decoded w p) Exit.ret a (set3 V w.heap.size p.c p.w ad k cp) := by
  obtain ⟨c0, c1, c2⟩ := set3_cells h p.c p.w ad k cp
  refine bodyPost_ret (v := .tuple #[.agg #[.int .i64 p.c, .bool p.w, .slice ad k cp], .int .i64 p.x]) ?_ hd ⟨ad, k, cp, rfl, hr, set3_below hB (Nat.le_refl _) _ _ _ _ _⟩
  simp [results, Try.results14, go_sem, h2, h3, c0, c1, c2]
theorem fin14a {w V : World} {a : Act} {p : Pkt} {ad : Option Addr} {k cp : Nat} {c0 : Int} {w0 : Bool} {a0 : Option Addr} {n0 cap0 : Nat} {o : Obj} (h : P3 V w.heap.size c0 w0 a0 n0 cap0) (hB : Below w.heap.size w V)
    (h2 : a.tmps[2]?.getD undef = .pointer (some ⟨w.heap.size, 0, none⟩)) (h3 : a.tmps[3]?.getD undef = .int .i64 p.x) (hd : a.defers = []) (hr : RowE ((set3 V w.heap.size p.c p.w ad k cp).alloc o) ad k p.es) :
    bodyPost Try.prog Try.f14 (Decoded w p) Exit.ret a ((set3 V w.heap.size p.c p.w ad k cp).alloc o) := by
  obtain ⟨c0, c1, c2⟩ := set3_cells h p.c p.w ad k cp
  have hb := below1 (set3 V w.heap.size p.c p.w ad k cp) o
  have c0 := cell_later hb c0
  have c1 := cell_later hb c1
  have c2 := cell_later hb c2
  refine bodyPost_ret (v := .tuple #[.agg #[.int .i64 p.c, .bool p.w, .slice ad k cp], .int .i64 p.x]) ?_ hd ⟨ad, k, cp, rfl, hr, stp (set3_below hB (Nat.le_refl _) _ _ _ _ _) hb⟩
  simp [results, Try.results14, go_sem, h2, h3, c0, c1, c2]

set_option maxHeartbeats 2000000 in
theorem refDecode_run1 (b off n cap : Nat) (l : List Int) (w : World) (hr : Row8 w (some ⟨b, off, none⟩) n l) (hn : n ≤ 3000) (hc : n ≤ cap) (hf : framed l = true) (h25 : ¬ 25 < (n - 4) / 20) (hw : isWhole l = false) (hr1 : ¬ (l[0]?.getD 0 = 1 ∧ (n - 4) / 20 = 1)) :
    Calls Try.prog 14 #[.slice (some ⟨b, off, none⟩) n cap] w (Decoded w (dec l)) := by
  have HR : Hid (Row8 w (some ⟨b, off, none⟩) n l) := hr
  obtain ⟨h4, hr20, hx12, hl4⟩ := framed_all hf
  rw [hr.1] at h4 hr20
  have c0 := hr.at (by omega)
  obtain ⟨b', off', e, hcell⟩ := c0
  simp only [Option.some.injEq, Addr.mk.injEq, and_true] at e
  obtain ⟨rfl, rfl⟩ := e
  have d0 := hcell 0 (by omega)
  rw [Nat.add_zero] at d0
  have d1 := hcell 1 (by omega)
  have d2 := hcell 2 (by omega)
  have d3 := hcell 3 (by omega)
  rw [show l[1]?.getD 0 = 2 from by rw [hl4]; rfl] at d1
  rw [show l[2]?.getD 0 = 0 from by rw [hl4]; rfl] at d2
  rw [show l[3]?.getD 0 = 0 from by rw [hl4]; rfl] at d3
  obtain ⟨x, hx⟩ : ∃ x, l[0]?.getD 0 = x := ⟨_, rfl⟩
  rw [hx] at d0 hx12
  have HX : Hid (l[0]?.getD 0 = x) := hx
  have hx0 : 0 ≤ x := by omega
  have hx1 : x ≤ 2 := by omega
  have h4i : ¬ (n : Int) < 4 := by omega
  have e : ((((n : Int) - 4) % 20) != 0) = false := by rw [bne_eq_false_iff_eq]; omega
  have nb : b < w.heap.size := World.block_lt_of_cell? w ⟨b, off, none⟩ d0
  obtain ⟨r, hr25⟩ : ∃ r, r = (n - 4) / 20 := ⟨_, rfl⟩
  have e3 : ((n : Int) - 4) / 20 = (r : Int) := by omega
  have HL : Hid (l.length = 4 + 20 * r) := by unfold Hid; rw [hr.1]; omega
  have h25i : ¬ (25 : Int) < (r : Int) := by omega
  have hw2 := hw
  rw [whole_is hx] at hw2
  have HW : Hid (isWhole l = false) := hw
  have HR25 : Hid (r ≤ 25) := by unfold Hid; omega
  have key : (x == 1) = false ∨ ((x == 1) = true ∧ decide (l.drop 4 = wholeL) = false) := by
    cases h : (x == 1)
    · exact .inl rfl
    · rw [h] at hw2; exact .inr ⟨rfl, by simpa using hw2⟩
  rcases key with k1 | ⟨k1, k2⟩
  · have e1 : (x != 1) = true := by rw [bne_iff_ne]; rw [beq_eq_false_iff_ne] at k1; exact k1
    have e2 : (x != 2) = false := by rcases hx12 with rfl | rfl; simp at k1; rfl
    clear hr hcell hl4 hx hx12 hr20 h4 h25 hr25 hw hw2 hr1
    go_enter Try.func14, Try.ntmps14
    go_wp2
    obtain ⟨W2, hW2⟩ : ∃ W2, W2 = ((w.alloc (Obj.cells #[Value.int IntKind.i64 0, Value.bool false, Value.slice none 0 0] 24)).alloc (Obj.cells #[Value.int IntKind.i64 0, Value.bool false, Value.slice none 0 0] 24)).alloc (Obj.cells #[Value.int IntKind.i64 x, Value.bool false, Value.slice none 0 0] 24) := ⟨_, rfl⟩
    rw [← hW2]
    have H8 : At8 w x W2 := by rw [hW2]; exact at8 w x
    clear hW2
    have y0 := cell_later H8.bel d0
    go_quiet (fail)
    obtain ⟨W3, hW3⟩ : ∃ W3, W3 = W2.drewN nq := ⟨_, rfl⟩
    rw [← hW3]
    have H9 : At8 w x W3 := by rw [hW3]; exact H8.later (below_drewN (Below.refl _ _) nq)
    clear hW3 H8 y0 d0 d1 d2 d3 e1 e2 e k1
    have HHX : Hid (_) := HX.out
    go_wp2
    go_loopw [7] (fun i W => DL w x l r i W) (fun i _ => r - (intOf i).toNat)
    case atStart => exact H9.loop l r
    case round =>
      clear H9
      obtain ⟨k, ad, cp, es, hk, rfl, P0, P1, PN, hown, hes, hdec, hB⟩ := hrel
      have HB : Hid (Below w.heap.size w wr) := hB
      have HO : Hid (OwnE wr (w.heap.size + 1 + 1 + 1) (.slice ad k cp) k es) := hown
      have HP0 : Hid (PF wr w.heap.size 0 false none 0 0) := P0
      have HP1 : Hid (PF wr (w.heap.size + 1) 0 false none 0 0) := P1
      have HPN : Hid (PF wr (w.heap.size + 1 + 1) x false ad k cp) := PN
      obtain ⟨⟨r0, r1, r2, rz⟩, rf⟩ := P0
      obtain ⟨⟨s0, s1, s2, sz⟩, sf⟩ := P1
      obtain ⟨⟨p0, p1, p2, pz⟩, pf⟩ := PN
      have hl20 : (l.length - 4) / 20 = r := by have := HL.out; omega
      by_cases hlt : k < r
      · have hlt' : (k : Int) < (r : Int) := by omega
        obtain ⟨i, hi⟩ : ∃ i, r - k = i + 1 := ⟨r - k - 1, by omega⟩
        rw [hi] at hdec
        have hnr : n = 4 + 20 * r := by rw [← HL.out, HR.out.1]
        have HT : Hid (Row8 w (some ⟨b, off + (4 + 20 * k), none⟩) 20 ((l.drop (4 + 20 * k)).take 20)) := (HR.out.drop (4 + 20 * k) (by omega)).take 20 (by omega)
        have i1 : (24 : Int) + 20 * (k : Int) ≤ (n : Int) := by omega
        have i2 : (24 : Int) + 20 * (k : Int) ≤ (cap : Int) := by omega
        have hk25 : k ≤ 25 := by have := HR25.out; omega
        have hlen20 : 24 + 20 * k - (4 + 20 * k) = 20 := by omega
        have HI : Hid (r - k = i + 1) := hi
        have HK : Hid (k < r) := hlt
        have HE : Hid (decE ((l.drop (4 + 20 * k)).take 20) = ⟨getV ((l.drop (4 + 20 * k)).take 20) 4 4, bitsI (getV ((l.drop (4 + 20 * k)).take 20) 8 4), getV ((l.drop (4 + 20 * k)).take 20) 2 2, getV ((l.drop (4 + 20 * k)).take 20) 12 4, getV ((l.drop (4 + 20 * k)).take 20) 16 4⟩) := rfl
        have hok := decE_ok HT.out.2.2.1
        cases hb : decB ((l.drop (4 + 20 * k)).take 20)
        · have HD : Hid (dec l = ⟨0, false, [], 2⟩) := dec_none hf (by omega) HW.out (by rw [hl20]; exact dec_fail hdec hb)
          clear hdec hi hnr hl20 hown hB hok hlt
          go_wp2_with (go_at_call 27; rw [hlen20]; refine (refRead_at _ _ _ _ _ _ _ _ _ (HT.out.later HB.out) HE.out hb).mono ?_; rintro e W4 ⟨rfl, hb4⟩; obtain ⟨⟨r0, r1, r2, rz⟩, rf⟩ := HP0.out.later hb4; obtain ⟨⟨s0, s1, s2, sz⟩, sf⟩ := HP1.out.later hb4)
          rw [HD.out]
          exact fin14a (p := ⟨0, false, [], 2⟩) (HP0.out.later hb4).1 (stp HB.out hb4) rfl rfl rfl (rowE_none _)
        · have HD := dec_step hdec hb
          rw [show 4 + 20 * k + 20 = 4 + 20 * (k + 1) from by omega, show i = r - (k + 1) from by omega] at HD
          have HD' : Hid (_) := HD
          rw [HE.out] at hok HD'
          clear HD hdec hi hnr hl20 hown hB hlt
          generalize getV ((l.drop (4 + 20 * k)).take 20) 4 4 = e1 at HE hok HD'
          generalize bitsI (getV ((l.drop (4 + 20 * k)).take 20) 8 4) = e2 at HE hok HD'
          generalize getV ((l.drop (4 + 20 * k)).take 20) 2 2 = e3' at HE hok HD'
          generalize getV ((l.drop (4 + 20 * k)).take 20) 12 4 = e4 at HE hok HD'
          generalize getV ((l.drop (4 + 20 * k)).take 20) 16 4 = e5 at HE hok HD'
          go_wp2_with (first
            | (go_at_call 27; rw [hlen20]; refine (refRead_at _ _ _ _ _ _ _ _ _ (HT.out.later HB.out) HE.out hb).mono ?_; rintro e W4 ⟨rfl, hb4⟩; obtain ⟨⟨p0, p1, p2, pz⟩, pf⟩ := HPN.out.later hb4; have hB4 := stp HB.out hb4; have hO4 := HO.out.later hb4)
            | (at_builtin; refine wpList_appE _ rfl (.tmp 103) (.tmp 105) 22 rfl (w.heap.size + 1 + 1 + 1) Try.underlying22 info43 _ k _ rfl ((hO4.later (below1 _ _)).later (below1 _ _)) _ 1 1 [⟨e1, e2, e3', e4, e5⟩] rfl (rowE_at (E5.new (W4.alloc (obj5 e1 e2 e3' e4 e5)) e1 e2 e3' e4 e5) (by simp) hok) (k + 1) rfl _ rfl (by omega) (by simp; omega) ?_; intro a5 c5 W5 own5 hb5; have b2 := (below1 W4 (obj5 e1 e2 e3' e4 e5)); have b3 := (below1 (W4.alloc (obj5 e1 e2 e3' e4 e5)) (obj5 e1 e2 e3' e4 e5)); have PN := (((HPN.out.later hb4).later b2).later b3).lift hb5 (by omega); have P0 := (((HP0.out.later hb4).later b2).later b3).lift hb5 (by omega); have P1 := (((HP1.out.later hb4).later b2).later b3).lift hb5 (by omega); obtain ⟨⟨q0, q1, q2, qz⟩, qf⟩ := PN; have hB5 := (stp (stp hB4 b2) b3).trans (hb5.mono (by omega))))
          go_roundw
          case rel => exact ⟨k + 1, a5, c5, es ++ [⟨e1, e2, e3', e4, e5⟩], by have := HK.out; omega, by go_num, P0.far (by omega), P1.far (by omega), PF.set2 ⟨⟨q0, q1, q2, qz⟩, qf⟩, own5.set (by omega), hes.append (fun q hq => by simp at hq; subst hq; exact hok), HD'.out, hB5.setCell (by show w.heap.size ≤ w.heap.size + 1 + 1; omega) _⟩
          case measure => have := HK.out; simp [intOf]; omega
      · obtain rfl : k = r := by omega
        have HD : Hid (dec l = ⟨x, false, es, 0⟩) := by
          have := dec_some (es := es) hf (by omega) HW.out (by rw [hl20]; rw [Nat.sub_self] at hdec; exact dec_end hdec)
          rw [HX.out] at this
          exact this
        clear hdec hl20 hown hB
        go_wp2
        rw [HD.out]
        exact fin14 (p := ⟨x, false, es, 0⟩) HP0.out.1 HB.out rfl rfl rfl ((((HO.out.set (by omega)).set (by omega)).set (by omega)).row hes)
  · have e1 : (x != 1) = false := by rw [bne_eq_false_iff_eq]; simpa using k1
    have hr1' : ¬ r = 1 := fun h => hr1 ⟨by rw [hx]; simpa using k1, by omega⟩
    have e6 : ((r : Int) == 1) = false := by rw [beq_eq_false_iff_ne]; omega
    clear hr hcell hl4 hx hx12 hr20 h4 h25 hr25 hw hw2 hr1 hr1' k2
    go_enter Try.func14, Try.ntmps14
    go_wp2
    obtain ⟨W2, hW2⟩ : ∃ W2, W2 = ((w.alloc (Obj.cells #[Value.int IntKind.i64 0, Value.bool false, Value.slice none 0 0] 24)).alloc (Obj.cells #[Value.int IntKind.i64 0, Value.bool false, Value.slice none 0 0] 24)).alloc (Obj.cells #[Value.int IntKind.i64 x, Value.bool false, Value.slice none 0 0] 24) := ⟨_, rfl⟩
    rw [← hW2]
    have H8 : At8 w x W2 := by rw [hW2]; exact at8 w x
    clear hW2
    have y0 := cell_later H8.bel d0
    go_quiet (fail)
    obtain ⟨W3, hW3⟩ : ∃ W3, W3 = W2.drewN nq := ⟨_, rfl⟩
    rw [← hW3]
    have H9 : At8 w x W3 := by rw [hW3]; exact H8.later (below_drewN (Below.refl _ _) nq)
    clear hW3 H8 y0 d0 d1 d2 d3 e1 e k1 e6
    have HHX : Hid (_) := HX.out
    go_wp2
    go_loopw [7] (fun i W => DL w x l r i W) (fun i _ => r - (intOf i).toNat)
    case atStart => exact H9.loop l r
    case round =>
      clear H9
      obtain ⟨k, ad, cp, es, hk, rfl, P0, P1, PN, hown, hes, hdec, hB⟩ := hrel
      have HB : Hid (Below w.heap.size w wr) := hB
      have HO : Hid (OwnE wr (w.heap.size + 1 + 1 + 1) (.slice ad k cp) k es) := hown
      have HP0 : Hid (PF wr w.heap.size 0 false none 0 0) := P0
      have HP1 : Hid (PF wr (w.heap.size + 1) 0 false none 0 0) := P1
      have HPN : Hid (PF wr (w.heap.size + 1 + 1) x false ad k cp) := PN
      obtain ⟨⟨r0, r1, r2, rz⟩, rf⟩ := P0
      obtain ⟨⟨s0, s1, s2, sz⟩, sf⟩ := P1
      obtain ⟨⟨p0, p1, p2, pz⟩, pf⟩ := PN
      have hl20 : (l.length - 4) / 20 = r := by have := HL.out; omega
      by_cases hlt : k < r
      · have hlt' : (k : Int) < (r : Int) := by omega
        obtain ⟨i, hi⟩ : ∃ i, r - k = i + 1 := ⟨r - k - 1, by omega⟩
        rw [hi] at hdec
        have hnr : n = 4 + 20 * r := by rw [← HL.out, HR.out.1]
        have HT : Hid (Row8 w (some ⟨b, off + (4 + 20 * k), none⟩) 20 ((l.drop (4 + 20 * k)).take 20)) := (HR.out.drop (4 + 20 * k) (by omega)).take 20 (by omega)
        have i1 : (24 : Int) + 20 * (k : Int) ≤ (n : Int) := by omega
        have i2 : (24 : Int) + 20 * (k : Int) ≤ (cap : Int) := by omega
        have hk25 : k ≤ 25 := by have := HR25.out; omega
        have hlen20 : 24 + 20 * k - (4 + 20 * k) = 20 := by omega
        have HI : Hid (r - k = i + 1) := hi
        have HK : Hid (k < r) := hlt
        have HE : Hid (decE ((l.drop (4 + 20 * k)).take 20) = ⟨getV ((l.drop (4 + 20 * k)).take 20) 4 4, bitsI (getV ((l.drop (4 + 20 * k)).take 20) 8 4), getV ((l.drop (4 + 20 * k)).take 20) 2 2, getV ((l.drop (4 + 20 * k)).take 20) 12 4, getV ((l.drop (4 + 20 * k)).take 20) 16 4⟩) := rfl
        have hok := decE_ok HT.out.2.2.1
        cases hb : decB ((l.drop (4 + 20 * k)).take 20)
        · have HD : Hid (dec l = ⟨0, false, [], 2⟩) := dec_none hf (by omega) HW.out (by rw [hl20]; exact dec_fail hdec hb)
          clear hdec hi hnr hl20 hown hB hok hlt
          go_wp2_with (go_at_call 27; rw [hlen20]; refine (refRead_at _ _ _ _ _ _ _ _ _ (HT.out.later HB.out) HE.out hb).mono ?_; rintro e W4 ⟨rfl, hb4⟩; obtain ⟨⟨r0, r1, r2, rz⟩, rf⟩ := HP0.out.later hb4; obtain ⟨⟨s0, s1, s2, sz⟩, sf⟩ := HP1.out.later hb4)
          rw [HD.out]
          exact fin14a (p := ⟨0, false, [], 2⟩) (HP0.out.later hb4).1 (stp HB.out hb4) rfl rfl rfl (rowE_none _)
        · have HD := dec_step hdec hb
          rw [show 4 + 20 * k + 20 = 4 + 20 * (k + 1) from by omega, show i = r - (k + 1) from by omega] at HD
          have HD' : Hid (_) := HD
          rw [HE.out] at hok HD'
          clear HD hdec hi hnr hl20 hown hB hlt
          generalize getV ((l.drop (4 + 20 * k)).take 20) 4 4 = e1 at HE hok HD'
          generalize bitsI (getV ((l.drop (4 + 20 * k)).take 20) 8 4) = e2 at HE hok HD'
          generalize getV ((l.drop (4 + 20 * k)).take 20) 2 2 = e3' at HE hok HD'
          generalize getV ((l.drop (4 + 20 * k)).take 20) 12 4 = e4 at HE hok HD'
          generalize getV ((l.drop (4 + 20 * k)).take 20) 16 4 = e5 at HE hok HD'
          go_wp2_with (first
            | (go_at_call 27; rw [hlen20]; refine (refRead_at _ _ _ _ _ _ _ _ _ (HT.out.later HB.out) HE.out hb).mono ?_; rintro e W4 ⟨rfl, hb4⟩; obtain ⟨⟨p0, p1, p2, pz⟩, pf⟩ := HPN.out.later hb4; have hB4 := stp HB.out hb4; have hO4 := HO.out.later hb4)
            | (at_builtin; refine wpList_appE _ rfl (.tmp 103) (.tmp 105) 22 rfl (w.heap.size + 1 + 1 + 1) Try.underlying22 info43 _ k _ rfl ((hO4.later (below1 _ _)).later (below1 _ _)) _ 1 1 [⟨e1, e2, e3', e4, e5⟩] rfl (rowE_at (E5.new (W4.alloc (obj5 e1 e2 e3' e4 e5)) e1 e2 e3' e4 e5) (by simp) hok) (k + 1) rfl _ rfl (by omega) (by simp; omega) ?_; intro a5 c5 W5 own5 hb5; have b2 := (below1 W4 (obj5 e1 e2 e3' e4 e5)); have b3 := (below1 (W4.alloc (obj5 e1 e2 e3' e4 e5)) (obj5 e1 e2 e3' e4 e5)); have PN := (((HPN.out.later hb4).later b2).later b3).lift hb5 (by omega); have P0 := (((HP0.out.later hb4).later b2).later b3).lift hb5 (by omega); have P1 := (((HP1.out.later hb4).later b2).later b3).lift hb5 (by omega); obtain ⟨⟨q0, q1, q2, qz⟩, qf⟩ := PN; have hB5 := (stp (stp hB4 b2) b3).trans (hb5.mono (by omega))))
          go_roundw
          case rel => exact ⟨k + 1, a5, c5, es ++ [⟨e1, e2, e3', e4, e5⟩], by have := HK.out; omega, by go_num, P0.far (by omega), P1.far (by omega), PF.set2 ⟨⟨q0, q1, q2, qz⟩, qf⟩, own5.set (by omega), hes.append (fun q hq => by simp at hq; subst hq; exact hok), HD'.out, hB5.setCell (by show w.heap.size ≤ w.heap.size + 1 + 1; omega) _⟩
          case measure => have := HK.out; simp [intOf]; omega
      · obtain rfl : k = r := by omega
        have HD : Hid (dec l = ⟨x, false, es, 0⟩) := by
          have := dec_some (es := es) hf (by omega) HW.out (by rw [hl20]; rw [Nat.sub_self] at hdec; exact dec_end hdec)
          rw [HX.out] at this
          exact this
        clear hdec hl20 hown hB
        go_wp2
        rw [HD.out]
        exact fin14 (p := ⟨x, false, es, 0⟩) HP0.out.1 HB.out rfl rfl rfl ((((HO.out.set (by omega)).set (by omega)).set (by omega)).row hes)
end Go.Proofs.Ytabpillcpnnidaa
