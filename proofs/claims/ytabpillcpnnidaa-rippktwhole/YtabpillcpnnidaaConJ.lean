/- The document's Decode: one entry, of a request. -/
import Derived.Test.YtabpillcpnnidaaConI
namespace Go.Proofs.Ytabpillcpnnidaa
open Go.RowKit
set_option linter.unusedVariables false

theorem refWhole_at (w : World) (wo : Obj) (h : wo = .cells (wholeL.map (Value.int .u8)).toArray 5) :
    Calls Try.prog 20 #[] w fun e w' => e = .returned (.slice (some ⟨w.heap.size, 0, none⟩) 20 20) ∧ w' = w.alloc wo := by
  subst h; exact refWhole_any w

set_option maxHeartbeats 2000000 in
theorem refDecode_one (b off n cap : Nat) (l : List Int) (w : World) (hr : Row8 w (some ⟨b, off, none⟩) n l) (hn : n ≤ 3000) (hc : n ≤ cap) (hf : framed l = true) (h25 : ¬ 25 < (n - 4) / 20) (hw : isWhole l = false) (hx1' : l[0]?.getD 0 = 1) (hr1' : (n - 4) / 20 = 1) :
    Calls Try.prog 14 #[.slice (some ⟨b, off, none⟩) n cap] w (Decoded w (dec l)) := by
  have HR : Hid (Row8 w (some ⟨b, off, none⟩) n l) := hr
  obtain ⟨h4, hr20, hx12, hl4⟩ := framed_all hf
  rw [hr.1] at h4 hr20
  have c0 := hr.at (by omega)
  obtain ⟨b', off', e, hcell⟩ := c0
  simp only [Option.some.injEq, Addr.mk.injEq, and_true] at e
  obtain ⟨rfl, rfl⟩ := e
  have d0 := hcell 0 (by omega)
  rw [Nat.add_zero] at d0
  have d1 := hcell 1 (by omega)
  have d2 := hcell 2 (by omega)
  have d3 := hcell 3 (by omega)
  rw [show l[1]?.getD 0 = 2 from by rw [hl4]; rfl] at d1
  rw [show l[2]?.getD 0 = 0 from by rw [hl4]; rfl] at d2
  rw [show l[3]?.getD 0 = 0 from by rw [hl4]; rfl] at d3
  obtain ⟨x, hx⟩ : ∃ x, l[0]?.getD 0 = x := ⟨_, rfl⟩
  rw [hx] at d0 hx12
  have HX : Hid (l[0]?.getD 0 = x) := hx
  have hx0 : 0 ≤ x := by omega
  have hx1 : x ≤ 2 := by omega
  have h4i : ¬ (n : Int) < 4 := by omega
  have e : ((((n : Int) - 4) % 20) != 0) = false := by rw [bne_eq_false_iff_eq]; omega
  have nb : b < w.heap.size := World.block_lt_of_cell? w ⟨b, off, none⟩ d0
  obtain ⟨r, hr25⟩ : ∃ r, r = (n - 4) / 20 := ⟨_, rfl⟩
  have e3 : ((n : Int) - 4) / 20 = (r : Int) := by omega
  have HL : Hid (l.length = 4 + 20 * r) := by unfold Hid; rw [hr.1]; omega
  have h25i : ¬ (25 : Int) < (r : Int) := by omega
  have hw2 := hw
  rw [whole_is hx] at hw2
  have HW : Hid (isWhole l = false) := hw
  have HR25 : Hid (r ≤ 25) := by unfold Hid; omega
  have k1 : (x == 1) = true := by rw [beq_iff_eq, ← hx]; exact hx1'
  have k2 : decide (l.drop 4 = wholeL) = false := by rw [k1] at hw2; simpa using hw2
  have e1 : (x != 1) = false := by rw [bne_eq_false_iff_eq]; simpa using k1
  have hr1 : r = 1 := by omega
  have e6 : ((r : Int) == 1) = true := by rw [beq_iff_eq]; omega
  have hn24 : n = 24 := by omega
  have hcap : ¬ cap = 4 := by omega
  have i0 : 0 < n := by omega
  have i1 : (4 : Int) ≤ (n : Int) := by omega
  have i2 : (n : Int) ≤ (cap : Int) := by omega
  have HRD : Hid (Row8 w (some ⟨b, off + 4, none⟩) (n - 4) (l.drop 4)) := HR.out.drop 4 (by omega)
  obtain ⟨T1, hT1⟩ : ∃ T1, strOfNums (l.drop 4) = T1 := ⟨_, rfl⟩
  obtain ⟨T2, hT2⟩ : ∃ T2, strOfNums wholeL = T2 := ⟨_, rfl⟩
  have hcmp : (T1.toList == T2.toList) = false := by rw [← hT1, ← hT2, strOf_eq HRD.out.2.2.1 whole_bytes]; exact k2
  have HT1 : Hid (_) := hT1
  have HT2 : Hid (_) := hT2
  clear hr hcell hl4 hx hx12 hr20 h4 h25 hr25 hw hw2 hr1 hn24 hr1' hx1' hT1 hT2 k2
  go_enter Try.func14, Try.ntmps14
  go_wp2
  obtain ⟨W2, hW2⟩ : ∃ W2, W2 = ((w.alloc (Obj.cells #[Value.int IntKind.i64 0, Value.bool false, Value.slice none 0 0] 24)).alloc (Obj.cells #[Value.int IntKind.i64 0, Value.bool false, Value.slice none 0 0] 24)).alloc (Obj.cells #[Value.int IntKind.i64 x, Value.bool false, Value.slice none 0 0] 24) := ⟨_, rfl⟩
  rw [← hW2]
  have H8 : At8 w x W2 := by rw [hW2]; exact at8 w x
  clear hW2
  have y0 := cell_later H8.bel d0
  obtain ⟨wo, hwo⟩ : ∃ wo : Obj, wo = .cells (wholeL.map (Value.int .u8)).toArray 5 := ⟨_, rfl⟩
  have HWO : Hid (wo = .cells (wholeL.map (Value.int .u8)).toArray 5) := hwo
  have RW : Row8 (W2.alloc wo) (some ⟨W2.heap.size, 0, none⟩) 20 wholeL := by rw [hwo]; exact row8_at W2 _ rfl wholeL 5 20 rfl whole_bytes (by decide)
  clear hwo
  have bW := (below1 W2 wo).drew
  have q1 : Sem.run Try.prog (convert 26 9 (.slice (some ⟨b, off + 4, none⟩) (n - 4) (cap - 4))) W2.drew = .ok (.string T1) W2.drew := by rw [← HT1.out]; exact conv_any _ (HRD.out.later (stp H8.bel (Below.refl _ _).drew))
  have q2 : Sem.run Try.prog (convert 26 9 (.slice (some ⟨b, off + 4, none⟩) (n - 4) (cap - 4))) (W2.alloc wo).drew = .ok (.string T1) (W2.alloc wo).drew := by rw [← HT1.out]; exact conv_any _ (HRD.out.later (stp H8.bel bW))
  have q3 : Sem.run Try.prog (convert 26 9 (.slice (some ⟨W2.heap.size, 0, none⟩) 20 20)) (W2.alloc wo).drew = .ok (.string T2) (W2.alloc wo).drew := by rw [← HT2.out]; exact conv_any _ RW.drew
  have H9 := H8.later bW
  clear bW RW
  go_region_held (fun w' => w'.cell? ⟨b, off, none⟩ = some (.int .u8 x)) (go_keep) (first | (go_at_call 20; refine (refWhole_at _ wo HWO.out).mono ?_; rintro e w' ⟨rfl, rfl⟩))
  all_goals
    obtain ⟨W3, hW3⟩ : ∃ W3, W3 = (W2.alloc wo).drew := ⟨_, rfl⟩
    rw [← hW3]
    rw [← hW3] at H9
    clear hW3 H8 y0 d0 d1 d2 d3 e1 e k1 e6 q1 q2 q3
    have HHX : Hid (_) := HX.out
    go_wp2
    go_loopw [7] (fun i W => DL w x l r i W) (fun i _ => r - (intOf i).toNat)
    case atStart => exact H9.loop l r
    case round =>
      clear H9
      obtain ⟨k, ad, cp, es, hk, rfl, P0, P1, PN, hown, hes, hdec, hB⟩ := hrel
      have HB : Hid (Below w.heap.size w wr) := hB
      have HO : Hid (OwnE wr (w.heap.size + 1 + 1 + 1) (.slice ad k cp) k es) := hown
      have HP0 : Hid (PF wr w.heap.size 0 false none 0 0) := P0
      have HP1 : Hid (PF wr (w.heap.size + 1) 0 false none 0 0) := P1
      have HPN : Hid (PF wr (w.heap.size + 1 + 1) x false ad k cp) := PN
      obtain ⟨⟨r0, r1, r2, rz⟩, rf⟩ := P0
      obtain ⟨⟨s0, s1, s2, sz⟩, sf⟩ := P1
      obtain ⟨⟨p0, p1, p2, pz⟩, pf⟩ := PN
      have hl20 : (l.length - 4) / 20 = r := by have := HL.out; omega
      by_cases hlt : k < r
      · have hlt' : (k : Int) < (r : Int) := by omega
        obtain ⟨i, hi⟩ : ∃ i, r - k = i + 1 := ⟨r - k - 1, by omega⟩
        rw [hi] at hdec
        have hnr : n = 4 + 20 * r := by rw [← HL.out, HR.out.1]
        have HT : Hid (Row8 w (some ⟨b, off + (4 + 20 * k), none⟩) 20 ((l.drop (4 + 20 * k)).take 20)) := (HR.out.drop (4 + 20 * k) (by omega)).take 20 (by omega)
        have i1 : (24 : Int) + 20 * (k : Int) ≤ (n : Int) := by omega
        have i2 : (24 : Int) + 20 * (k : Int) ≤ (cap : Int) := by omega
        have hk25 : k ≤ 25 := by have := HR25.out; omega
        have hlen20 : 24 + 20 * k - (4 + 20 * k) = 20 := by omega
        have HI : Hid (r - k = i + 1) := hi
        have HK : Hid (k < r) := hlt
        have HE : Hid (decE ((l.drop (4 + 20 * k)).take 20) = ⟨getV ((l.drop (4 + 20 * k)).take 20) 4 4, bitsI (getV ((l.drop (4 + 20 * k)).take 20) 8 4), getV ((l.drop (4 + 20 * k)).take 20) 2 2, getV ((l.drop (4 + 20 * k)).take 20) 12 4, getV ((l.drop (4 + 20 * k)).take 20) 16 4⟩) := rfl
        have hok := decE_ok HT.out.2.2.1
        cases hb : decB ((l.drop (4 + 20 * k)).take 20)
        · have HD : Hid (dec l = ⟨0, false, [], 2⟩) := dec_none hf (by omega) HW.out (by rw [hl20]; exact dec_fail hdec hb)
          clear hdec hi hnr hl20 hown hB hok hlt
          go_wp2_with (go_at_call 27; rw [hlen20]; refine (refRead_at _ _ _ _ _ _ _ _ _ (HT.out.later HB.out) HE.out hb).mono ?_; rintro e W4 ⟨rfl, hb4⟩; obtain ⟨⟨r0, r1, r2, rz⟩, rf⟩ := HP0.out.later hb4; obtain ⟨⟨s0, s1, s2, sz⟩, sf⟩ := HP1.out.later hb4)
          rw [HD.out]
          exact fin14a (p := ⟨0, false, [], 2⟩) (HP0.out.later hb4).1 (stp HB.out hb4) rfl rfl rfl (rowE_none _)
        · have HD := dec_step hdec hb
          rw [show 4 + 20 * k + 20 = 4 + 20 * (k + 1) from by omega, show i = r - (k + 1) from by omega] at HD
          have HD' : Hid (_) := HD
          rw [HE.out] at hok HD'
          clear HD hdec hi hnr hl20 hown hB hlt
          generalize getV ((l.drop (4 + 20 * k)).take 20) 4 4 = e1 at HE hok HD'
          generalize bitsI (getV ((l.drop (4 + 20 * k)).take 20) 8 4) = e2 at HE hok HD'
          generalize getV ((l.drop (4 + 20 * k)).take 20) 2 2 = e3' at HE hok HD'
          generalize getV ((l.drop (4 + 20 * k)).take 20) 12 4 = e4 at HE hok HD'
          generalize getV ((l.drop (4 + 20 * k)).take 20) 16 4 = e5 at HE hok HD'
          go_wp2_with (first
            | (go_at_call 27; rw [hlen20]; refine (refRead_at _ _ _ _ _ _ _ _ _ (HT.out.later HB.out) HE.out hb).mono ?_; rintro e W4 ⟨rfl, hb4⟩; obtain ⟨⟨p0, p1, p2, pz⟩, pf⟩ := HPN.out.later hb4; have hB4 := stp HB.out hb4; have hO4 := HO.out.later hb4)
            | (at_builtin; refine wpList_appE _ rfl (.tmp 103) (.tmp 105) 22 rfl (w.heap.size + 1 + 1 + 1) Try.underlying22 info43 _ k _ rfl ((hO4.later (below1 _ _)).later (below1 _ _)) _ 1 1 [⟨e1, e2, e3', e4, e5⟩] rfl (rowE_at (E5.new (W4.alloc (obj5 e1 e2 e3' e4 e5)) e1 e2 e3' e4 e5) (by simp) hok) (k + 1) rfl _ rfl (by omega) (by simp; omega) ?_; intro a5 c5 W5 own5 hb5; have b2 := (below1 W4 (obj5 e1 e2 e3' e4 e5)); have b3 := (below1 (W4.alloc (obj5 e1 e2 e3' e4 e5)) (obj5 e1 e2 e3' e4 e5)); have PN := (((HPN.out.later hb4).later b2).later b3).lift hb5 (by omega); have P0 := (((HP0.out.later hb4).later b2).later b3).lift hb5 (by omega); have P1 := (((HP1.out.later hb4).later b2).later b3).lift hb5 (by omega); obtain ⟨⟨q0, q1, q2, qz⟩, qf⟩ := PN; have hB5 := (stp (stp hB4 b2) b3).trans (hb5.mono (by omega))))
          go_roundw
          case rel => exact ⟨k + 1, a5, c5, es ++ [⟨e1, e2, e3', e4, e5⟩], by have := HK.out; omega, by go_num, P0.far (by omega), P1.far (by omega), PF.set2 ⟨⟨q0, q1, q2, qz⟩, qf⟩, own5.set (by omega), hes.append (fun q hq => by simp at hq; subst hq; exact hok), HD'.out, hB5.setCell (by show w.heap.size ≤ w.heap.size + 1 + 1; omega) _⟩
          case measure => have := HK.out; simp [intOf]; omega
      · obtain rfl : k = r := by omega
        have HD : Hid (dec l = ⟨x, false, es, 0⟩) := by
          have := dec_some (es := es) hf (by omega) HW.out (by rw [hl20]; rw [Nat.sub_self] at hdec; exact dec_end hdec)
          rw [HX.out] at this
          exact this
        clear hdec hl20 hown hB
        go_wp2
        rw [HD.out]
        exact fin14 (p := ⟨x, false, es, 0⟩) HP0.out.1 HB.out rfl rfl rfl ((((HO.out.set (by omega)).set (by omega)).set (by omega)).row hes)
set_option maxHeartbeats 2000000 in
theorem refDecode_whole (b off n cap : Nat) (l : List Int) (w : World) (hr : Row8 w (some ⟨b, off, none⟩) n l) (hn : n ≤ 3000) (hc : n ≤ cap) (hf : framed l = true) (h25 : ¬ 25 < (n - 4) / 20) (hw : isWhole l = true) :
    Calls Try.prog 14 #[.slice (some ⟨b, off, none⟩) n cap] w (Decoded w (dec l)) := by
  rw [dec_wh hf (by rw [hr.1]; omega) hw]
  have HR : Hid (Row8 w (some ⟨b, off, none⟩) n l) := hr
  obtain ⟨h4, hr20, hx12, hl4⟩ := framed_all hf
  rw [hr.1] at h4 hr20
  have c0 := hr.at (by omega)
  obtain ⟨b', off', e, hcell⟩ := c0
  simp only [Option.some.injEq, Addr.mk.injEq, and_true] at e
  obtain ⟨rfl, rfl⟩ := e
  have d0 := hcell 0 (by omega)
  rw [Nat.add_zero] at d0
  have d1 := hcell 1 (by omega)
  have d2 := hcell 2 (by omega)
  have d3 := hcell 3 (by omega)
  rw [show l[1]?.getD 0 = 2 from by rw [hl4]; rfl] at d1
  rw [show l[2]?.getD 0 = 0 from by rw [hl4]; rfl] at d2
  rw [show l[3]?.getD 0 = 0 from by rw [hl4]; rfl] at d3
  obtain ⟨x, hx⟩ : ∃ x, l[0]?.getD 0 = x := ⟨_, rfl⟩
  rw [hx] at d0 hx12
  have HX : Hid (l[0]?.getD 0 = x) := hx
  have hx0 : 0 ≤ x := by omega
  have hx1 : x ≤ 2 := by omega
  have h4i : ¬ (n : Int) < 4 := by omega
  have e : ((((n : Int) - 4) % 20) != 0) = false := by rw [bne_eq_false_iff_eq]; omega
  have nb : b < w.heap.size := World.block_lt_of_cell? w ⟨b, off, none⟩ d0
  obtain ⟨r, hr25⟩ : ∃ r, r = (n - 4) / 20 := ⟨_, rfl⟩
  have e3 : ((n : Int) - 4) / 20 = (r : Int) := by omega
  have HL : Hid (l.length = 4 + 20 * r) := by unfold Hid; rw [hr.1]; omega
  have h25i : ¬ (25 : Int) < (r : Int) := by omega
  have hw2 := hw
  rw [whole_is hx, Bool.and_eq_true] at hw2
  obtain ⟨k1, k2⟩ := hw2
  have hr1 : r = 1 := by
    have := congrArg List.length (of_decide_eq_true k2)
    rw [List.length_drop, HL.out, wholeL_len] at this
    omega
  have e1 : (x != 1) = false := by rw [bne_eq_false_iff_eq]; simpa using k1
  have HX1 : Hid (x = 1) := by unfold Hid; simpa using k1
  have e6 : ((r : Int) == 1) = true := by rw [beq_iff_eq]; omega
  have hn24 : n = 24 := by omega
  have hcap : ¬ cap = 4 := by omega
  have i0 : 0 < n := by omega
  have i1 : (4 : Int) ≤ (n : Int) := by omega
  have i2 : (n : Int) ≤ (cap : Int) := by omega
  have HRD : Hid (Row8 w (some ⟨b, off + 4, none⟩) (n - 4) (l.drop 4)) := HR.out.drop 4 (by omega)
  obtain ⟨T1, hT1⟩ : ∃ T1, strOfNums (l.drop 4) = T1 := ⟨_, rfl⟩
  obtain ⟨T2, hT2⟩ : ∃ T2, strOfNums wholeL = T2 := ⟨_, rfl⟩
  have hcmp : (T1.toList == T2.toList) = true := by rw [← hT1, ← hT2, strOf_eq HRD.out.2.2.1 whole_bytes]; exact k2
  have HT1 : Hid (_) := hT1
  have HT2 : Hid (_) := hT2
  clear hr hcell hl4 hx hx12 hr20 h4 h25 hr25 hw hr1 hn24 hT1 hT2 k2
  go_enter Try.func14, Try.ntmps14
  go_wp2
  obtain ⟨W2, hW2⟩ : ∃ W2, W2 = ((w.alloc (Obj.cells #[Value.int IntKind.i64 0, Value.bool false, Value.slice none 0 0] 24)).alloc (Obj.cells #[Value.int IntKind.i64 0, Value.bool false, Value.slice none 0 0] 24)).alloc (Obj.cells #[Value.int IntKind.i64 x, Value.bool false, Value.slice none 0 0] 24) := ⟨_, rfl⟩
  rw [← hW2]
  have H8 : At8 w x W2 := by rw [hW2]; exact at8 w x
  clear hW2
  have y0 := cell_later H8.bel d0
  obtain ⟨wo, hwo⟩ : ∃ wo : Obj, wo = .cells (wholeL.map (Value.int .u8)).toArray 5 := ⟨_, rfl⟩
  have HWO : Hid (wo = .cells (wholeL.map (Value.int .u8)).toArray 5) := hwo
  have RW : Row8 (W2.alloc wo) (some ⟨W2.heap.size, 0, none⟩) 20 wholeL := by rw [hwo]; exact row8_at W2 _ rfl wholeL 5 20 rfl whole_bytes (by decide)
  clear hwo
  have bW := (below1 W2 wo).drew
  have q1 : Sem.run Try.prog (convert 26 9 (.slice (some ⟨b, off + 4, none⟩) (n - 4) (cap - 4))) W2.drew = .ok (.string T1) W2.drew := by rw [← HT1.out]; exact conv_any _ (HRD.out.later (stp H8.bel (Below.refl _ _).drew))
  have q2 : Sem.run Try.prog (convert 26 9 (.slice (some ⟨b, off + 4, none⟩) (n - 4) (cap - 4))) (W2.alloc wo).drew = .ok (.string T1) (W2.alloc wo).drew := by rw [← HT1.out]; exact conv_any _ (HRD.out.later (stp H8.bel bW))
  have q3 : Sem.run Try.prog (convert 26 9 (.slice (some ⟨W2.heap.size, 0, none⟩) 20 20)) (W2.alloc wo).drew = .ok (.string T2) (W2.alloc wo).drew := by rw [← HT2.out]; exact conv_any _ RW.drew
  have H9 := H8.later bW
  clear bW RW
  go_region_held (fun w' => w'.cell? ⟨b, off, none⟩ = some (.int .u8 x)) (go_keep) (first | (go_at_call 20; refine (refWhole_at _ wo HWO.out).mono ?_; rintro e w' ⟨rfl, rfl⟩))
  all_goals
    obtain ⟨W3, hW3⟩ : ∃ W3, W3 = (W2.alloc wo).drew := ⟨_, rfl⟩
    rw [← hW3]
    rw [← hW3] at H9
    clear hW3 H8 y0 d0 d1 d2 d3 e1 e k1 e6 q1 q2 q3
    have HH : Hid (At8 w x W3) := H9
    obtain ⟨⟨p0, p1, p2, pz⟩, pf⟩ := H9.pkt
    obtain ⟨⟨r0, r1, r2, rz⟩, rf⟩ := H9.res
    clear H9
    go_wp2
    rw [HX1.out]
    exact fin14 (p := ⟨1, true, [], 0⟩) (HH.out.res.far (by omega)).1 (HH.out.bel.setCell (by show w.heap.size ≤ w.heap.size + 1 + 1; omega) _) rfl rfl rfl (rowE_none _)

theorem refDecode_any (a : Option Addr) (n cap : Nat) (l : List Int) (w : World) (hr : Row8 w a n l) (hn : n ≤ 3000) (hc : n ≤ cap) :
    Calls Try.prog 14 #[.slice a n cap] w (Decoded w (dec l)) := by
  cases hf : framed l
  · exact refDecode_bad a n cap l w hr hn hf
  · have h4 := (framed_all hf).1
    rw [hr.1] at h4
    obtain ⟨b, off, rfl, -⟩ := hr.at (by omega)
    by_cases h25 : 25 < (n - 4) / 20
    · exact refDecode_long b off n cap l w hr hn hc hf h25
    · cases hw : isWhole l
      · by_cases h1 : l[0]?.getD 0 = 1 ∧ (n - 4) / 20 = 1
        · exact refDecode_one b off n cap l w hr hn hc hf h25 hw h1.1 h1.2
        · exact refDecode_run1 b off n cap l w hr hn hc hf h25 hw h1
      · exact refDecode_whole b off n cap l w hr hn hc hf h25 hw
end Go.Proofs.Ytabpillcpnnidaa
