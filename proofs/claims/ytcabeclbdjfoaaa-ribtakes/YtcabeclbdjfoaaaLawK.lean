/- The law RibTakes over what is asked of the program's table. -/
import Derived.Test.YtcabeclbdjfoaaaLawS
import Derived.Test.YtcabeclbdjfoaaaRowO
namespace Go.Proofs.Ytcabeclbdjfoaaa
open Go.RowKit

section
variable {RB : World → (Nat → Prop) → Addr → Int → List Rt → Int → Nat → Prop}
/-- The program's table, all of whose blocks are new. -/
structure One9 (RB : World → (Nat → Prop) → Addr → Int → List Rt → Int → Nat → Prop) (w : World) (p : Addr) (most : Int) (L : List Rt) (full : Int) (m : Nat) (B : Nat → Prop) (W : World) : Prop where
  t : RB W B p most L full m
  d : ∀ k, B k → w.heap.size ≤ k
  b : Below w.heap.size w W
variable {w : World} {p : Addr} {most : Int} {L L2 : List Rt} {full full2 : Int} {m m2 : Nat} {B : Nat → Prop} {W W1 : World} {x : Int} {e : Ending}
theorem One9.later (C : RibC RB) (h : One9 RB w p most L full m B W) (hb : Below W.heap.size W W1) : One9 RB w p most L full m B W1 := ⟨C.later h.t hb, h.d, stp h.b hb⟩
theorem One9.step (h : One9 RB w p most L full m B W) (hd : DoneC RB W B p most L2 full2 m2 x e W1) : e = .returned (.int .i64 x) ∧ ∃ B1, One9 RB w p most L2 full2 m2 B1 W1 := by
  obtain ⟨B1, rfl, h1, h2, h3⟩ := hd
  refine ⟨rfl, B1, h1, fun k hk => ?_, h.b.trans (h3.below (fun i _ hi => h.d i hi) h.b.size)⟩
  rcases h2 k hk with hk | hk
  · exact h.d k hk
  · exact Nat.le_trans h.b.size hk
theorem O8.zz {b o : Nat} {k a l d s m n t : Int} (h : O8 W b o ⟨k, a, l, d, s, m, n, t⟩) : W.cell? ⟨b, o, none⟩ = some (.int .i64 k) ∧ W.cell? ⟨b, o + 1, none⟩ = some (.int .u32 a) ∧ W.cell? ⟨b, o + 2, none⟩ = some (.int .i64 l) ∧ W.cell? ⟨b, o + 3, none⟩ = some (.int .i64 d) ∧ W.cell? ⟨b, o + 4, none⟩ = some (.int .i64 s) ∧ W.cell? ⟨b, o + 5, none⟩ = some (.int .i64 m) ∧ W.cell? ⟨b, o + 6, none⟩ = some (.int .i64 n) ∧ W.cell? ⟨b, o + 7, none⟩ = some (.int .u16 t) := h
end
section
variable {RB : World → (Nat → Prop) → Addr → Int → List Rt → Int → Nat → Prop}
set_option maxRecDepth 100000 in
set_option maxHeartbeats 8000000 in
theorem law_takes (C : RibC RB) (most : Int) (ad : Option Addr) (n cap : Nat) (cs : List Op) (cx : Int) (w : World) (hm0 : -9223372036854775808 ≤ most) (hm1 : most ≤ 9223372036854775807) (hr : RowO w ad n cs) (cx0 : 0 ≤ cx) (cx1 : cx < 4294967296) :
    Calls Try.prog 7 #[.int .i64 most, .slice ad n cap, .int .u32 cx] w fun e w' => e = .returned (.bool true) ∧ Below w.heap.size w w' := by
  have HC : Hid (RibC RB) := C
  have HR : Hid (RowO w ad n cs) := hr
  obtain ⟨M, hM⟩ : ∃ M, min most 64 = M := ⟨_, rfl⟩
  have HMm : Hid (min most 64 = M) := hM
  have hM64 : Hid (M ≤ 64 ∧ M ≤ most) := by unfold Hid; omega
  clear C hr hM
  by_cases hn : n ≤ 150
  case neg =>
    have hn' : (150 : Int) < (n : Int) := by omega
    go_enter Try.func7, Try.ntmps7
    go_wp2_with (first
      | (go_at_call 11; refine (awake_any HC.out _).mono ?_; rintro e W1 ⟨rfl, hb1⟩)
      | (go_at_call 15; refine (HC.out.new most _ hm0 hm1).mono ?_; rintro e W2 ⟨p, B, rfl, T2, hB2, hb2⟩; have he : ∀ W : World, (binOp .eql 32 (.pointer (some p)) (.pointer none)).run Try.prog W = .ok (.bool false) W := run_nilP _; have he' : ∀ W : World, (binOp .neq 32 (.pointer (some p)) (.pointer none)).run Try.prog W = .ok (.bool true) W := run_nilN _))
    go_ret
    exact ⟨rfl, stp hb1 hb2⟩
  have hn' : ¬ (150 : Int) < (n : Int) := by omega
  go_enter Try.func7, Try.ntmps7
  go_wp2_with (first
    | (go_at_call 11; refine (awake_any HC.out _).mono ?_; rintro e W1 ⟨rfl, hb1⟩)
    | (go_at_call 15; refine (HC.out.new most _ hm0 hm1).mono ?_; rw [HMm.out]; rintro e W2 ⟨p, B, rfl, T2, hB2, hb2⟩; have he : ∀ W : World, (binOp .eql 32 (.pointer (some p)) (.pointer none)).run Try.prog W = .ok (.bool false) W := run_nilP _))
  have hnew : One9 RB w p M [] 0 0 B W2 := ⟨T2, fun k hk => Nat.le_trans hb1.size (hB2 k hk), stp hb1 hb2⟩
  clear T2 hB2 hb1 hb2 he
  go_loopw [9] (fun i_ W => ∃ (j : Nat) (L : List Rt) (full : Int) (B : Nat → Prop), j ≤ n ∧ i_ = .int .i64 j ∧ Hid (One9 RB w p M L full j B W)) (fun i_ _ => n - (intOf i_).toNat)
  case atStart => exact ⟨0, [], 0, B, Nat.zero_le _, rfl, hnew⟩
  case round =>
    clear hnew
    obtain ⟨j, L, full, B, hj, rfl, HB⟩ := hrel
    by_cases hlt : j < n
    · have hlt' : (j : Int) < (n : Int) := by omega
      obtain ⟨⟨ck, ca, cl, cd, cs, cm, cn, ct⟩, b, off, he, hok, rfl, q5⟩ := HR.out.at hlt
      have HOK : Hid (Rt.Ok ⟨ca, cl, cd, cs, cm, cn, ct⟩) := ⟨hok.a0, hok.a1, hok.l0, hok.l1, hok.d0, hok.d1, hok.s0, hok.s1, hok.m0, hok.m1, hok.n0, hok.n1, hok.t0, hok.t1⟩
      have HQ : Hid (∀ W, Below w.heap.size w W → _) := fun W hb => (q5.later (W' := W) hb).zz
      obtain ⟨d0, d1, d2, d3, d4, d5, d6, d7⟩ := HQ.out wr HB.out.b
      have hj150 : j ≤ 150 := by omega
      clear hok q5 he
      by_cases hk1 : ck = 1
      · subst hk1
        go_wp2
        go_region_held3 (fun w' => w'.cell? ⟨b, off + j * 8 + 1, none⟩ = some (.int .u32 ca) ∧ w'.cell? ⟨b, off + j * 8 + 2, none⟩ = some (.int .i64 cl) ∧ w'.cell? ⟨b, off + j * 8 + 3, none⟩ = some (.int .i64 cd)) (first | exact ⟨e1, e2, e3⟩ | exact ⟨d1, d2, d3⟩)
          ((go_at_call 19; refine (HC.out.take ca cl cd (HB.out.later HC.out (Below.refl _ _).drew).t (by omega) HOK.out.a0 HOK.out.a1 HOK.out.l0 HOK.out.l1 HOK.out.d0 HOK.out.d1).mono ?_; intro e W1 hd; obtain ⟨rfl, B1, hB1⟩ := (HB.out.later HC.out (Below.refl _ _).drew).step hd; obtain ⟨-, e1, e2, e3, -⟩ := HQ.out W1 hB1.b))
        all_goals
          go_wp2
          go_roundw
          case rel => exact ⟨j + 1, _, _, B1, by omega, by go_num, hB1⟩
          case measure => simp [intOf]; omega
      · have hk1' : (ck == 1) = false := by simpa using hk1
        go_wp2_with (go_at_call 17; refine (HC.out.put ⟨ca, cl, cd, cs, cm, cn, ct⟩ HB.out.t (by omega) HOK.out).mono ?_; intro e W1 hd; obtain ⟨rfl, B1, hB1⟩ := HB.out.step hd)
        go_roundw
        case rel => exact ⟨j + 1, _, _, B1, by omega, by go_num, hB1⟩
        case measure => simp [intOf]; omega
    · have hlt' : ¬ (j : Int) < (n : Int) := by omega
      obtain rfl : j = n := by omega
      obtain ⟨hg, hrts, hlen, hmm, -⟩ := HC.out.good HB.out.t
      have HG : Hid (GoodR L) := hg
      have HRt : Hid (Rts L) := hrts
      obtain ⟨nl, hnl⟩ : ∃ k, L.length = k := ⟨_, rfl⟩
      have HNL : Hid (L.length = nl) := hnl
      have h64 : ¬ (64 : Int) < (nl : Int) := by have := hM64.out.1; omega
      have hmost : (0 : Int) < (nl : Int) → ¬ most < (nl : Int) := fun h => by have := hM64.out.2; omega
      have Hmost : Hid ((0 : Int) < (nl : Int) → ¬ most < (nl : Int)) := hmost
      have hcur : One9 RB w p M L full j B wr := HB.out
      clear hg hrts hlen hmm hnl hmost
      have hpos : ((0 : Int) < (nl : Int) ∧ ¬ most < (nl : Int)) ∨ ¬ (0 : Int) < (nl : Int) := by
        by_cases h : (0 : Int) < (nl : Int)
        · exact .inl ⟨h, Hmost.out h⟩
        · exact .inr h
      cases hf : findR cx L with
      | none =>
        have HF : Hid (ansR (findR cx L) = .tuple #[valR 0 0 0 0 0 0 0, .bool false]) := by unfold Hid; rw [hf]; rfl
        have HNo : Hid (∀ y ∈ L, hasB y.a y.l cx = false) := findR_none hf
        clear hf
        rcases hpos with ⟨hp0, hp1⟩ | hp0
        · go_wp2_with (first
            | (go_at_call 25; refine (HC.out.find cx hcur.t (by omega) cx0 cx1).mono ?_; rw [HF.out]; rintro e V1 ⟨rfl, hb1⟩; have hcur := (hcur.later HC.out hb1).later HC.out (below1 _ (objR 0 0 0 0 0 0 0)))
            | (go_at_call 22; refine (HC.out.all hcur.t (by omega)).mono ?_; rintro e V4 ⟨a4, n4, c4, rfl, own4, hb4⟩; have hcur := hcur.later HC.out hb4; obtain rfl : nl = n4 := HNL.out.symm.trans own4.len))
          have HRow : Hid (RowR V4 a4 nl L) := own4.row HRt.out
          have HBV : Hid (Below w.heap.size w V4) := hcur.b
          clear own4 hb4 hb1 hcur HB hp0
          clear hp1
          go_loopw [13] (fun i_ W => ∃ (e : Nat), e ≤ nl ∧ i_ = .int .i64 e ∧ Below V4.heap.size V4 W) (fun i_ _ => nl - (intOf i_).toNat)
          case atStart => exact ⟨0, Nat.zero_le _, rfl, Below.refl _ _⟩
          case round =>
            obtain ⟨e, he, rfl, hBV⟩ := hrel
            by_cases hle : e < nl
            · have hle' : (e : Int) < (nl : Int) := by omega
              have hnl64 : nl ≤ 64 := by omega
              obtain ⟨⟨xa, xl, xd, xs, xm, xn, xt⟩, b, off, hx, hok, rfl, q7⟩ := (HRow.out.later hBV).at hle
              have xa0 : 0 ≤ xa := hok.a0
              have xa1 : xa < 4294967296 := hok.a1
              have HU : Hid (hasB xa xl cx = false) := HNo.out _ (List.mem_of_getElem? hx)
              obtain ⟨d0, d1, -⟩ := q7
              simp only at d0 d1
              have k0 := cell_regrown d0
              have k1 := cell_regrown d1
              clear hx hok
              go_wp2
              refine wp_region_quiet_below (by kernel_rfl) (by kernel_rfl) ?_
              repeat (go_big_quiet_step ((go_at_call 28; exact Calls.regrown_of (has_any _ _ _ _ xa0 xa1 cx0 cx1 HU.out))))
              refine wpQuiet_nil ?_
              intro _ hw'
              obtain ⟨⟨dq, osq⟩, hw''⟩ := hw'
              subst hw''
              go_wp2
              go_roundw
              case rel => exact ⟨e + 1, by omega, by go_num, stp hBV (below_regrown _ dq osq)⟩
              case measure => simp [intOf]; omega
            · have hle' : ¬ (e : Int) < (nl : Int) := by omega
              go_wp2
              go_ret
              exact ⟨rfl, stp HBV.out hBV⟩
        · obtain rfl : nl = 0 := by omega
          go_wp2_with (first
            | (go_at_call 25; refine (HC.out.find cx hcur.t (by omega) cx0 cx1).mono ?_; rw [HF.out]; rintro e V1 ⟨rfl, hb1⟩; have hcur := (hcur.later HC.out hb1).later HC.out (below1 _ (objR 0 0 0 0 0 0 0)))
            | (go_at_call 22; refine (HC.out.all hcur.t (by omega)).mono ?_; rintro e V4 ⟨a4, n4, c4, rfl, own4, hb4⟩; have hcur := hcur.later HC.out hb4; obtain rfl : 0 = n4 := HNL.out.symm.trans own4.len))
          have HRow : Hid (RowR V4 a4 0 L) := own4.row HRt.out
          have HBV : Hid (Below w.heap.size w V4) := hcur.b
          clear own4 hb4 hb1 hcur HB hp0
          go_loopw [13] (fun i_ W => ∃ (e : Nat), e ≤ 0 ∧ i_ = .int .i64 e ∧ Below V4.heap.size V4 W) (fun i_ _ => 0 - (intOf i_).toNat)
          case atStart => exact ⟨0, Nat.zero_le _, rfl, Below.refl _ _⟩
          case round =>
            obtain ⟨e, he, rfl, hBV⟩ := hrel
            obtain rfl : e = 0 := by omega
            go_wp2
            go_ret
            exact ⟨rfl, stp HBV.out hBV⟩
      | some f =>
        obtain ⟨fm, fh, fmax, fbest⟩ := findR_some hf
        have hfk := HRt.out f fm
        obtain ⟨fa, fl, fd, fs, fme, fn, ft⟩ := f
        have HF : Hid (ansR (findR cx L) = .tuple #[valR fa fl fd fs fme fn ft, .bool true]) := by unfold Hid; rw [hf]; rfl
        have HFk : Hid (Rt.Ok ⟨fa, fl, fd, fs, fme, fn, ft⟩) := hfk
        have fa0 : 0 ≤ fa := hfk.a0
        have fa1 : fa < 4294967296 := hfk.a1
        have HHas : Hid (hasB fa fl cx = true) := fh
        have HMax : Hid (∀ y ∈ L, hasB y.a y.l cx = true → y.l ≤ fl) := fmax
        have HBest : Hid (∀ y ∈ L, y.of fa fl → bet y ⟨fa, fl, fd, fs, fme, fn, ft⟩ = false) := fun y hy ho => bet_false.2 (fbest y hy ho)
        clear hf fm fh fmax fbest hfk
        rcases hpos with ⟨hp0, hp1⟩ | hp0
        · go_wp2_with (first
            | (go_at_call 25; refine (HC.out.find cx hcur.t (by omega) cx0 cx1).mono ?_; rw [HF.out]; rintro e V1 ⟨rfl, hb1⟩; have hcur := (hcur.later HC.out hb1).later HC.out (below1 _ (objR fa fl fd fs fme fn ft)))
            | (go_at_call 22; refine (HC.out.all hcur.t (by omega)).mono ?_; rintro e V4 ⟨a4, n4, c4, rfl, own4, hb4⟩; have hcur := hcur.later HC.out hb4; obtain rfl : nl = n4 := HNL.out.symm.trans own4.len; have HR4 : Hid (R7 V4 V1.heap.size 0 ⟨fa, fl, fd, fs, fme, fn, ft⟩) := (R7.new V1 fa fl fd fs fme fn ft).later hb4; obtain ⟨g0, g1, -⟩ := HR4.out.z)
            | (go_at_call 28; refine (has_any _ _ _ _ fa0 fa1 cx0 cx1 HHas.out).mono ?_; rintro e V5 ⟨rfl, hb5⟩; have hcur := hcur.later HC.out hb5))
          have HRow : Hid (RowR V5 a4 nl L) := (own4.later hb5).row HRt.out
          have HBV : Hid (Below w.heap.size w V5) := hcur.b
          have HRx : Hid (R7 V5 V1.heap.size 0 ⟨fa, fl, fd, fs, fme, fn, ft⟩) := HR4.out.later hb5
          clear own4 hb4 hb1 hb5 hcur HB g0 g1 HR4 hp0
          clear hp1
          go_loopw [13] (fun i_ W => ∃ (e : Nat), e ≤ nl ∧ i_ = .int .i64 e ∧ Below V5.heap.size V5 W) (fun i_ _ => nl - (intOf i_).toNat)
          case atStart => exact ⟨0, Nat.zero_le _, rfl, Below.refl _ _⟩
          case round =>
            obtain ⟨e, he, rfl, hBV⟩ := hrel
            by_cases hle : e < nl
            · have hle' : (e : Int) < (nl : Int) := by omega
              have hnl64 : nl ≤ 64 := by omega
              obtain ⟨⟨xa, xl, xd, xs, xm, xn, xt⟩, b, off, hx, hok, rfl, q7⟩ := (HRow.out.later hBV).at hle
              have xa0 : 0 ≤ xa := hok.a0
              have xa1 : xa < 4294967296 := hok.a1
              have hxm := List.mem_of_getElem? hx
              obtain ⟨u, hu⟩ : ∃ u, hasB xa xl cx = u := ⟨_, rfl⟩
              have HU : Hid (hasB xa xl cx = u) := hu
              have HMe : Hid (u = true → decide (fl < xl) = false) := fun h => decide_eq_false (by have := HMax.out _ hxm (by rw [← h]; exact hu); simp only at this; omega)
              obtain ⟨v, hv⟩ : ∃ v, (xa == fa && xl == fl) = v := ⟨_, rfl⟩
              have hp := run_eqP xa xl fa fl v hv
              have HBt : Hid (v = true → ∀ W, Calls Try.prog 13 #[valR xa xl xd xs xm xn xt, valR fa fl fd fs fme fn ft] W fun e w' => e = .returned (.bool false) ∧ Below W.heap.size W w') := fun h W => by
                rw [h] at hv
                simp only [Bool.and_eq_true, beq_iff_eq] at hv
                have := HC.out.better ⟨xa, xl, xd, xs, xm, xn, xt⟩ ⟨fa, fl, fd, fs, fme, fn, ft⟩ W hok HFk.out
                rw [HBest.out _ hxm hv] at this
                exact this
              obtain ⟨d0, d1, d2, d3, d4, d5, d6⟩ := q7
              simp only at d0 d1 d2 d3 d4 d5 d6
              obtain ⟨g0, g1, g2, g3, g4, g5, g6⟩ := (HRx.out.later hBV).z
              have k0 := cell_regrown d0
              have k1 := cell_regrown d1
              have k2 := cell_regrown d2
              have k3 := cell_regrown d3
              have k4 := cell_regrown d4
              have k5 := cell_regrown d5
              have k6 := cell_regrown d6
              have m0 := cell_regrown g0
              have m1 := cell_regrown g1
              have m2 := cell_regrown g2
              have m3 := cell_regrown g3
              have m4 := cell_regrown g4
              have m5 := cell_regrown g5
              have m6 := cell_regrown g6
              clear hx hok hu hxm hv
              cases u <;> cases v
              all_goals
                first
                  | (have hcall := HBt.out rfl; clear HBt)
                  | (have hcall := True.intro)
                first
                  | (have hmx := HMe.out rfl; clear HMe)
                  | (have hmx := True.intro)
                go_wp2
                refine wp_region_quiet_below (by kernel_rfl) (by kernel_rfl) ?_
                repeat (go_big_quiet_step (first
                  | (go_at_call 28; exact Calls.regrown_of (has_any _ _ _ _ xa0 xa1 cx0 cx1 HU.out))
                  | (go_at_call 13; exact Calls.regrown_of (hcall _))))
                refine wpQuiet_nil ?_
                intro _ hw'
                obtain ⟨⟨dq, osq⟩, hw''⟩ := hw'
                subst hw''
                go_wp2
                go_roundw
                case rel => exact ⟨e + 1, by omega, by go_num, stp hBV (below_regrown _ dq osq)⟩
                case measure => simp [intOf]; omega
            · have hle' : ¬ (e : Int) < (nl : Int) := by omega
              go_wp2
              go_ret
              exact ⟨rfl, stp HBV.out hBV⟩
        · obtain rfl : nl = 0 := by omega
          go_wp2_with (first
            | (go_at_call 25; refine (HC.out.find cx hcur.t (by omega) cx0 cx1).mono ?_; rw [HF.out]; rintro e V1 ⟨rfl, hb1⟩; have hcur := (hcur.later HC.out hb1).later HC.out (below1 _ (objR fa fl fd fs fme fn ft)))
            | (go_at_call 22; refine (HC.out.all hcur.t (by omega)).mono ?_; rintro e V4 ⟨a4, n4, c4, rfl, own4, hb4⟩; have hcur := hcur.later HC.out hb4; obtain rfl : 0 = n4 := HNL.out.symm.trans own4.len; have HR4 : Hid (R7 V4 V1.heap.size 0 ⟨fa, fl, fd, fs, fme, fn, ft⟩) := (R7.new V1 fa fl fd fs fme fn ft).later hb4; obtain ⟨g0, g1, -⟩ := HR4.out.z)
            | (go_at_call 28; refine (has_any _ _ _ _ fa0 fa1 cx0 cx1 HHas.out).mono ?_; rintro e V5 ⟨rfl, hb5⟩; have hcur := hcur.later HC.out hb5))
          have HRow : Hid (RowR V5 a4 0 L) := (own4.later hb5).row HRt.out
          have HBV : Hid (Below w.heap.size w V5) := hcur.b
          have HRx : Hid (R7 V5 V1.heap.size 0 ⟨fa, fl, fd, fs, fme, fn, ft⟩) := HR4.out.later hb5
          clear own4 hb4 hb1 hb5 hcur HB g0 g1 HR4 hp0
          go_loopw [13] (fun i_ W => ∃ (e : Nat), e ≤ 0 ∧ i_ = .int .i64 e ∧ Below V5.heap.size V5 W) (fun i_ _ => 0 - (intOf i_).toNat)
          case atStart => exact ⟨0, Nat.zero_le _, rfl, Below.refl _ _⟩
          case round =>
            obtain ⟨e, he, rfl, hBV⟩ := hrel
            obtain rfl : e = 0 := by omega
            go_wp2
            go_ret
            exact ⟨rfl, stp HBV.out hBV⟩
end
end Go.Proofs.Ytcabeclbdjfoaaa
