/- The law RibDoes over what is asked of the program's table. -/
import Derived.Test.YtcabeclbdjfoaaaLawS
import Derived.Test.YtcabeclbdjfoaaaRowO
import Derived.Deep.Cut
import Derived.Deep.CutRange
import Derived.Deep.CutBlock
namespace Go.Proofs.Ytcabeclbdjfoaaa
open Go.RowKit

section
variable {RB : World → (Nat → Prop) → Addr → Int → List Rt → Int → Nat → Prop}
/-- The program's table and the document's, which share no block. -/
structure Both9 (RB : World → (Nat → Prop) → Addr → Int → List Rt → Int → Nat → Prop) (w : World) (N : Nat) (p : Addr) (most : Int) (L L' : List Rt) (full full' : Int) (m : Nat) (B : Nat → Prop) (v : Value) (W : World) : Prop where
  t : RB W B p most L full m
  r : RefB W N v most L' full'
  d : ∀ k, B k → w.heap.size ≤ k ∧ ¬ fpB N v k
  n : w.heap.size ≤ N
  b : Below w.heap.size w W
variable {w : World} {N : Nat} {p : Addr} {most : Int} {L L' L2 : List Rt} {full full' full2 : Int} {m m2 : Nat} {B : Nat → Prop} {v : Value} {W W1 : World} {x : Int} {e : Ending}
theorem Both9.later (C : RibC RB) (h : Both9 RB w N p most L L' full full' m B v W) (hb : Below W.heap.size W W1) : Both9 RB w N p most L L' full full' m B v W1 :=
  ⟨C.later h.t hb, h.r.later hb, h.d, h.n, stp h.b hb⟩
theorem Both9.up (C : RibC RB) (h : Both9 RB w N p most L L' full full' m B v W) : Both9 RB w N p most L L' full full' (m + 1) B v W := ⟨C.up h.t, h.r, h.d, h.n, h.b⟩
theorem fpB_lt (h : RefB W N v most L full) {k : Nat} (hk : fpB N v k) : k < W.heap.size := by
  rcases hk with rfl | hk
  · exact h.lt
  · exact h.own.own_lt hk
theorem Both9.stepT (h : Both9 RB w N p most L L' full full' m B v W) (hd : DoneC RB W B p most L2 full2 m2 x e W1) :
    e = .returned (.int .i64 x) ∧ ∃ B1, Both9 RB w N p most L2 L' full2 full' m2 B1 v W1 := by
  obtain ⟨B1, rfl, h1, h2, h3⟩ := hd
  refine ⟨rfl, B1, h1, h.r.keep h3 (fun k hk hb => (h.d k hb).2 hk), fun k hk => ?_, h.n, h.b.trans (h3.below (fun i _ hi => (h.d i hi).1) h.b.size)⟩
  rcases h2 k hk with hk | hk
  · exact h.d k hk
  · exact ⟨Nat.le_trans h.b.size hk, fun hf => by have := fpB_lt h.r hf; omega⟩
theorem Both9.stepR (C : RibC RB) (h : Both9 RB w N p most L L' full full' m B v W) (hd : DoneB W N v most L2 full2 x e W1) :
    e = .returned (.int .i64 x) ∧ ∃ v1, Both9 RB w N p most L L2 full full2 m B v1 W1 := by
  obtain ⟨v1, rfl, h1, h2, h3⟩ := hd
  refine ⟨rfl, v1, C.keep h.t h3 (fun k hk hf => (h.d k hk).2 hf), h1, fun k hk => ⟨(h.d k hk).1, fun hf => ?_⟩, h.n, h.b.trans (h3.below (fun i _ hi => ?_) h.b.size)⟩
  · rcases hf with rfl | hf
    · exact (h.d k hk).2 (.inl rfl)
    · rcases h2 k hf with hf | hf
      · exact (h.d k hk).2 (.inr hf)
      · have := C.lt h.t k hk; omega
  · rcases hi with rfl | hi
    · exact h.n
    · have := h.r.own.lt i hi; have := h.n; omega
theorem Both9.new (h : RB W B p most [] 0 0) (hl : ∀ k, B k → k < W.heap.size) (C : RibC RB) (hB : ∀ k, B k → w.heap.size ≤ k) (hb : Below w.heap.size w W) (hr : RefB W1 W.heap.size (.slice none 0 0) most [] 0) (hb1 : Below W.heap.size W W1) : Both9 RB w W.heap.size p most [] [] 0 0 0 B (.slice none 0 0) W1 :=
  ⟨C.later h hb1, hr, fun k hk => ⟨hB k hk, fun hf => by
    rcases hf with rfl | hf
    · have := hl _ hk; omega
    · cases hf⟩, hb.size, stp hb hb1⟩
theorem O8.z' {b o : Nat} {k a l d s m n t : Int} (h : O8 W b o ⟨k, a, l, d, s, m, n, t⟩) : W.cell? ⟨b, o, none⟩ = some (.int .i64 k) ∧ W.cell? ⟨b, o + 1, none⟩ = some (.int .u32 a) ∧ W.cell? ⟨b, o + 2, none⟩ = some (.int .i64 l) ∧ W.cell? ⟨b, o + 3, none⟩ = some (.int .i64 d) ∧ W.cell? ⟨b, o + 4, none⟩ = some (.int .i64 s) ∧ W.cell? ⟨b, o + 5, none⟩ = some (.int .i64 m) ∧ W.cell? ⟨b, o + 6, none⟩ = some (.int .i64 n) ∧ W.cell? ⟨b, o + 7, none⟩ = some (.int .u16 t) := h
end
section
variable {RB : World → (Nat → Prop) → Addr → Int → List Rt → Int → Nat → Prop}
set_option maxRecDepth 100000 in
set_option maxHeartbeats 8000000 in
theorem law_ribdoes (C : RibC RB) (most : Int) (ad : Option Addr) (n cap : Nat) (cs : List Op) (cx : Int) (w : World) (hm0 : -9223372036854775808 ≤ most) (hm1 : most ≤ 9223372036854775807) (hr : RowO w ad n cs) (cx0 : 0 ≤ cx) (cx1 : cx < 4294967296) :
    Calls Try.prog 4 #[.int .i64 most, .slice ad n cap, .int .u32 cx] w fun e w' => e = .returned (.bool true) ∧ Below w.heap.size w w' := by
  have HC : Hid (RibC RB) := C
  have HR : Hid (RowO w ad n cs) := hr
  obtain ⟨M, hM⟩ : ∃ M, min most 64 = M := ⟨_, rfl⟩
  have HMm : Hid (min most 64 = M) := hM
  have hM64 : Hid (M ≤ 64) := by unfold Hid; omega
  clear C hr hM
  by_cases hn : n ≤ 150
  case neg =>
    have hn' : (150 : Int) < (n : Int) := by omega
    go_enter Try.func4, Try.ntmps4
    go_wp2_with (first
      | (go_at_call 11; refine (awake_any HC.out _).mono ?_; rintro e W1 ⟨rfl, hb1⟩)
      | (go_at_call 15; refine (HC.out.new most _ hm0 hm1).mono ?_; rintro e W2 ⟨p, B, rfl, T2, hB2, hb2⟩; have he : ∀ W : World, (binOp .eql 32 (.pointer (some p)) (.pointer none)).run Try.prog W = .ok (.bool false) W := run_nilP _; have he' : ∀ W : World, (binOp .neq 32 (.pointer (some p)) (.pointer none)).run Try.prog W = .ok (.bool true) W := run_nilN _))
    go_ret
    exact ⟨rfl, stp hb1 hb2⟩
  have hn' : ¬ (150 : Int) < (n : Int) := by omega
  go_enter Try.func4, Try.ntmps4
  go_wp2_with (first
    | (go_at_call 11; refine (awake_any HC.out _).mono ?_; rintro e W1 ⟨rfl, hb1⟩)
    | (go_at_call 15; refine (HC.out.new most _ hm0 hm1).mono ?_; rw [HMm.out]; rintro e W2 ⟨p, B, rfl, T2, hB2, hb2⟩; have he : ∀ W : World, (binOp .eql 32 (.pointer (some p)) (.pointer none)).run Try.prog W = .ok (.bool false) W := run_nilP _)
    | (go_at_call 16; refine (refNewR_any most _ hm0 hm1).mono ?_; rw [HMm.out]; rintro e W3 ⟨rfl, hr3, hb3⟩; have hnew := Both9.new (w := w) T2 (HC.out.lt T2) HC.out (fun k hk => Nat.le_trans hb1.size (hB2 k hk)) (stp hb1 hb2) hr3 hb3))
  obtain ⟨N, hN⟩ : ∃ N, N = W2.heap.size := ⟨_, rfl⟩
  rw [← hN] at hnew ⊢
  clear hN T2 hB2 hb1 hb2 he hr3 hb3
  go_loopw [10] (fun i_ W => ∃ (j : Nat) (L : List Rt) (full : Int) (B : Nat → Prop) (v : Value), j ≤ n ∧ i_ = .int .i64 j ∧ Hid (Both9 RB w N p M L L full full j B v W)) (fun i_ _ => n - (intOf i_).toNat)
  case atStart => exact ⟨0, [], 0, B, _, Nat.zero_le _, rfl, hnew⟩
  case round =>
    clear hnew
    obtain ⟨j, L, full, B, v, hj, rfl, HB⟩ := hrel
    by_cases hlt : j < n
    · have hlt' : (j : Int) < (n : Int) := by omega
      obtain ⟨⟨ck, ca, cl, cd, cs, cm, cn, ct⟩, b, off, he, hok, rfl, q5⟩ := HR.out.at hlt
      have HOK : Hid (Rt.Ok ⟨ca, cl, cd, cs, cm, cn, ct⟩) := ⟨hok.a0, hok.a1, hok.l0, hok.l1, hok.d0, hok.d1, hok.s0, hok.s1, hok.m0, hok.m1, hok.n0, hok.n1, hok.t0, hok.t1⟩
      have HQ : Hid (∀ W, Below w.heap.size w W → _) := fun W hb => (q5.later (W' := W) hb).z'
      obtain ⟨d0, d1, d2, d3, d4, d5, d6, d7⟩ := HQ.out wr HB.out.b
      have hj150 : j ≤ 150 := by omega
      clear hok q5 he
      have HLn : Hid (L.length ≤ 1000) := Nat.le_trans (HC.out.good HB.out.t).2.2.1 (by omega)
      have HFl : Hid (0 ≤ full ∧ full ≤ 1000000) := ⟨(HC.out.good HB.out.t).2.2.2.2.1, by have := (HC.out.good HB.out.t).2.2.2.2.2; omega⟩
      go_upto_if 53 with fail
      go_cut [11] from 42 to 179 (fun s11 wx => s11 = .bool true ∧ ((ck = 0 ∧ ∃ L2 f2 B2 v2, Both9 RB w N p M L2 L2 f2 f2 (j + 1) B2 v2 wx) ∨ (ck ≠ 0 ∧ Both9 RB w N p M L L full full j B v wx)))
      case first =>
        by_cases hk0 : ck = 0
        · subst hk0
          go_wp2
          go_region_held3 (fun w' => w'.cell? ⟨b, off + j * 8 + 1, none⟩ = some (.int .u32 ca) ∧ w'.cell? ⟨b, off + j * 8 + 2, none⟩ = some (.int .i64 cl) ∧ w'.cell? ⟨b, off + j * 8 + 3, none⟩ = some (.int .i64 cd) ∧ w'.cell? ⟨b, off + j * 8 + 4, none⟩ = some (.int .i64 cs) ∧ w'.cell? ⟨b, off + j * 8 + 5, none⟩ = some (.int .i64 cm) ∧ w'.cell? ⟨b, off + j * 8 + 6, none⟩ = some (.int .i64 cn) ∧ w'.cell? ⟨b, off + j * 8 + 7, none⟩ = some (.int .u16 ct)) (first | exact ⟨d1, d2, d3, d4, d5, d6, d7⟩ | exact ⟨e1, e2, e3, e4, e5, e6, e7⟩ | exact ⟨f1, f2, f3, f4, f5, f6, f7⟩)
            ((first
              | (go_at_call 17; refine (HC.out.put ⟨ca, cl, cd, cs, cm, cn, ct⟩ (HB.out.later HC.out (Below.refl _ _).drew).t (by omega) HOK.out).mono ?_; intro e W1 hd; obtain ⟨rfl, B1, hB1⟩ := (HB.out.later HC.out (Below.refl _ _).drew).stepT hd; obtain ⟨-, e1, e2, e3, e4, e5, e6, e7⟩ := HQ.out W1 hB1.b)
              | (go_at_call 18; refine (refPutR_any N v M L full ca cl cd cs cm cn ct _ hB1.r HLn.out HFl.out.1 HFl.out.2 HOK.out).mono ?_; intro e W2 hd2; obtain ⟨rfl, v2, hB2⟩ := hB1.stepR HC.out hd2; obtain ⟨-, f1, f2, f3, f4, f5, f6, f7⟩ := HQ.out W2 hB2.b)))
          all_goals
            go_wp2
            go_meet
            exact ⟨rfl, .inl ⟨trivial, _, _, _, _, hB2⟩⟩
        · have hk0' : (ck == 0) = false := by simpa using hk0
          go_wp2
          go_meet
          exact ⟨rfl, .inr ⟨hk0, HB.out⟩⟩
      case rest =>
        obtain ⟨rfl, hc1⟩ := hcut
        clear d0 d1 d2 d3 d4 d5 d6 d7
        have HC1 : Hid (_) := hc1
        have hb1 : Below w.heap.size w wc := by rcases hc1 with ⟨-, L2, f2, B2, v2, h⟩ | ⟨-, h⟩ <;> exact h.b
        obtain ⟨d0, d1, d2, d3, d4, d5, d6, d7⟩ := HQ.out wc hb1
        clear hc1 HB
        go_upto_if 74 with fail
        go_cut [11] from 42 to 179 (fun s11 wx => s11 = .bool true ∧ ∃ L2 f2 B2 v2, Both9 RB w N p M L2 L2 f2 f2 (j + 1) B2 v2 wx)
        case first =>
          rcases HC1.out with ⟨rfl, L2, f2, B2, v2, h2⟩ | ⟨hk0, hB⟩
          · have HB2 : Hid (Both9 RB w N p M L2 L2 f2 f2 (j + 1) B2 v2 wc) := h2
            clear h2
            go_wp2
            go_meet
            exact ⟨rfl, _, _, _, _, HB2.out⟩
          · have HB : Hid (Both9 RB w N p M L L full full j B v wc) := hB
            clear hB
            by_cases hk1 : ck = 1
            · subst hk1
              go_wp2
              go_region_held3 (fun w' => w'.cell? ⟨b, off + j * 8 + 1, none⟩ = some (.int .u32 ca) ∧ w'.cell? ⟨b, off + j * 8 + 2, none⟩ = some (.int .i64 cl) ∧ w'.cell? ⟨b, off + j * 8 + 3, none⟩ = some (.int .i64 cd)) (first | exact ⟨d1, d2, d3⟩ | exact ⟨e1, e2, e3⟩ | exact ⟨f1, f2, f3⟩)
                ((first
                  | (go_at_call 19; refine (HC.out.take ca cl cd (HB.out.later HC.out (Below.refl _ _).drew).t (by omega) HOK.out.a0 HOK.out.a1 HOK.out.l0 HOK.out.l1 HOK.out.d0 HOK.out.d1).mono ?_; intro e W1 hd; obtain ⟨rfl, B1, hB1⟩ := (HB.out.later HC.out (Below.refl _ _).drew).stepT hd; obtain ⟨-, e1, e2, e3, -⟩ := HQ.out W1 hB1.b)
                  | (go_at_call 20; refine (refTakeR_any N v M L full ca cl cd _ hB1.r HLn.out).mono ?_; intro e W2 hd2; obtain ⟨rfl, v2, hB2⟩ := hB1.stepR HC.out hd2; obtain ⟨-, f1, f2, f3, -⟩ := HQ.out W2 hB2.b)))
              all_goals
                go_wp2
                go_meet
                exact ⟨rfl, _, _, _, _, hB2⟩
            · have hk1' : (ck == 1) = false := by simpa using hk1
              go_wp2
              go_meet
              exact ⟨rfl, _, _, _, _, HB.out.up HC.out⟩
        case rest =>
          obtain ⟨rfl, L2, f2, B2, v2, hB2⟩ := hcut
          have HB2 : Hid (Both9 RB w N p M L2 L2 f2 f2 (j + 1) B2 v2 wc) := hB2
          clear d0 d1 d2 d3 d4 d5 d6 d7 HC1 hb1 hB2 HLn HFl
          obtain ⟨ad2, cp2, rfl⟩ := HB2.out.r.own.shape
          obtain ⟨n2, hn2⟩ : ∃ n2, L2.length = n2 := ⟨_, rfl⟩
          have HN2 : Hid (L2.length = n2) := hn2
          have hn2' : n2 ≤ 151 := by rw [← hn2]; exact Nat.le_trans (HC.out.good HB2.out.t).2.2.1 (by omega)
          have HL2 : Hid (L2.length ≤ 1000) := by unfold Hid; rw [hn2]; omega
          rw [hn2] at HB2
          clear hn2
          obtain ⟨-, d1, d2, -⟩ := HQ.out wc HB2.out.b
          have z1 := HB2.out.r.2.1
          obtain ⟨⟨ba, bl, bd, bs, bm, bn, bt⟩, hbr⟩ : ∃ r, (bestR ca cl L2 none).getD rt0 = r := ⟨_, rfl⟩
          obtain ⟨bo, hbo⟩ : ∃ b, (bestR ca cl L2 none).isSome = b := ⟨_, rfl⟩
          have HBe : Hid (ansR (bestR ca cl L2 none) = .tuple #[valR ba bl bd bs bm bn bt, .bool bo]) := by unfold Hid ansR; rw [hbr, hbo]; rfl
          obtain ⟨⟨fa, fl, fd, fs, fm, fn, ft⟩, hfr⟩ : ∃ r, (findR cx L2).getD rt0 = r := ⟨_, rfl⟩
          obtain ⟨fo, hfo⟩ : ∃ b, (findR cx L2).isSome = b := ⟨_, rfl⟩
          have HFi : Hid (ansR (findR cx L2) = .tuple #[valR fa fl fd fs fm fn ft, .bool fo]) := by unfold Hid ansR; rw [hfr, hfo]; rfl
          clear hbr hbo hfr hfo
          go_wp2
          go_region_held3 (fun w' => w'.cell? ⟨N, 1, none⟩ = some (.slice ad2 n2 cp2)) (first | exact z1 | exact z6 | exact z7)
            ((first
              | (go_at_call 22; refine (HC.out.all (HB2.out.later HC.out (Below.refl _ _).drew).t (by omega)).mono ?_; rintro e W6 ⟨a6, n6, c6, rfl, own6, hb6⟩; have row6 := own6.row (HC.out.good HB2.out.t).2.1; have hn6 : n6 = n2 := (own6.len.symm.trans HN2.out); subst hn6; clear own6; have hb6 : Below wc.heap.size wc W6 := ((Below.refl _ _).drew).trans hb6; have hB6 := HB2.out.later HC.out hb6; have z6 := hB6.r.2.1)
              | (go_at_call 21; refine (same_any _ _ _ _ _ L2 _ row6 (by have h := hB6.r.own; rw [HN2.out] at h; exact h.row hB6.r.ok) (by omega)).mono ?_; rintro e W7 ⟨rfl, hb7⟩; have hB7 := hB6.later HC.out hb7; have z7 := hB7.r.2.1)))
          all_goals
            have HB7 : Hid (Both9 RB w N p M L2 L2 f2 f2 (j + 1) B2 (.slice ad2 n6 cp2) W7) := hB7
            obtain ⟨-, d1, d2, -⟩ := HQ.out W7 hB7.b
            rename_i hHeld
            clear hHeld hb6 hb7 hB6 hB7 z1 z6 z7 row6
            go_wp2_with (first
              | (go_at_call 23; refine (HC.out.best ca cl HB7.out.t (by omega) HOK.out.a0 HOK.out.a1 HOK.out.l0 HOK.out.l1).mono ?_; rw [HBe.out]; rintro e W8 ⟨rfl, hb8⟩; have hB8 := (HB7.out.later HC.out hb8).later HC.out (below1 _ (objR ba bl bd bs bm bn bt)); obtain ⟨-, d1, d2, -⟩ := HQ.out _ hB8.b; have x8 := R7.new W8 ba bl bd bs bm bn bt)
              | (go_at_call 24; refine (refBest_any N _ M L2 f2 ca cl _ hB8.r HL2.out).mono ?_; rw [HBe.out]; rintro e W9 ⟨rfl, hb9⟩; have hB9 := (hB8.later HC.out hb9).later HC.out (below1 _ (objR ba bl bd bs bm bn bt)); have y8 := (x8.later hb9).later (below1 _ (objR ba bl bd bs bm bn bt)); have y9 := R7.new W9 ba bl bd bs bm bn bt)
              | (go_at_call 25; refine (HC.out.find cx hB9.t (by omega) cx0 cx1).mono ?_; rw [HFi.out]; rintro e W10 ⟨rfl, hb10⟩; have hB10 := (hB9.later HC.out hb10).later HC.out (below1 _ (objR fa fl fd fs fm fn ft)); have u8 := (y8.later hb10).later (below1 _ (objR fa fl fd fs fm fn ft)); have u9 := (y9.later hb10).later (below1 _ (objR fa fl fd fs fm fn ft)); have u10 := R7.new W10 fa fl fd fs fm fn ft)
              | (go_at_call 26; refine (refFindR_any N _ M L2 f2 cx _ hB10.r HL2.out cx0 cx1).mono ?_; rw [HFi.out]; rintro e W11 ⟨rfl, hb11⟩; have HB11 : Hid (Both9 RB w N p M L2 L2 f2 f2 (j + 1) B2 (.slice ad2 n6 cp2) (W11.alloc (objR fa fl fd fs fm fn ft))) := (hB10.later HC.out hb11).later HC.out (below1 _ (objR fa fl fd fs fm fn ft)); have H8 : Hid (R7 (W11.alloc (objR fa fl fd fs fm fn ft)) W8.heap.size 0 ⟨ba, bl, bd, bs, bm, bn, bt⟩) := (u8.later hb11).later (below1 _ _); have H9 : Hid (R7 (W11.alloc (objR fa fl fd fs fm fn ft)) W9.heap.size 0 ⟨ba, bl, bd, bs, bm, bn, bt⟩) := (u9.later hb11).later (below1 _ _); have H10 : Hid (R7 (W11.alloc (objR fa fl fd fs fm fn ft)) W10.heap.size 0 ⟨fa, fl, fd, fs, fm, fn, ft⟩) := (u10.later hb11).later (below1 _ _); have H11 : Hid (R7 (W11.alloc (objR fa fl fd fs fm fn ft)) W11.heap.size 0 ⟨fa, fl, fd, fs, fm, fn, ft⟩) := R7.new W11 fa fl fd fs fm fn ft))
            obtain ⟨X, hX⟩ : ∃ X, X = W11.alloc (objR fa fl fd fs fm fn ft) := ⟨_, rfl⟩
            rw [← hX] at HB11 H8 H9 H10 H11 ⊢
            have z2 := HB11.out.r.2.2.1
            obtain ⟨p0, p1, p2, p3, p4, p5, p6⟩ := H8.out.z
            obtain ⟨q0, q1, q2, q3, q4, q5, q6⟩ := H9.out.z
            obtain ⟨r0, r1, r2, r3, r4, r5, r6⟩ := H10.out.z
            obtain ⟨s0, s1, s2, s3, s4, s5, s6⟩ := H11.out.z
            have eqB := run_neR ⟨ba, bl, bd, bs, bm, bn, bt⟩ ⟨ba, bl, bd, bs, bm, bn, bt⟩ true (by simp)
            have eqF := run_neR ⟨fa, fl, fd, fs, fm, fn, ft⟩ ⟨fa, fl, fd, fs, fm, fn, ft⟩ true (by simp)
            simp only [Bool.not_true] at eqB eqF
            have eq1 : (bo != bo) = false := by simp
            have eq2 : (fo != fo) = false := by simp
            have eq3 : (f2 != f2) = false := by simp
            clear hX hb8 hb9 hb10 hb11 hB8 hB9 hB10 x8 y8 y9 u8 u9 u10 d1 d2
            go_region_held3 (fun w' => w'.cell? ⟨N, 2, none⟩ = some (.int .i64 f2) ∧ w'.cell? ⟨W8.heap.size, 0, none⟩ = some (.int .u32 ba) ∧ w'.cell? ⟨W8.heap.size, 1, none⟩ = some (.int .i64 bl) ∧ w'.cell? ⟨W8.heap.size, 2, none⟩ = some (.int .i64 bd) ∧ w'.cell? ⟨W8.heap.size, 3, none⟩ = some (.int .i64 bs) ∧ w'.cell? ⟨W8.heap.size, 4, none⟩ = some (.int .i64 bm) ∧ w'.cell? ⟨W8.heap.size, 5, none⟩ = some (.int .i64 bn) ∧ w'.cell? ⟨W8.heap.size, 6, none⟩ = some (.int .u16 bt) ∧ w'.cell? ⟨W9.heap.size, 0, none⟩ = some (.int .u32 ba) ∧ w'.cell? ⟨W9.heap.size, 1, none⟩ = some (.int .i64 bl) ∧ w'.cell? ⟨W9.heap.size, 2, none⟩ = some (.int .i64 bd) ∧ w'.cell? ⟨W9.heap.size, 3, none⟩ = some (.int .i64 bs) ∧ w'.cell? ⟨W9.heap.size, 4, none⟩ = some (.int .i64 bm) ∧ w'.cell? ⟨W9.heap.size, 5, none⟩ = some (.int .i64 bn) ∧ w'.cell? ⟨W9.heap.size, 6, none⟩ = some (.int .u16 bt) ∧ w'.cell? ⟨W10.heap.size, 0, none⟩ = some (.int .u32 fa) ∧ w'.cell? ⟨W10.heap.size, 1, none⟩ = some (.int .i64 fl) ∧ w'.cell? ⟨W10.heap.size, 2, none⟩ = some (.int .i64 fd) ∧ w'.cell? ⟨W10.heap.size, 3, none⟩ = some (.int .i64 fs) ∧ w'.cell? ⟨W10.heap.size, 4, none⟩ = some (.int .i64 fm) ∧ w'.cell? ⟨W10.heap.size, 5, none⟩ = some (.int .i64 fn) ∧ w'.cell? ⟨W10.heap.size, 6, none⟩ = some (.int .u16 ft) ∧ w'.cell? ⟨W11.heap.size, 0, none⟩ = some (.int .u32 fa) ∧ w'.cell? ⟨W11.heap.size, 1, none⟩ = some (.int .i64 fl) ∧ w'.cell? ⟨W11.heap.size, 2, none⟩ = some (.int .i64 fd) ∧ w'.cell? ⟨W11.heap.size, 3, none⟩ = some (.int .i64 fs) ∧ w'.cell? ⟨W11.heap.size, 4, none⟩ = some (.int .i64 fm) ∧ w'.cell? ⟨W11.heap.size, 5, none⟩ = some (.int .i64 fn) ∧ w'.cell? ⟨W11.heap.size, 6, none⟩ = some (.int .u16 ft)) (first | exact ⟨z2, p0, p1, p2, p3, p4, p5, p6, q0, q1, q2, q3, q4, q5, q6, r0, r1, r2, r3, r4, r5, r6, s0, s1, s2, s3, s4, s5, s6⟩ | exact ⟨z3, P0, P1, P2, P3, P4, P5, P6, Q0, Q1, Q2, Q3, Q4, Q5, Q6, R0, R1, R2, R3, R4, R5, R6, S0, S1, S2, S3, S4, S5, S6⟩)
              ((go_at_call 27; refine (HC.out.refused (HB11.out.later HC.out (Below.refl _ _).drew).t (by omega)).mono ?_; rintro e W12 ⟨rfl, hb12⟩; have hb12 : Below X.heap.size X W12 := ((Below.refl _ _).drew).trans hb12; have hB12 := HB11.out.later HC.out hb12; have z3 := hB12.r.2.2.1; obtain ⟨P0, P1, P2, P3, P4, P5, P6⟩ := (H8.out.later hb12).z; obtain ⟨Q0, Q1, Q2, Q3, Q4, Q5, Q6⟩ := (H9.out.later hb12).z; obtain ⟨R0, R1, R2, R3, R4, R5, R6⟩ := (H10.out.later hb12).z; obtain ⟨S0, S1, S2, S3, S4, S5, S6⟩ := (H11.out.later hb12).z))
            all_goals
              clear z2 p0 p1 p2 p3 p4 p5 p6 q0 q1 q2 q3 q4 q5 q6 r0 r1 r2 r3 r4 r5 r6 s0 s1 s2 s3 s4 s5 s6
              go_wp2
              go_roundw
              case rel => exact ⟨j + 1, L2, f2, B2, _, by omega, by go_num, hB12⟩
              case measure => simp [intOf]; omega
    · have hlt' : ¬ (j : Int) < (n : Int) := by omega
      go_wp2
      go_ret
      exact ⟨rfl, HB.out.b⟩
end
end Go.Proofs.Ytcabeclbdjfoaaa
