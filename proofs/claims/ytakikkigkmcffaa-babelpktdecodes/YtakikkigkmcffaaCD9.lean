/- The contract of readUpdate. -/
import Derived.Deep.Cut
import Derived.Test.YtakikkigkmcffaaCDT
import Derived.Test.YtakikkigkmcffaaCDR
import Derived.Test.YtakikkigkmcffaaCD6
namespace Go.Proofs.Ytakikkigkmcffaa
open Go.RowKit

/-- What readPrefix answers, with word of the row behind the prefix. -/
def PW (w : World) (x l : Int) (om n : Nat) (L : List Int) (v : Bool) (z y : Int) (ra : Option Addr) (q : Nat) : Prop :=
  0 ≤ z ∧ z < 4294967296 ∧ 0 ≤ y ∧ y ≤ 32 ∧ (∃ L', Row8 w ra q L' ∧ (v = true → z = mix x om (L.take (nd l - om)) ∧ y = l ∧ L' = L.drop (nd l - om))) ∧ q ≤ n
theorem row8_nil (w : World) : Row8 w none 0 [] := ⟨rfl, by decide, (fun x h => by cases h), (fun i h => by omega)⟩
theorem readPrefix_row (x l : Int) (om b off n cap : Nat) (L : List Int) (w0 w : World) (hr0 : Row8 w0 (some ⟨b, off, none⟩) n L) (hb0 : Below w0.heap.size w0 w) (hn : n ≤ 3000) (hc : n ≤ cap) (x0 : 0 ≤ x) (x1 : x < 4294967296) (l0 : 0 ≤ l) (l1 : l ≤ 255) (ho : om ≤ 255) {v : Bool} (hv : pfxOk x l om L = v) :
    Calls Try.prog 70 #[.int .u32 x, .int .i64 l, .int .i64 (om : Int), .slice (some ⟨b, off, none⟩) n cap] w fun e w' => ∃ z y ra q c, e = .returned (.tuple #[.agg #[.int .u32 z, .int .i64 y], .slice ra q c, .bool v]) ∧ Below w.heap.size w w' ∧ PW w0 x l om n L v z y ra q := by
  have hr := hr0.later hb0
  have hL : L.length = n := hr.1
  have hdi : (nd l : Int) = (l + 7) / 8 := by unfold nd; omega
  by_cases hno : noPfx l om n
  · have hf : pfxOk x l om L = false := by
      rcases hno with h | ⟨h, h'⟩ | ⟨h, h', h''⟩
      · exact pfx_len h
      · exact pfx_om (by omega)
      · exact pfx_short (by omega)
    obtain rfl : false = v := hf.symm.trans hv
    refine (readPrefix_no x l om _ n cap w l0 l1 (by omega) (by omega) hno).mono ?_
    rintro e w' ⟨rfl, hb⟩
    exact ⟨0, 0, none, 0, 0, rfl, hb, by decide, by decide, by decide, by decide, ⟨[], row8_nil w0, fun h => by cases h⟩, Nat.zero_le _⟩
  · have hyes : l ≤ 32 ∧ om ≤ nd l ∧ nd l - om ≤ n := by unfold noPfx at hno; omega
    obtain ⟨h1, h2, h3⟩ := hyes
    have zb := mix_u (last := x) (om := om) x0 x1 (take_bytes hr.2.2.1 (nd l - om))
    rw [pfx_yes h1 h2 (by omega)] at hv
    refine (readPrefix_yes x l om (nd l - om) b off n cap L w hr hn hc x0 x1 l0 h1 (by omega) h3 rfl hv).mono ?_
    rintro e w' ⟨rfl, hb⟩
    exact ⟨_, _, _, _, _, rfl, hb, zb.1, by have := zb.2; omega, l0, h1, ⟨_, hr0.rest (nd l - om) cap h3 hc b off rfl, fun _ => ⟨rfl, rfl, rfl⟩⟩, Nat.sub_le _ _⟩
/-- What readUpdate leaves. -/
def Updated (w : World) (N : Nat) (K : Kn) (ra : Option Addr) (m cc : Nat) (ad : Option Addr) (k cp : Nat) (es : List Tlv) (v : Bool) (p : Tlv) (A : Int) (e : Ending) (w' : World) : Prop :=
  ∃ a' k9 s i c a l r t h, e = .returned (.tuple #[valT k9 s i c a l r t h, .bool v]) ∧ (v = true → (⟨k9, s, i, c, a, l, r, t, h⟩ : Tlv) = p ∧ a' = A ∧ K.told = true) ∧ Tlv.Ok ⟨k9, s, i, c, a, l, r, t, h⟩ ∧ RF w' N ⟨K.told, K.r, a'⟩ ra m cc ad k cp ∧ OwnT w' (N + 1) (.slice ad k cp) k es ∧ Below N w w' ∧ ∀ j, N < j → j < w.heap.size → w'.heap[j]? = w.heap[j]?
theorem up_head {K : Kn} {l : List Int} (h : upHead K.told l = false) : upOk K l = false := by unfold upOk; rw [h]; rfl
theorem up_is {K : Kn} {l : List Int} (h : upHead K.told l = true) {y : Int} {om : Nat} (e2 : at8 l 2 = y) (e3 : at8 l 3 = (om : Int)) {v : Bool} (hp : pfxOk K.a y om (l.drop 10) = v) : upOk K l = (v && tagOk ((l.drop 10).drop (nd y - om))) := by
  unfold upOk; rw [h, e2, e3, Int.toNat_natCast, hp]; rfl
theorem upT_is {K : Kn} {l : List Int} {y : Int} {om : Nat} (e2 : at8 l 2 = y) (e3 : at8 l 3 = (om : Int)) : upT K l = ⟨2, getV l 6 2, getV l 4 2, getV l 8 2, mix K.a om ((l.drop 10).take (nd y - om)), y, K.r, tagV ((l.drop 10).drop (nd y - om)), 0⟩ := by
  unfold upT upA; rw [e2, e3, Int.toNat_natCast]
theorem upA_is {K : Kn} {l : List Int} {y : Int} {om : Nat} (e2 : at8 l 2 = y) (e3 : at8 l 3 = (om : Int)) : upA K l = mix K.a om ((l.drop 10).take (nd y - om)) := by
  unfold upA; rw [e2, e3, Int.toNat_natCast]
/-- The head says no: nothing has turned but the result's block. -/
theorem upd_no {w : World} {N : Nat} {K : Kn} {ra : Option Addr} {m cc : Nat} {ad : Option Addr} {k cp : Nat} {es : List Tlv} {p : Tlv} {A : Int} (hF : RF w N K ra m cc ad k cp) (hO : OwnT w (N + 1) (.slice ad k cp) k es) {wx : World} (hb : Below w.heap.size w wx) :
    Updated w N K ra m cc ad k cp es false p A (.returned (.tuple #[valT 0 0 0 0 0 0 0 0 0, .bool false])) wx :=
  ⟨K.a, 0, 0, 0, 0, 0, 0, 0, 0, 0, rfl, (fun h => by cases h), zero_ok, hF.later hb, hO.later hb, hb.mono (Nat.le_of_lt hF.2.2.2.2.2.2), fun j _ hj => hb.block j hj⟩
theorem OwnT.mid {w w' : World} {N : Nat} {v : Value} {n : Nat} {es : List Tlv} (h : OwnT w (N + 1) v n es) (hb : ∀ j, N < j → j < w.heap.size → w'.heap[j]? = w.heap[j]?) : OwnT w' (N + 1) v n es := by
  refine ⟨h.1, ?_⟩
  rcases h.2 with hn | ⟨g, cap, cur, hv, hbg, hg, r⟩
  · exact .inl hn
  · refine .inr ⟨g, cap, cur, hv, hbg, ?_, r⟩
    rw [hb g hbg (Array.getElem?_eq_some_iff.1 hg).1]
    exact hg
/-- What readUpdate leaves of the reader, once it has stored its answer. -/
theorem upd_fin2 {w wc W2 W : World} {N : Nat} {K : Kn} {ra : Option Addr} {m cc : Nat} {ad : Option Addr} {k cp : Nat} {es : List Tlv} {z : Int} (hFc : RF wc N K ra m cc ad k cp) (hO : OwnT w (N + 1) (.slice ad k cp) k es) (hBc : Below w.heap.size w wc) (hN : N < w.heap.size) (h2 : W2 = wc.setCell ⟨N, 2, none⟩ (.int .u32 z)) (hb : Below W2.heap.size W2 W) (v0 v1 v2 v3 v4 v5 v6 v7 v8 : Int) :
    RF (put9 W w.heap.size v0 v1 v2 v3 v4 v5 v6 v7 v8) N ⟨K.told, K.r, z⟩ ra m cc ad k cp ∧ OwnT (put9 W w.heap.size v0 v1 v2 v3 v4 v5 v6 v7 v8) (N + 1) (.slice ad k cp) k es ∧ Below N w (put9 W w.heap.size v0 v1 v2 v3 v4 v5 v6 v7 v8) ∧ ∀ j, N < j → j < w.heap.size → (put9 W w.heap.size v0 v1 v2 v3 v4 v5 v6 v7 v8).heap[j]? = w.heap[j]? := by
  have hz : W2.heap.size = wc.heap.size := by rw [h2]; simp
  have hz2 := hBc.size
  have h1 : RF W N ⟨K.told, K.r, z⟩ ra m cc ad k cp := by
    have h := hFc.setA z
    rw [← h2] at h
    exact h.later hb
  have h3 : Below N w W := by
    have h := (hBc.mono (Nat.le_of_lt hN)).setCell (p := ⟨N, 2, none⟩) (Nat.le_refl _) (.int .u32 z)
    rw [← h2] at h
    exact h.trans (hb.mono (by omega))
  have h5 : ∀ j, N < j → j < w.heap.size → (put9 W w.heap.size v0 v1 v2 v3 v4 v5 v6 v7 v8).heap[j]? = w.heap[j]? := by
    intro j hj hj2
    unfold put9
    iterate 9 rw [setCell_block _ _ _ j (by show w.heap.size ≠ j; omega)]
    rw [hb.block j (by omega), h2, setCell_block _ _ _ j (by show N ≠ j; omega), hBc.block j hj2]
  exact ⟨h1.lift (B := w.heap.size) (put9_b (Below.refl _ _) (Nat.le_refl _) _ _ _ _ _ _ _ _ _) hN, hO.mid h5, put9_b h3 (Nat.le_of_lt hN) _ _ _ _ _ _ _ _ _, h5⟩
set_option maxRecDepth 8000 in
set_option maxHeartbeats 8000000 in
theorem readUpdate_any (N : Nat) (K : Kn) (ra : Option Addr) (m cc : Nat) (ad : Option Addr) (k cp : Nat) (es : List Tlv) (b off n cap : Nat) (l : List Int) (w : World) (hK : K.Ok) (hF : RF w N K ra m cc ad k cp) (hO : OwnT w (N + 1) (.slice ad k cp) k es) (hr : Row8 w (some ⟨b, off, none⟩) n l) (hn : n ≤ 255) (hc : n ≤ cap) {v : Bool} (hv : upOk K l = v) :
    Calls Try.prog 63 #[.pointer (some ⟨N, 0, none⟩), .slice (some ⟨b, off, none⟩) n cap] w (Updated w N K ra m cc ad k cp es v (upT K l) (upA K l)) := by
  subst hv
  have HR : Hid (Row8 w (some ⟨b, off, none⟩) n l) := hr
  have HL : Hid (l.length = n) := hr.1
  have HF0 : Hid (RF w N K ra m cc ad k cp) := hF
  have HO0 : Hid (OwnT w (N + 1) (.slice ad k cp) k es) := hO
  have HK : Hid K.Ok := hK
  obtain ⟨f0, f1, f2, f3, f4, ff, fz⟩ := hF
  have nN : N ≠ w.heap.size := by omega
  have nN1 : N ≠ w.heap.size + 1 := by omega
  have nN2 : w.heap.size ≠ N := by omega
  have nN3 : w.heap.size + 1 ≠ N := by omega
  clear hK hO
  by_cases ht : K.told = true
  case neg =>
    have ht' : K.told = false := by simpa using ht
    have HF : Hid (upOk K l = false) := up_head (by unfold upHead; rw [ht']; rfl)
    rw [ht'] at f0
    clear hr ht ht'
    go_enter Try.func63, Try.ntmps63
    go_wp2
    rw [HF.out]
    exact bodyPost_ret (v := .tuple #[valT 0 0 0 0 0 0 0 0 0, .bool false]) (by simp [results, Try.results63, go_sem]) rfl (upd_no HF0.out HO0.out (below1 _ _))
  rw [ht] at f0
  by_cases h2 : n < 10
  · have HF : Hid (upOk K l = false) := up_head (by unfold upHead; rw [decide_eq_false (by rw [HL.out]; omega)]; simp)
    clear hr
    go_enter Try.func63, Try.ntmps63
    go_wp2
    rw [HF.out]
    exact bodyPost_ret (v := .tuple #[valT 0 0 0 0 0 0 0 0 0, .bool false]) (by simp [results, Try.results63, go_sem]) rfl (upd_no HF0.out HO0.out (below1 _ _))
  obtain ⟨b_, off_, he_, hcell⟩ := hr.at (by omega)
  simp only [Option.some.injEq, Addr.mk.injEq, and_true] at he_
  obtain ⟨rfl, rfl⟩ := he_
  have d0 := hcell 0 (by omega)
  have d1 := hcell 1 (by omega)
  have d2 := hcell 2 (by omega)
  have d3 := hcell 3 (by omega)
  rw [Nat.add_zero] at d0
  have E0 : Hid (at8 l 0 = l[0]?.getD 0) := rfl
  have E1 : Hid (at8 l 1 = l[1]?.getD 0) := rfl
  have E2 : Hid (at8 l 2 = l[2]?.getD 0) := rfl
  have E3 : Hid (at8 l 3 = l[3]?.getD 0) := rfl
  have y2b := hr.2.2.1.at 2
  have h3b := hr.2.2.1.at 3
  generalize l[0]?.getD 0 = x at d0 E0
  generalize l[1]?.getD 0 = x1 at d1 E1
  generalize l[2]?.getD 0 = y at d2 E2 y2b
  generalize l[3]?.getD 0 = o3 at d3 E3 h3b
  obtain ⟨y0, y1⟩ := y2b
  obtain ⟨om, rfl⟩ : ∃ om : Nat, o3 = (om : Int) := ⟨o3.toNat, by omega⟩
  have hom : om ≤ 255 := by omega
  clear h3b
  have hbz : b < w.heap.size := block_lt_of_cell d0
  have hbn : b ≠ w.heap.size := by omega
  have hbn1 : b ≠ w.heap.size + 1 := by omega
  have hbn2 : w.heap.size + 1 ≠ b := by omega
  have hbn3 : w.heap.size ≠ b := by omega
  have i0 : 0 < n := by omega
  have i1 : 1 < n := by omega
  have i2 : 2 < n := by omega
  have i3 : 3 < n := by omega
  have j0 : (0 : Int) < (n : Int) := by omega
  have j1 : (1 : Int) < (n : Int) := by omega
  have j2' : (2 : Int) < (n : Int) := by omega
  have j3' : (3 : Int) < (n : Int) := by omega
  have HRow : Hid (_) := hr.rest 10 cap (by omega) hc b off rfl
  have sb := getV_h hr.2.2.1 6
  have ib := getV_h hr.2.2.1 4
  have cb := getV_h hr.2.2.1 8
  obtain ⟨s, hs⟩ : ∃ s, getV l 6 2 = s := ⟨_, rfl⟩
  obtain ⟨iv, hi⟩ : ∃ i, getV l 4 2 = i := ⟨_, rfl⟩
  obtain ⟨cv, hcv⟩ : ∃ c, getV l 8 2 = c := ⟨_, rfl⟩
  rw [hs] at sb
  rw [hi] at ib
  rw [hcv] at cb
  obtain ⟨s0, s1⟩ := sb
  obtain ⟨iv0, iv1⟩ := ib
  obtain ⟨cv0, cv1⟩ := cb
  have HS : Hid (g16 l 6 = s) := by unfold Hid; rw [g16_is (by rw [HL.out]; omega)]; exact hs
  have HI : Hid (g16 l 4 = iv) := by unfold Hid; rw [g16_is (by rw [HL.out]; omega)]; exact hi
  have HC : Hid (g16 l 8 = cv) := by unfold Hid; rw [g16_is (by rw [HL.out]; omega)]; exact hcv
  clear hr hcell
  by_cases hx : x = 1
  case neg =>
    have HF : Hid (upOk K l = false) := up_head (by unfold upHead; rw [E0.out, (by simpa using hx : (x == 1) = false)]; simp)
    have ex : (x != 1) = true := by simpa using hx
    clear hx HRow
    go_enter Try.func63, Try.ntmps63
    go_wp2
    rw [HF.out]
    exact bodyPost_ret (v := .tuple #[valT 0 0 0 0 0 0 0 0 0, .bool false]) (by simp [results, Try.results63, go_sem]) rfl (upd_no HF0.out HO0.out (below1 _ _))
  subst hx
  by_cases hx1 : x1 = 128
  case neg =>
    have HF : Hid (upOk K l = false) := up_head (by unfold upHead; rw [E1.out, (by simpa using hx1 : (x1 == 128) = false)]; simp)
    have ex : (x1 != 128) = true := by simpa using hx1
    clear hx1 HRow
    go_enter Try.func63, Try.ntmps63
    go_wp2
    rw [HF.out]
    exact bodyPost_ret (v := .tuple #[valT 0 0 0 0 0 0 0 0 0, .bool false]) (by simp [results, Try.results63, go_sem]) rfl (upd_no HF0.out HO0.out (below1 _ _))
  subst hx1
  have HH : Hid (upHead K.told l = true) := by unfold Hid upHead; rw [E0.out, E1.out, HL.out, ht]; simp; omega
  have HTold : Hid (K.told = true) := ht
  have ey : IntKind.i64.wrap y = y := wrap_in (by omega) (by omega)
  have eom : IntKind.i64.wrap (om : Int) = (om : Int) := wrap_in (by omega) (by omega)
  have eiv : IntKind.i64.wrap iv = iv := wrap_in (by omega) (by omega)
  have ecv : IntKind.i64.wrap cv = cv := wrap_in (by omega) (by omega)
  have j2 : (10 : Int) ≤ (n : Int) := by omega
  have j3 : (n : Int) ≤ (cap : Int) := by omega
  have j4 : (10 : Int) ≤ (cap : Int) := by omega
  have e4 : decide (4 + 2 ≤ n) = true := by rw [decide_eq_true_eq]; omega
  have e6 : decide (6 + 2 ≤ n) = true := by rw [decide_eq_true_eq]; omega
  have e8 : decide (8 + 2 ≤ n) = true := by rw [decide_eq_true_eq]; omega
  have HKa0 : Hid (0 ≤ K.a) := HK.out.a0
  have HKa1 : Hid (K.a < 4294967296) := HK.out.a1
  have HKr0 : Hid (0 ≤ K.r) := HK.out.r0
  have HKr1 : Hid (K.r ≤ 18446744073709551615) := HK.out.r1
  obtain ⟨vb, hvb⟩ : ∃ vb, pfxOk K.a y om (l.drop 10) = vb := ⟨_, rfl⟩
  have HVB : Hid (pfxOk K.a y om (l.drop 10) = vb) := hvb
  have HV : Hid (upOk K l = (vb && tagOk ((l.drop 10).drop (nd y - om)))) := up_is HH.out E2.out E3.out hvb
  have HT : Hid (upT K l = ⟨2, s, iv, cv, mix K.a om ((l.drop 10).take (nd y - om)), y, K.r, tagV ((l.drop 10).drop (nd y - om)), 0⟩) := by unfold Hid; rw [upT_is E2.out E3.out, hs, hi, hcv]
  have HUA : Hid (upA K l = mix K.a om ((l.drop 10).take (nd y - om))) := upA_is E2.out E3.out
  clear hvb hs hi hcv ht
  by_cases hc2 : cap = 10
  · obtain rfl : n = 10 := by omega
    subst hc2
    have HRw : Hid (Row8 w (some ⟨b, off, none⟩) 0 (l.drop 10)) := by have := HRow.out; rw [if_pos rfl] at this; exact this
    clear HRow
    go_enter Try.func63, Try.ntmps63
    go_wp2
    go_cut [6, 7, 8] from 9 (fun s4 s5 s6 wx => ∃ P z5 y5 ra5 q5 c5, s4 = .pointer (some ⟨P, 0, none⟩) ∧ s5 = .slice ra5 q5 c5 ∧ s6 = .bool vb ∧ PW w K.a y om (0) (l.drop 10) vb z5 y5 ra5 q5 ∧ PfxAt (w.alloc objZ) z5 y5 P wx)
    case first =>
      go_region_held3 (fun w' => w'.cell? ⟨N, 2, none⟩ = some (.int .u32 K.a) ∧ w'.cell? ⟨b, off + 2, none⟩ = some (.int .u8 y) ∧ w'.cell? ⟨b, off + 3, none⟩ = some (.int .u8 (om : Int))) (first | exact ⟨q0, q1, q2⟩ | go_keep)
        ((go_at_call 70; refine (readPrefix_row K.a y om b off 0 0 (l.drop 10) w _ HRw.out (by first | exact (below1 _ _).drew | exact (below2 _ _ _).drew) (by omega) (by omega) HKa0.out HKa1.out y0 (by omega) hom HVB.out).mono ?_; rintro e W1 ⟨z5, y5, ra5, q5, c5, rfl, hb1, hPV⟩; first | (have PA := pre_a (N := w.heap.size + 1) (by simp) hb1; have PA' := PA; obtain ⟨c0, c1, cf, cz, hB1⟩ := PA'; have q0 := cell_later (Below.out1 hB1) f2; have q1 := cell_later (Below.out1 hB1) d2; have q2 := cell_later (Below.out1 hB1) d3) | (have PB := hb1; have hB1 : Below w.heap.size w W1 := Below.out1 ((Below.refl _ _).drew.trans hb1); have q0 := cell_later hB1 f2; have q1 := cell_later hB1 d2; have q2 := cell_later hB1 d3)))
      all_goals
        go_wp2_with fail
        go_meet
        first | exact ⟨_, _, _, _, _, _, rfl, rfl, rfl, hPV, pfx_b z5 y5 PB⟩ | exact ⟨_, _, _, _, _, _, rfl, rfl, rfl, hPV, pfx_a z5 y5 (by simp) PA⟩
    case rest =>
      obtain ⟨P, z5, y5, ra5, q5, c5', rfl, rfl, rfl, hPV, hP⟩ := hcut
      have HPb : Hid (w.heap.size + 1 ≤ P) := by unfold Hid; have := hP.2.2.1; simpa using this
      obtain ⟨F1, nf, lt1, hB1, ne1, ne2⟩ := hP.res
      obtain ⟨p0, p1, -, -, -⟩ := hP
      obtain ⟨c0, c1, c2, c3, c4, c5, c6, c7, c8⟩ := F1.z
      obtain ⟨zz0, zz1, yy0, yy1, ⟨L', hrow, hT⟩, hqn⟩ := hPV
      have HRl : Hid (Row8 wc ra5 q5 L') := hrow.later hB1
      have HRc : Hid (Row8 wc (some ⟨b, off, none⟩) 10 l) := HR.out.later hB1
      have HFc : Hid (RF wc N K ra m cc ad k cp) := HF0.out.later hB1
      have HOc : Hid (OwnT wc (N + 1) (.slice ad k cp) k es) := HO0.out.later hB1
      have HBc : Hid (Below w.heap.size w wc) := hB1
      clear f0 f1 f2 f3 f4 ff d0 d1 d2 d3 hrow
      obtain ⟨f0, f1, f2, f3, f4, ff, -⟩ := HFc.out
      clear f0 f3 f4
      obtain ⟨tv, htv⟩ : ∃ tv, tagOk L' = tv := ⟨_, rfl⟩
      have HTV : Hid (tagOk L' = tv) := htv
      have HTT : Hid (_) := hT
      clear htv hT
      go_wp2_with (first
        | (go_at_call 71; refine (getTag_bd _ _ _ L' _ HRl.out (by omega) HTV.out).mono ?_; rintro e wc ⟨tg, rfl, htg, tg0, tg1, rfl⟩)
        | (go_at_call_of 49 (Value.int IntKind.i64 4); refine (get16_any _ _ _ l _ HRc.out (by omega) 4 HI.out).mono ?_; rintro e wc ⟨rfl, rfl⟩; first | rw [e4] | skip)
        | (go_at_call_of 49 (Value.int IntKind.i64 6); refine (get16_any _ _ _ l _ HRc.out (by omega) 6 HS.out).mono ?_; rintro e wc ⟨rfl, rfl⟩; first | rw [e6] | skip)
        | (go_at_call_of 49 (Value.int IntKind.i64 8); refine (get16_any _ _ _ l _ HRc.out (by omega) 8 HC.out).mono ?_; rintro e wc ⟨rfl, rfl⟩; first | rw [e8] | skip))
      obtain ⟨W2, hW2⟩ : ∃ W2, W2 = wc.setCell ⟨N, 2, none⟩ (.int .u32 z5) := ⟨_, rfl⟩
      rw [← hW2]
      have HW2 : Hid (W2 = wc.setCell ⟨N, 2, none⟩ (.int .u32 z5)) := hW2
      have p0' : W2.cell? ⟨P, 0, none⟩ = some (.int .u32 z5) := by rw [hW2]; simp [go_sem, p0]
      have p1' : W2.cell? ⟨P, 1, none⟩ = some (.int .i64 y5) := by rw [hW2]; simp [go_sem, p1]
      have f1' : W2.cell? ⟨N, 1, none⟩ = some (.int .u64 K.r) := by rw [hW2]; simp [go_sem, f1]
      have HNF : Hid (∀ o, W2.frozen? ⟨w.heap.size, o, none⟩ = false) := fun o => by rw [hW2]; simp [go_sem, nf]
      have HF2 : Hid (T9 W2 w.heap.size 0 ⟨0, 0, 0, 0, 0, 0, 0, 0, 0⟩) := F1.far (fun o => by rw [hW2]; exact World.cell?_setCell_far _ _ _ _ (by exact nN))
      have HLT : Hid (w.heap.size < W2.heap.size) := by unfold Hid; rw [hW2]; simpa using lt1
      have HOK : Hid (Tlv.Ok ⟨2, s, iv, cv, z5, y5, K.r, tg, 0⟩) := by have := HKr0.out; have := HKr1.out; unfold Hid; constructor <;> simp only <;> omega
      have HFin : Hid (∃ v, upOk K l = v ∧ (vb && tv) = v ∧ (v = true → (⟨2, s, iv, cv, z5, y5, K.r, tg, 0⟩ : Tlv) = upT K l ∧ z5 = upA K l ∧ K.told = true)) := by
        unfold Hid
        rw [HV.out]
        cases vb
        · exact ⟨false, rfl, rfl, fun h => by cases h⟩
        · obtain ⟨hz, hy, hL'⟩ := HTT.out rfl
          exact ⟨tv, by rw [← hL', HTV.out]; rfl, rfl, fun h => ⟨by rw [HT.out, ← hz, hy, htg h, hL'], by rw [HUA.out]; exact hz, HTold.out⟩⟩
      obtain ⟨v, hv1, hv2, hv3⟩ := HFin.out
      clear hW2 HFin
      refine wp_region_S (relV [fun x => x = .int .u16 s, fun x => x = .int .u16 iv, fun x => x = .int .i64 iv, fun x => x = .int .u16 cv, fun x => x = .int .i64 cv, fun x => x = .agg #[.int .u32 z5, .int .i64 y5], fun x => x = .pointer (some ⟨N, 0, none⟩), fun x => x = .pointer (some ⟨N, 0, none⟩), fun x => x = .pointer (some ⟨N, 0, none⟩), fun x => x = .pointer (some ⟨N, 1, none⟩), fun x => x = .int .u64 K.r, fun x => x = .int .u16 tg, fun x => x = valT 2 s iv cv z5 y5 K.r tg 0, fun x => x = .bool vb, fun x => x = .bool vb, fun x => vb = true → x = .bool tv, fun x => x = .bool v]) (fun W => T9 W w.heap.size 0 ⟨2, s, iv, cv, z5, y5, K.r, tg, 0⟩ ∧ RF W N ⟨K.told, K.r, z5⟩ ra m cc ad k cp ∧ OwnT W (N + 1) (.slice ad k cp) k es ∧ Below N w W ∧ ∀ j, N < j → j < w.heap.size → W.heap[j]? = w.heap[j]?) 17 18 (by kernel_rfl) (by kernel_rfl) (by kernel_rfl) ?_
      refine ⟨?_, ?_, ?_, ?_, ?_, ?_, ?_, ?_, ?_, ?_, ?_, ?_, ?_, ?_, ?_, ?_, ?_, ?_, ?_, trivial⟩
      · exact oblS_step (pre := true) rfl rfl (by kernel_rfl) (stepS rfl fun A W hf hd hb => sv_move (.tmp 13) _ rfl (ev_tmp ((hf.2.2 13 (by kernel_rfl)).trans rfl)) rfl)
      · exact oblS_step (pre := true) rfl rfl (by kernel_rfl) (stepS rfl fun A W hf hd hb => sv_move (.tmp 11) _ rfl (ev_tmp ((hf.2.2 11 (by kernel_rfl)).trans rfl)) rfl)
      · exact oblS_step (pre := true) rfl rfl (by kernel_rfl) (stepS rfl fun A W hf hd hb => sv_conv 39 3 _ _ _ rfl (ev_tmp (depV hd 1 88 rfl rfl)) (cv16 W iv0 iv1) rfl)
      · exact oblS_step (pre := true) rfl rfl (by kernel_rfl) (stepS rfl fun A W hf hd hb => sv_move (.tmp 15) _ rfl (ev_tmp ((hf.2.2 15 (by kernel_rfl)).trans rfl)) rfl)
      · exact oblS_step (pre := true) rfl rfl (by kernel_rfl) (stepS rfl fun A W hf hd hb => sv_conv 39 3 _ _ _ rfl (ev_tmp (depV hd 3 90 rfl rfl)) (cv16 W cv0 cv1) rfl)
      · exact oblS_step (pre := true) rfl rfl (by kernel_rfl) (stepS rfl fun A W hf hd hb => sv_load 41 _ ⟨P, 0, none⟩ _ rfl (ev_tmp ((hf.2.2 6 (by kernel_rfl)).trans rfl)) (ld41 (cell_later (hb rfl) p0') (cell_later (hb rfl) p1')) rfl)
      · exact oblS_step (pre := true) rfl rfl (by kernel_rfl) (stepS rfl fun A W hf hd hb => sv_move (.tmp 0) _ rfl (ev_tmp ((hf.2.2 0 (by kernel_rfl)).trans rfl)) rfl)
      · exact oblS_step (pre := true) rfl rfl (by kernel_rfl) (stepS rfl fun A W hf hd hb => sv_nil _ ⟨N, 0, none⟩ rfl (ev_tmp (depV hd 6 93 rfl rfl)) rfl)
      · exact oblS_step (pre := true) rfl rfl (by kernel_rfl) (stepS rfl fun A W hf hd hb => sv_field 60 _ 0 ⟨N, 0, none⟩ _ rfl (ev_tmp (depV hd 7 94 rfl rfl)) (fa60 W N) rfl)
      · exact oblS_step (pre := true) rfl rfl (by kernel_rfl) (stepS rfl fun A W hf hd hb => sv_field 48 _ 1 ⟨N, 0, none⟩ _ rfl (ev_tmp (depV hd 8 95 rfl rfl)) (fa48 W N) rfl)
      · exact oblS_step (pre := true) rfl rfl (by kernel_rfl) (stepS rfl fun A W hf hd hb => sv_load 42 _ ⟨N, 1, none⟩ _ rfl (ev_tmp (depV hd 9 96 rfl rfl)) (ld42 (cell_later (hb rfl) f1')) rfl)
      · exact oblS_step (pre := true) rfl rfl (by kernel_rfl) (stepS rfl fun A W hf hd hb => sv_move (.tmp 9) _ rfl (ev_tmp ((hf.2.2 9 (by kernel_rfl)).trans rfl)) rfl)
      · exact oblS_step (pre := true) rfl rfl (by kernel_rfl) (stepS rfl fun A W hf hd hb => sv_build 44 _ _ _ rfl (by simp only [List.map_toArray, List.map_cons, List.map_nil, ev_const, ev_tmp (depV hd 0 87 rfl rfl), ev_tmp (depV hd 2 89 rfl rfl), ev_tmp (depV hd 4 91 rfl rfl), ev_tmp (depV hd 5 92 rfl rfl), ev_tmp (depV hd 10 97 rfl rfl), ev_tmp (depV hd 11 98 rfl rfl)]) (bd44u W s iv cv z5 y5 K.r tg) rfl)
      · exact oblS_step (pre := false) rfl rfl (by kernel_rfl) (stepS rfl fun A W hf hd hb => sv_move (.tmp 8) _ rfl (ev_tmp ((hf.2.2 8 (by kernel_rfl)).trans rfl)) rfl)
      · exact oblS_step (pre := true) rfl rfl (by kernel_rfl) (stepS rfl fun A W hf hd hb => sv_move (.tmp 100) _ rfl (ev_tmp (depV hd 13 100 rfl rfl)) rfl)
      · exact oblS_step (pre := false) rfl rfl (by kernel_rfl) (stepG 14 101 vb rfl rfl rfl (fun _ h => h) (fun h => by rw [h]; exact fun h => by cases h) fun hg A W hf hd hb => sv_move (.tmp 10) _ rfl (ev_tmp ((hf.2.2 10 (by kernel_rfl)).trans rfl)) (fun _ => rfl))
      · exact oblS_step (pre := false) rfl rfl (by kernel_rfl) (stepS rfl fun A W hf hd hb => sv_pick _ _ _ vb _ rfl (ev_tmp (depV hd 14 101 rfl rfl)) (fun h => by rw [ev_tmp (depV hd 15 102 rfl rfl h), ← hv2, h]; rfl) (fun h => by rw [ev_const, ← hv2, h]; rfl) rfl)
      · exact oblS_store rfl fun A W hf hd hb => sv_store 44 _ _ ⟨w.heap.size, 0, none⟩ _ _ rfl rfl (ev_tmp ((hf.2.2 4 (by kernel_rfl)).trans rfl)) (ev_tmp (depV hd 12 99 rfl rfl)) (st44 (HF2.out.later hb) (fun o => (hb.frozen (p := ⟨w.heap.size, o, none⟩) HLT.out).trans (HNF.out o)) 2 s iv cv z5 y5 K.r tg 0) ⟨put9_T (HF2.out.later hb) _ _ _ _ _ _ _ _ _, upd_fin2 HFc.out HO0.out HBc.out fz HW2.out hb _ _ _ _ _ _ _ _ _⟩
      · refine oblS_last fun A W hf hd hS => ?_
        refine sv_assign _ _ rfl (ev_tmp (depV2 hd 16 103 (by decide) rfl)) ?_
        go_wp2
        rw [hv1]
        exact bodyPost_ret (res_two (c := 4) (s := 5) rfl ((hf.2.2 4 (by kernel_rfl)).trans rfl) (by decide) (by rw [hf.2.1]; exact (by decide : 5 < 104)) hS.1) hf.1 ⟨z5, 2, s, iv, cv, z5, y5, K.r, tg, 0, rfl, hv3, HOK.out, hS.2⟩
  · have HRw : Hid (Row8 w (some ⟨b, off + 10, none⟩) (n - 10) (l.drop 10)) := by have := HRow.out; rw [if_neg (by omega)] at this; exact this
    clear HRow
    go_enter Try.func63, Try.ntmps63
    go_wp2
    go_cut [6, 7, 8] from 9 (fun s4 s5 s6 wx => ∃ P z5 y5 ra5 q5 c5, s4 = .pointer (some ⟨P, 0, none⟩) ∧ s5 = .slice ra5 q5 c5 ∧ s6 = .bool vb ∧ PW w K.a y om (n - 10) (l.drop 10) vb z5 y5 ra5 q5 ∧ PfxAt (w.alloc objZ) z5 y5 P wx)
    case first =>
      go_region_held3 (fun w' => w'.cell? ⟨N, 2, none⟩ = some (.int .u32 K.a) ∧ w'.cell? ⟨b, off + 2, none⟩ = some (.int .u8 y) ∧ w'.cell? ⟨b, off + 3, none⟩ = some (.int .u8 (om : Int))) (first | exact ⟨q0, q1, q2⟩ | go_keep)
        ((go_at_call 70; refine (readPrefix_row K.a y om b (off + 10) (n - 10) (cap - 10) (l.drop 10) w _ HRw.out (by first | exact (below1 _ _).drew | exact (below2 _ _ _).drew) (by omega) (by omega) HKa0.out HKa1.out y0 (by omega) hom HVB.out).mono ?_; rintro e W1 ⟨z5, y5, ra5, q5, c5, rfl, hb1, hPV⟩; first | (have PA := pre_a (N := w.heap.size + 1) (by simp) hb1; have PA' := PA; obtain ⟨c0, c1, cf, cz, hB1⟩ := PA'; have q0 := cell_later (Below.out1 hB1) f2; have q1 := cell_later (Below.out1 hB1) d2; have q2 := cell_later (Below.out1 hB1) d3) | (have PB := hb1; have hB1 : Below w.heap.size w W1 := Below.out1 ((Below.refl _ _).drew.trans hb1); have q0 := cell_later hB1 f2; have q1 := cell_later hB1 d2; have q2 := cell_later hB1 d3)))
      all_goals
        go_wp2_with fail
        go_meet
        first | exact ⟨_, _, _, _, _, _, rfl, rfl, rfl, hPV, pfx_b z5 y5 PB⟩ | exact ⟨_, _, _, _, _, _, rfl, rfl, rfl, hPV, pfx_a z5 y5 (by simp) PA⟩
    case rest =>
      obtain ⟨P, z5, y5, ra5, q5, c5', rfl, rfl, rfl, hPV, hP⟩ := hcut
      have HPb : Hid (w.heap.size + 1 ≤ P) := by unfold Hid; have := hP.2.2.1; simpa using this
      obtain ⟨F1, nf, lt1, hB1, ne1, ne2⟩ := hP.res
      obtain ⟨p0, p1, -, -, -⟩ := hP
      obtain ⟨c0, c1, c2, c3, c4, c5, c6, c7, c8⟩ := F1.z
      obtain ⟨zz0, zz1, yy0, yy1, ⟨L', hrow, hT⟩, hqn⟩ := hPV
      have HRl : Hid (Row8 wc ra5 q5 L') := hrow.later hB1
      have HRc : Hid (Row8 wc (some ⟨b, off, none⟩) n l) := HR.out.later hB1
      have HFc : Hid (RF wc N K ra m cc ad k cp) := HF0.out.later hB1
      have HOc : Hid (OwnT wc (N + 1) (.slice ad k cp) k es) := HO0.out.later hB1
      have HBc : Hid (Below w.heap.size w wc) := hB1
      clear f0 f1 f2 f3 f4 ff d0 d1 d2 d3 hrow
      obtain ⟨f0, f1, f2, f3, f4, ff, -⟩ := HFc.out
      clear f0 f3 f4
      obtain ⟨tv, htv⟩ : ∃ tv, tagOk L' = tv := ⟨_, rfl⟩
      have HTV : Hid (tagOk L' = tv) := htv
      have HTT : Hid (_) := hT
      clear htv hT
      go_wp2_with (first
        | (go_at_call 71; refine (getTag_bd _ _ _ L' _ HRl.out (by omega) HTV.out).mono ?_; rintro e wc ⟨tg, rfl, htg, tg0, tg1, rfl⟩)
        | (go_at_call_of 49 (Value.int IntKind.i64 4); refine (get16_any _ _ _ l _ HRc.out (by omega) 4 HI.out).mono ?_; rintro e wc ⟨rfl, rfl⟩; first | rw [e4] | skip)
        | (go_at_call_of 49 (Value.int IntKind.i64 6); refine (get16_any _ _ _ l _ HRc.out (by omega) 6 HS.out).mono ?_; rintro e wc ⟨rfl, rfl⟩; first | rw [e6] | skip)
        | (go_at_call_of 49 (Value.int IntKind.i64 8); refine (get16_any _ _ _ l _ HRc.out (by omega) 8 HC.out).mono ?_; rintro e wc ⟨rfl, rfl⟩; first | rw [e8] | skip))
      obtain ⟨W2, hW2⟩ : ∃ W2, W2 = wc.setCell ⟨N, 2, none⟩ (.int .u32 z5) := ⟨_, rfl⟩
      rw [← hW2]
      have HW2 : Hid (W2 = wc.setCell ⟨N, 2, none⟩ (.int .u32 z5)) := hW2
      have p0' : W2.cell? ⟨P, 0, none⟩ = some (.int .u32 z5) := by rw [hW2]; simp [go_sem, p0]
      have p1' : W2.cell? ⟨P, 1, none⟩ = some (.int .i64 y5) := by rw [hW2]; simp [go_sem, p1]
      have f1' : W2.cell? ⟨N, 1, none⟩ = some (.int .u64 K.r) := by rw [hW2]; simp [go_sem, f1]
      have HNF : Hid (∀ o, W2.frozen? ⟨w.heap.size, o, none⟩ = false) := fun o => by rw [hW2]; simp [go_sem, nf]
      have HF2 : Hid (T9 W2 w.heap.size 0 ⟨0, 0, 0, 0, 0, 0, 0, 0, 0⟩) := F1.far (fun o => by rw [hW2]; exact World.cell?_setCell_far _ _ _ _ (by exact nN))
      have HLT : Hid (w.heap.size < W2.heap.size) := by unfold Hid; rw [hW2]; simpa using lt1
      have HOK : Hid (Tlv.Ok ⟨2, s, iv, cv, z5, y5, K.r, tg, 0⟩) := by have := HKr0.out; have := HKr1.out; unfold Hid; constructor <;> simp only <;> omega
      have HFin : Hid (∃ v, upOk K l = v ∧ (vb && tv) = v ∧ (v = true → (⟨2, s, iv, cv, z5, y5, K.r, tg, 0⟩ : Tlv) = upT K l ∧ z5 = upA K l ∧ K.told = true)) := by
        unfold Hid
        rw [HV.out]
        cases vb
        · exact ⟨false, rfl, rfl, fun h => by cases h⟩
        · obtain ⟨hz, hy, hL'⟩ := HTT.out rfl
          exact ⟨tv, by rw [← hL', HTV.out]; rfl, rfl, fun h => ⟨by rw [HT.out, ← hz, hy, htg h, hL'], by rw [HUA.out]; exact hz, HTold.out⟩⟩
      obtain ⟨v, hv1, hv2, hv3⟩ := HFin.out
      clear hW2 HFin
      refine wp_region_S (relV [fun x => x = .int .u16 s, fun x => x = .int .u16 iv, fun x => x = .int .i64 iv, fun x => x = .int .u16 cv, fun x => x = .int .i64 cv, fun x => x = .agg #[.int .u32 z5, .int .i64 y5], fun x => x = .pointer (some ⟨N, 0, none⟩), fun x => x = .pointer (some ⟨N, 0, none⟩), fun x => x = .pointer (some ⟨N, 0, none⟩), fun x => x = .pointer (some ⟨N, 1, none⟩), fun x => x = .int .u64 K.r, fun x => x = .int .u16 tg, fun x => x = valT 2 s iv cv z5 y5 K.r tg 0, fun x => x = .bool vb, fun x => x = .bool vb, fun x => vb = true → x = .bool tv, fun x => x = .bool v]) (fun W => T9 W w.heap.size 0 ⟨2, s, iv, cv, z5, y5, K.r, tg, 0⟩ ∧ RF W N ⟨K.told, K.r, z5⟩ ra m cc ad k cp ∧ OwnT W (N + 1) (.slice ad k cp) k es ∧ Below N w W ∧ ∀ j, N < j → j < w.heap.size → W.heap[j]? = w.heap[j]?) 17 18 (by kernel_rfl) (by kernel_rfl) (by kernel_rfl) ?_
      refine ⟨?_, ?_, ?_, ?_, ?_, ?_, ?_, ?_, ?_, ?_, ?_, ?_, ?_, ?_, ?_, ?_, ?_, ?_, ?_, trivial⟩
      · exact oblS_step (pre := true) rfl rfl (by kernel_rfl) (stepS rfl fun A W hf hd hb => sv_move (.tmp 13) _ rfl (ev_tmp ((hf.2.2 13 (by kernel_rfl)).trans rfl)) rfl)
      · exact oblS_step (pre := true) rfl rfl (by kernel_rfl) (stepS rfl fun A W hf hd hb => sv_move (.tmp 11) _ rfl (ev_tmp ((hf.2.2 11 (by kernel_rfl)).trans rfl)) rfl)
      · exact oblS_step (pre := true) rfl rfl (by kernel_rfl) (stepS rfl fun A W hf hd hb => sv_conv 39 3 _ _ _ rfl (ev_tmp (depV hd 1 88 rfl rfl)) (cv16 W iv0 iv1) rfl)
      · exact oblS_step (pre := true) rfl rfl (by kernel_rfl) (stepS rfl fun A W hf hd hb => sv_move (.tmp 15) _ rfl (ev_tmp ((hf.2.2 15 (by kernel_rfl)).trans rfl)) rfl)
      · exact oblS_step (pre := true) rfl rfl (by kernel_rfl) (stepS rfl fun A W hf hd hb => sv_conv 39 3 _ _ _ rfl (ev_tmp (depV hd 3 90 rfl rfl)) (cv16 W cv0 cv1) rfl)
      · exact oblS_step (pre := true) rfl rfl (by kernel_rfl) (stepS rfl fun A W hf hd hb => sv_load 41 _ ⟨P, 0, none⟩ _ rfl (ev_tmp ((hf.2.2 6 (by kernel_rfl)).trans rfl)) (ld41 (cell_later (hb rfl) p0') (cell_later (hb rfl) p1')) rfl)
      · exact oblS_step (pre := true) rfl rfl (by kernel_rfl) (stepS rfl fun A W hf hd hb => sv_move (.tmp 0) _ rfl (ev_tmp ((hf.2.2 0 (by kernel_rfl)).trans rfl)) rfl)
      · exact oblS_step (pre := true) rfl rfl (by kernel_rfl) (stepS rfl fun A W hf hd hb => sv_nil _ ⟨N, 0, none⟩ rfl (ev_tmp (depV hd 6 93 rfl rfl)) rfl)
      · exact oblS_step (pre := true) rfl rfl (by kernel_rfl) (stepS rfl fun A W hf hd hb => sv_field 60 _ 0 ⟨N, 0, none⟩ _ rfl (ev_tmp (depV hd 7 94 rfl rfl)) (fa60 W N) rfl)
      · exact oblS_step (pre := true) rfl rfl (by kernel_rfl) (stepS rfl fun A W hf hd hb => sv_field 48 _ 1 ⟨N, 0, none⟩ _ rfl (ev_tmp (depV hd 8 95 rfl rfl)) (fa48 W N) rfl)
      · exact oblS_step (pre := true) rfl rfl (by kernel_rfl) (stepS rfl fun A W hf hd hb => sv_load 42 _ ⟨N, 1, none⟩ _ rfl (ev_tmp (depV hd 9 96 rfl rfl)) (ld42 (cell_later (hb rfl) f1')) rfl)
      · exact oblS_step (pre := true) rfl rfl (by kernel_rfl) (stepS rfl fun A W hf hd hb => sv_move (.tmp 9) _ rfl (ev_tmp ((hf.2.2 9 (by kernel_rfl)).trans rfl)) rfl)
      · exact oblS_step (pre := true) rfl rfl (by kernel_rfl) (stepS rfl fun A W hf hd hb => sv_build 44 _ _ _ rfl (by simp only [List.map_toArray, List.map_cons, List.map_nil, ev_const, ev_tmp (depV hd 0 87 rfl rfl), ev_tmp (depV hd 2 89 rfl rfl), ev_tmp (depV hd 4 91 rfl rfl), ev_tmp (depV hd 5 92 rfl rfl), ev_tmp (depV hd 10 97 rfl rfl), ev_tmp (depV hd 11 98 rfl rfl)]) (bd44u W s iv cv z5 y5 K.r tg) rfl)
      · exact oblS_step (pre := false) rfl rfl (by kernel_rfl) (stepS rfl fun A W hf hd hb => sv_move (.tmp 8) _ rfl (ev_tmp ((hf.2.2 8 (by kernel_rfl)).trans rfl)) rfl)
      · exact oblS_step (pre := true) rfl rfl (by kernel_rfl) (stepS rfl fun A W hf hd hb => sv_move (.tmp 100) _ rfl (ev_tmp (depV hd 13 100 rfl rfl)) rfl)
      · exact oblS_step (pre := false) rfl rfl (by kernel_rfl) (stepG 14 101 vb rfl rfl rfl (fun _ h => h) (fun h => by rw [h]; exact fun h => by cases h) fun hg A W hf hd hb => sv_move (.tmp 10) _ rfl (ev_tmp ((hf.2.2 10 (by kernel_rfl)).trans rfl)) (fun _ => rfl))
      · exact oblS_step (pre := false) rfl rfl (by kernel_rfl) (stepS rfl fun A W hf hd hb => sv_pick _ _ _ vb _ rfl (ev_tmp (depV hd 14 101 rfl rfl)) (fun h => by rw [ev_tmp (depV hd 15 102 rfl rfl h), ← hv2, h]; rfl) (fun h => by rw [ev_const, ← hv2, h]; rfl) rfl)
      · exact oblS_store rfl fun A W hf hd hb => sv_store 44 _ _ ⟨w.heap.size, 0, none⟩ _ _ rfl rfl (ev_tmp ((hf.2.2 4 (by kernel_rfl)).trans rfl)) (ev_tmp (depV hd 12 99 rfl rfl)) (st44 (HF2.out.later hb) (fun o => (hb.frozen (p := ⟨w.heap.size, o, none⟩) HLT.out).trans (HNF.out o)) 2 s iv cv z5 y5 K.r tg 0) ⟨put9_T (HF2.out.later hb) _ _ _ _ _ _ _ _ _, upd_fin2 HFc.out HO0.out HBc.out fz HW2.out hb _ _ _ _ _ _ _ _ _⟩
      · refine oblS_last fun A W hf hd hS => ?_
        refine sv_assign _ _ rfl (ev_tmp (depV2 hd 16 103 (by decide) rfl)) ?_
        go_wp2
        rw [hv1]
        exact bodyPost_ret (res_two (c := 4) (s := 5) rfl ((hf.2.2 4 (by kernel_rfl)).trans rfl) (by decide) (by rw [hf.2.1]; exact (by decide : 5 < 104)) hS.1) hf.1 ⟨z5, 2, s, iv, cv, z5, y5, K.r, tg, 0, rfl, hv3, HOK.out, hS.2⟩
end Go.Proofs.Ytakikkigkmcffaa
