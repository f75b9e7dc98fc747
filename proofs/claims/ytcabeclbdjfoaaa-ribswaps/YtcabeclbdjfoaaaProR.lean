/- Contract of the program's routesTo. -/
import Derived.Test.YtcabeclbdjfoaaaProT
import Derived.Test.YtcabeclbdjfoaaaProM
namespace Go.Proofs.Ytcabeclbdjfoaaa
open Go.RowKit

theorem below_al {W0 X : World} (h : Below W0.heap.size W0 X) (o : Obj) : Below W0.heap.size W0 (X.alloc o) := h.alloc h.size _
theorem below_dal (X : World) (o : Obj) : Below X.heap.size X (X.drew.alloc o) := below_al (Below.refl _ _).drew o
theorem take_next {L : List Rt} {i : Nat} {p : Rt} (h : L[i]? = some p) : L.take i ++ [p] = L.take (i + 1) := by
  rw [List.take_add_one, h]; rfl
section
variable {N b : Nat} {q : Addr} {Bt : Nat → Prop} {most full : Int} {L rs : List Rt} {T : List Pr} {es : Array MapEntry} {clock m : Nat}
/-- What the map says of the i-th route to a prefix. -/
theorem Tab.look {w : World} (h : Tab w N b q Bt most full L rs T es clock m) {p : Rt} (hp : p ∈ L) (W : World) (hb : W.heap[b]? = some (.map es clock)) :
    (Instr.lookup 61 (.map (some b)) (keyV p.k) false).run Try.prog W = .ok (valRt p) W := by
  obtain ⟨j, hj, hjp⟩ := List.getElem_of_mem (h.pm.mem_iff.2 hp)
  exact look_plain h.im h.rts h.nd (rts_of h.gd p hp).ky (by rw [List.getElem?_eq_getElem hj, hjp]) rfl W hb
set_option maxHeartbeats 2000000 in
theorem routesTo_any (a l : Int) (w : World) (h : Tab w N b q Bt most full L rs T es clock m) (hm : m ≤ 2000) (hk : Px.Ok ⟨a, l⟩) :
    Calls Try.prog 42 #[.pointer (some ⟨N, 0, none⟩), valP a l] w fun e w' => ∃ ad n cap, e = .returned (.slice ad n cap) ∧ OwnR w' w.heap.size (.slice ad n cap) n (selR a l L) ∧ Below w.heap.size w w' := by
  have HT : Hid (Tab w N b q Bt most full L rs T es clock m) := h
  have HG : Hid (GoodR L) := h.gd
  have HK : Hid (Px.Ok ⟨a, l⟩) := hk
  have hlt := set_lt h.gd a l
  have hcl : dep (setR a l L) ≤ 16 := dep_le _
  obtain ⟨s, hs⟩ : ∃ s, setR a l L = s := ⟨_, rfl⟩
  rw [hs] at hlt hcl
  have HS : Hid (setR a l L = s) := hs
  have HM : Hid (m ≤ 2000) := hm
  have HR : Hid (Rts L) := rts_of h.gd
  have hN := h.lt
  have hbl := h.b_lt
  clear h hk hs hm
  obtain ⟨n, hn⟩ : ∃ n, dep s = n := ⟨_, rfl⟩
  have HN : Hid (dep s = n) := hn
  rw [hn] at hcl
  clear hn
  go_enter Try.func42, Try.ntmps42
  go_wp2_with (first
    | (go_at_call 36; refine (domainsOf_any a l _ (HT.out.later (below1 _ _)) HM.out HK.out).mono ?_; rw [HS.out]; rintro e W2 ⟨rfl, hb2⟩; have HB2 : Hid (Below w.heap.size w W2) := Below.out1 hb2; obtain ⟨y0, y1, hy⟩ := later2 (new2 w (.int .u32 a) (.int .i64 l) 24) hb2; clear hb2)
    | (go_at_call 57; refine (allT_any s _ hlt).mono ?_; rw [HN.out]; rintro e W3 ⟨za, zc, rfl, ownZ, hb3⟩; have HB3 : Hid (Below w.heap.size w W3) := stp HB2.out hb3; obtain ⟨y0, y1, hy⟩ := later2 ⟨y0, y1, hy⟩ hb3; clear hb3))
  have T3 : Hid (Tab W3 N b q Bt most full L rs T es clock m) := HT.out.later HB3.out
  have HZ : Hid (RowZ W3 za n (allK 16 s)) := ownZ.row (by omega)
  have hs3 := HB3.out.size
  clear ownZ
  go_loopw [5, 13] (fun v_ i_ W => ∃ (j : Nat), j ≤ n ∧ i_ = .int .i64 j ∧ Hid (OwnR W W3.heap.size v_ j ((selR a l L).take j)) ∧ Hid (Below W3.heap.size W3 W)) (fun _ i_ _ => n - (intOf i_).toNat)
  case atStart => exact ⟨0, Nat.zero_le _, rfl, ownR_nil _ _, Below.refl _ _⟩
  case round =>
    obtain ⟨j, hj, rfl, HO, HB⟩ := hrel
    have hsz := HB.out.size
    by_cases hltj : j < n
    · have hlt' : (j : Int) < (n : Int) := by omega
      obtain ⟨p, hp1, hp2, hp3, hp4⟩ := selR_at (a := a) (l := l) HG.out (i := j) (by rw [HS.out, HN.out]; exact hltj)
      obtain ⟨pa, pl, pd, ps, pm, pn, pt⟩ := p
      have hlk := HT.out.look hp3
      have hRp := HR.out _ hp3
      simp only [Rt.k, Ky.mk.injEq] at hp4
      obtain ⟨rfl, rfl, -⟩ := hp4
      have HP : Hid (Rt.Ok ⟨pa, pl, pd, ps, pm, pn, pt⟩) := hRp
      have HTk : Hid ((selR pa pl L).take j ++ [⟨pa, pl, pd, ps, pm, pn, pt⟩] = (selR pa pl L).take (j + 1)) := take_next hp1
      obtain ⟨bz, off, rfl, hcell⟩ := HZ.out.2.2 j hltj
      rw [HS.out] at hp2
      rw [hp2] at hcell
      simp only [Option.getD_some] at hcell
      have hcell := cell_later HB.out hcell
      obtain ⟨z0, z1, hz⟩ := later2 ⟨y0, y1, hy⟩ HB.out
      simp only [keyV, Rt.k, valRt] at hlk
      have HF : Hid (∀ w', Below W3.heap.size W3 w' → Below W3.heap.size W3 w' ∧ w'.cell? ⟨N, 0, none⟩ = some (.map (some b)) ∧ w'.cell? ⟨w.heap.size, 0, none⟩ = some (.int .u32 pa) ∧ w'.cell? ⟨w.heap.size, 1, none⟩ = some (.int .i64 pl) ∧ w'.heap[b]? = some (.map es clock)) :=
        fun w' hb => ⟨hb, (T3.out.later hb).c0, cell_later hb y0, cell_later hb y1, (T3.out.later hb).hb⟩
      clear hp1 hp2 hp3 hRp y0 y1 z0 z1
      go_wp2
      go_region_held3 (fun w' => Below W3.heap.size W3 w' ∧ w'.cell? ⟨N, 0, none⟩ = some (.map (some b)) ∧ w'.cell? ⟨w.heap.size, 0, none⟩ = some (.int .u32 pa) ∧ w'.cell? ⟨w.heap.size, 1, none⟩ = some (.int .i64 pl) ∧ w'.heap[b]? = some (.map es clock))
        (first | exact HF.out _ HB.out.drew | exact HF.out _ (by go_split_ands; assumption) | exact HF.out _ (below_al (by go_split_ands; assumption) _) | exact HF.out _ (Below.trans (by go_split_ands; assumption) hb5))
        ((refine step_appR _ rfl (.tmp 17) (.tmp 26) 42 rfl W3.heap.size Try.underlying42 infoR _ j ((selR pa pl L).take j) rfl (HO.out.later (below_dal _ _)) _ 1 1 [⟨pa, pl, pd, ps, pm, pn, pt⟩] rfl (rowR_one (R7.newAt _ _ rfl pa pl pd ps pm pn pt) rfl HP.out) (j + 1) rfl ((selR pa pl L).take (j + 1)) HTk.out (by omega) (by simp; omega) ?_; intro a5 c5 W5 own5 hb5))
      go_wp2
      go_roundw
      case rel => exact ⟨j + 1, by omega, by go_num, own5, (below_al HB.out.drew _).trans hb5⟩
      case measure => simp [intOf]; omega
    · have hlt' : ¬ (j : Int) < (n : Int) := by omega
      obtain rfl : j = n := by omega
      have HE : Hid ((selR a l L).take j = selR a l L) := by
        unfold Hid
        rw [List.take_of_length_le (by rw [selR_len_dep HG.out, HS.out, HN.out]; exact Nat.le_refl _)]
      obtain ⟨ad, cap, hv⟩ := HO.out.shape
      subst hv
      go_wp2
      go_ret
      exact ⟨ad, j, cap, rfl, by have := HO.out.base hs3; rw [HE.out] at this; exact this, stp HB3.out HB.out⟩
end
end Go.Proofs.Ytcabeclbdjfoaaa
/- Contract of the program's Best. -/
namespace Go.Proofs.Ytcabeclbdjfoaaa
open Go.RowKit

theorem own_cap {w : World} {base n cap : Nat} {ad : Option Addr} {L : List Rt} (h : OwnR w base (.slice ad n cap) n L) (h0 : 0 < n) : n ≤ cap := by
  rcases h.2 with ⟨e, e'⟩ | ⟨g, c, cur, hv, _, _, hle, _⟩
  · simp only [Value.slice.injEq] at e; omega
  · simp only [Value.slice.injEq] at hv; omega
theorem R7.kept {W W' : World} {N o : Nat} {p : Rt} (h : R7 W N o p) (hf : ∀ o, W'.cell? ⟨N, o, none⟩ = W.cell? ⟨N, o, none⟩) : R7 W' N o p := h.far hf
theorem set7_belowK {a0 W : World} {b : Nat} {a l d s m n t : Int} (h : Below b a0 W) : Below b a0 (set7 W b 0 a l d s m n t) := by
  unfold set7
  exact ((((((h.setCell (Nat.le_refl _) _).setCell (Nat.le_refl _) _).setCell (Nat.le_refl _) _).setCell (Nat.le_refl _) _).setCell (Nat.le_refl _) _).setCell (Nat.le_refl _) _).setCell (Nat.le_refl _) _
theorem set7_R7 {W : World} {b : Nat} {p : Rt} (h : R7 W b 0 p) (a l d s m n t : Int) : R7 (set7 W b 0 a l d s m n t) b 0 ⟨a, l, d, s, m, n, t⟩ := by
  obtain ⟨y0, y1, y2, y3, y4, y5, y6⟩ := h
  simp only [Nat.zero_add] at y0 y1 y2 y3 y4 y5 y6
  unfold set7
  refine ⟨?_, ?_, ?_, ?_, ?_, ?_, ?_⟩ <;> simp [go_sem, y0, y1, y2, y3, y4, y5, y6]
theorem bst_snoc (p q : Rt) (M : List Rt) : bst q (M ++ [p]) = if bet p (bst q M) = true then p else bst q M := by
  unfold bst
  rw [List.foldl_append]
  rfl
section
variable {N b : Nat} {q : Addr} {Bt : Nat → Prop} {most full : Int} {L rs : List Rt} {T : List Pr} {es : Array MapEntry} {clock m : Nat}
set_option maxHeartbeats 2000000 in
theorem best_any (a l : Int) (w : World) (h : Tab w N b q Bt most full L rs T es clock m) (hm : m ≤ 2000) (hk : Px.Ok ⟨a, l⟩) :
    Calls Try.prog 23 #[.pointer (some ⟨N, 0, none⟩), valP a l] w fun e w' => e = .returned (ansR (bestR a l L none)) ∧ Below w.heap.size w w' := by
  have HT : Hid (Tab w N b q Bt most full L rs T es clock m) := h
  have HK : Hid (Px.Ok ⟨a, l⟩) := hk
  have HM : Hid (m ≤ 2000) := hm
  have HRs : Hid (Rts (selR a l L)) := fun p hp => rts_of h.gd p (mem_selR.1 hp).1
  have hll : (selR a l L).length ≤ 64 := by have := selR_len a l L; have := h.mm; have := h.m64; omega
  have HB := bestR_none a l L
  clear h hk hm
  obtain ⟨M, hM⟩ : ∃ M, selR a l L = M := ⟨_, rfl⟩
  have HS : Hid (selR a l L = M) := hM
  rw [hM] at HB HRs hll
  clear hM
  cases M with
  | nil =>
    have HE : Hid (ansR (bestR a l L none) = .tuple #[valR 0 0 0 0 0 0 0, .bool false]) := by unfold Hid; rw [HB]; rfl
    clear HB HRs hll
    go_enter Try.func23, Try.ntmps23
    go_wp2_with (go_at_call 42; refine (routesTo_any a l _ (HT.out.later (below2 _ _ _)) HM.out HK.out).mono ?_; rw [HS.out]; rintro e W2 ⟨ad, n, cap, rfl, own, hb2⟩; obtain rfl : n = 0 := own.len.symm; have HB2 : Hid (Below w.heap.size w W2) := Below.out2 hb2; obtain ⟨y0, y1, y2, y3, y4, y5, y6⟩ := ((R7.newAt (w.alloc (objP a l)) (w.heap.size + 1) (by simp) 0 0 0 0 0 0 0).later hb2).z; have hfz : ∀ o, W2.frozen? ⟨w.heap.size + 1, o, none⟩ = false := fun o => (hb2.frozen (p := ⟨w.heap.size + 1, o, none⟩) (by simp)).trans (by simp [go_sem]))
    refine bodyPost_ret (v := .tuple #[valR 0 0 0 0 0 0 0, .bool false]) (by simp [results, Try.results23, go_sem, y0, y1, y2, y3, y4, y5, y6]) rfl ⟨?_, ?_⟩
    · rw [HE.out]
    · exact set7_below (b := w.heap.size + 1) (o := 0) HB2.out (Nat.le_succ _)
  | cons p0 M =>
    have HE : Hid (bestR a l L none = some (bst p0 M)) := HB
    clear HB
    obtain ⟨nn, hnn⟩ : ∃ n, M.length = n := ⟨_, rfl⟩
    have HN : Hid (M.length = nn) := hnn
    rw [List.length_cons, hnn] at hll
    clear hnn
    obtain ⟨pa, pl, pd, ps, pm, pn, pt⟩ := p0
    have HP0 : Hid (Rt.Ok ⟨pa, pl, pd, ps, pm, pn, pt⟩) := HRs.out _ (List.mem_cons_self ..)
    have HRm : Hid (Rts M) := fun p hp => HRs.out p (List.mem_cons_of_mem _ hp)
    go_enter Try.func23, Try.ntmps23
    go_wp2_with (go_at_call 42; refine (routesTo_any a l _ (HT.out.later (below2 _ _ _)) HM.out HK.out).mono ?_; rw [HS.out]; rintro e W2 ⟨ad, n, cap, rfl, own, hb2⟩; obtain rfl : n = nn + 1 := own.len.symm.trans (by rw [List.length_cons, HN.out]); have HRow := own.row HRs.out; obtain ⟨p', bb, off, hp', -, rfl, z⟩ := HRow.at (k := 0) (by omega); simp only [List.getElem?_cons_zero, Option.some.injEq] at hp'; subst hp'; obtain ⟨d0, d1, d2, d3, d4, d5, d6⟩ := z; simp only [Nat.zero_mul, Nat.add_zero] at d0 d1 d2 d3 d4 d5 d6; have hc : nn + 1 ≤ cap := own_cap own (by omega))
    case inl =>
      obtain rfl : nn = 0 := by omega
      have HB2 : Hid (Below w.heap.size w W2) := Below.out2 hb2
      have HRy : Hid (R7 W2 (w.heap.size + 1) 0 ⟨0, 0, 0, 0, 0, 0, 0⟩ ∧ (∀ o, W2.frozen? ⟨w.heap.size + 1, o, none⟩ = false) ∧ w.heap.size + 1 < W2.heap.size) := ⟨(R7.newAt (w.alloc (objP a l)) (w.heap.size + 1) (by simp) 0 0 0 0 0 0 0).later hb2, fun o => (hb2.frozen (p := ⟨w.heap.size + 1, o, none⟩) (by simp)).trans (by simp [go_sem]), by have := hb2.size; simp at this; omega⟩
      clear hc
      obtain ⟨K, hK⟩ : ∃ K, W2.heap.size = K := ⟨_, rfl⟩
      have HKK : Hid (W2.heap.size = K) := hK
      have HK2 : Hid (w.heap.size + 1 < K) := by have := HRy.out.2.2; unfold Hid; omega
      rw [hK]
      clear d0 d1 d2 d3 d4 d5 d6 hb2 HRow own hK
      go_loopw [23] (fun i_ W => ∃ (j : Nat) (x : Rt), j ≤ 0 ∧ i_ = .int .i64 j ∧ Hid (bst ⟨pa, pl, pd, ps, pm, pn, pt⟩ (M.take j) = x) ∧ Hid (R7 W K 0 x) ∧ Hid x.Ok ∧ Hid (Below K W2 W) ∧ Hid ((∀ o, W.frozen? ⟨K, o, none⟩ = false) ∧ K < W.heap.size)) (fun i_ _ => 0 - (intOf i_).toNat)
      case atStart => exact ⟨0, _, Nat.zero_le _, rfl, rfl, R7.newAt W2 K HKK.out.symm pa pl pd ps pm pn pt, HP0.out, (Below.refl _ _).alloc (by rw [HKK.out]; exact Nat.le_refl _) _, fun o => by simp [go_sem, ← HKK.out], by simp [← HKK.out]⟩
      case round =>
        obtain ⟨j, x, hj, rfl, HX, HR, HO, HB, HF⟩ := hrel
        have HBw : Hid (Below w.heap.size w wr) := HB2.out.trans (HB.out.mono (by have := HK2.out; omega))
        obtain rfl : j = 0 := by omega
        have HE2 : Hid (ansR (bestR a l L none) = .tuple #[valR x.a x.l x.d x.s x.m x.n x.t, .bool true]) := by
          unfold Hid
          rw [HE.out, ← HX.out, List.take_of_length_le (by rw [HN.out]; omega)]
          rfl
        obtain ⟨xa, xl, xd, xs, xm, xn, xt⟩ := x
        obtain ⟨e0, e1, e2, e3, e4, e5, e6⟩ := HR.out
        simp only [Nat.zero_add] at e0 e1 e2 e3 e4 e5 e6
        obtain ⟨y0, y1, y2, y3, y4, y5, y6⟩ := (HRy.out.1.kept (fun o => HB.out.cell (p := ⟨w.heap.size + 1, o, none⟩) HK2.out)).z
        have hfz : ∀ o, wr.frozen? ⟨w.heap.size + 1, o, none⟩ = false := fun o => (HB.out.frozen (p := ⟨w.heap.size + 1, o, none⟩) HK2.out).trans (HRy.out.2.1 o)
        go_wp2
        refine bodyPost_ret (v := .tuple #[valR xa xl xd xs xm xn xt, .bool true]) (by simp [results, Try.results23, go_sem, y0, y1, y2, y3, y4, y5, y6]) rfl ⟨?_, ?_⟩
        · rw [HE2.out]
        · exact set7_below (b := w.heap.size + 1) (o := 0) HBw.out (Nat.le_succ _)
    case inr =>
      have HB2 : Hid (Below w.heap.size w W2) := Below.out2 hb2
      have HRy : Hid (R7 W2 (w.heap.size + 1) 0 ⟨0, 0, 0, 0, 0, 0, 0⟩ ∧ (∀ o, W2.frozen? ⟨w.heap.size + 1, o, none⟩ = false) ∧ w.heap.size + 1 < W2.heap.size) := ⟨(R7.newAt (w.alloc (objP a l)) (w.heap.size + 1) (by simp) 0 0 0 0 0 0 0).later hb2, fun o => (hb2.frozen (p := ⟨w.heap.size + 1, o, none⟩) (by simp)).trans (by simp [go_sem]), by have := hb2.size; simp at this; omega⟩
      have HZ : Hid (RowR W2 (some ⟨bb, off + 7, none⟩) nn M) := by unfold Hid; have := HRow.drop 1 nn (by omega); simpa using this
      clear hc
      obtain ⟨K, hK⟩ : ∃ K, W2.heap.size = K := ⟨_, rfl⟩
      have HKK : Hid (W2.heap.size = K) := hK
      have HK2 : Hid (w.heap.size + 1 < K) := by have := HRy.out.2.2; unfold Hid; omega
      rw [hK]
      clear d0 d1 d2 d3 d4 d5 d6 hb2 HRow own hK
      go_loopw [23] (fun i_ W => ∃ (j : Nat) (x : Rt), j ≤ nn ∧ i_ = .int .i64 j ∧ Hid (bst ⟨pa, pl, pd, ps, pm, pn, pt⟩ (M.take j) = x) ∧ Hid (R7 W K 0 x) ∧ Hid x.Ok ∧ Hid (Below K W2 W) ∧ Hid ((∀ o, W.frozen? ⟨K, o, none⟩ = false) ∧ K < W.heap.size)) (fun i_ _ => nn - (intOf i_).toNat)
      case atStart => exact ⟨0, _, Nat.zero_le _, rfl, rfl, R7.newAt W2 K HKK.out.symm pa pl pd ps pm pn pt, HP0.out, (Below.refl _ _).alloc (by rw [HKK.out]; exact Nat.le_refl _) _, fun o => by simp [go_sem, ← HKK.out], by simp [← HKK.out]⟩
      case round =>
        obtain ⟨j, x, hj, rfl, HX, HR, HO, HB, HF⟩ := hrel
        have HBw : Hid (Below w.heap.size w wr) := HB2.out.trans (HB.out.mono (by have := HK2.out; omega))
        by_cases hlt : j < nn
        · have hlt' : (j : Int) < (nn : Int) := by omega
          obtain ⟨⟨xa, xl, xd, xs, xm, xn, xt⟩, b', off', he, hok, ho, z⟩ := HZ.out.at hlt
          simp only [Option.some.injEq, Addr.mk.injEq, and_true] at ho
          obtain ⟨rfl, rfl⟩ := ho
          have z := z.kept (fun o => HB.out.cell (p := ⟨bb, o, none⟩) (by have := block_lt_of_cell z.1; rw [HKK.out] at this; exact this))
          obtain ⟨d0, d1, d2, d3, d4, d5, d6⟩ := z
          simp only at d0 d1 d2 d3 d4 d5 d6
          obtain ⟨T, rfl⟩ : ∃ T : Nat, xt = (T : Int) := ⟨xt.toNat, by have := hok.t0; simp only at this; omega⟩
          have hT : T < 65536 := by have := hok.t1; simp only at this; omega
          obtain ⟨ba, bl, bd, bs, bm, bn, bt⟩ := x
          obtain ⟨U, rfl⟩ : ∃ U : Nat, bt = (U : Int) := ⟨bt.toNat, by have := HO.out.t0; simp only at this; omega⟩
          have hU : U < 65536 := by have := HO.out.t1; simp only at this; omega
          obtain ⟨v, hv⟩ : ∃ v, bet ⟨xa, xl, xd, xs, xm, xn, T⟩ ⟨ba, bl, bd, bs, bm, bn, U⟩ = v := ⟨_, rfl⟩
          have HX' : Hid (bst ⟨pa, pl, pd, ps, pm, pn, pt⟩ (M.take (j + 1)) = if v = true then ⟨xa, xl, xd, xs, xm, xn, T⟩ else ⟨ba, bl, bd, bs, bm, bn, U⟩) := by
            unfold Hid
            rw [← take_next he, bst_snoc, HX.out, hv]
          have HV : Hid (bet ⟨xa, xl, xd, xs, xm, xn, T⟩ ⟨ba, bl, bd, bs, bm, bn, U⟩ = v) := hv
          have HOx : Hid (Rt.Ok ⟨xa, xl, xd, xs, xm, xn, T⟩) := hok
          have hKr := HF.out.2
          obtain ⟨e0, e1, e2, e3, e4, e5, e6⟩ := HR.out
          simp only [Nat.zero_add] at e0 e1 e2 e3 e4 e5 e6
          clear he hok hv
          cases v
          · go_wp2_with (go_at_call 13; refine (better_any xa xl xd xs xm xn ba bl bd bs bm bn T U _ hT hU HV.out).mono ?_; rintro e W4 ⟨rfl, hb4⟩)
            have HB4 : Hid (Below wr.heap.size wr W4) := Below.out1 hb4
            go_wp2
            go_roundw
            case rel => exact ⟨j + 1, _, by omega, by go_num, HX', HR.out.later HB4.out, HO, HB.out.trans (HB4.out.mono (Nat.le_of_lt hKr)), fun o => (HB4.out.frozen (p := ⟨K, o, none⟩) hKr).trans (HF.out.1 o), Nat.lt_of_lt_of_le hKr HB4.out.size⟩
            case measure => simp [intOf]; omega
          · go_wp2_with (go_at_call 13; refine (better_any xa xl xd xs xm xn ba bl bd bs bm bn T U _ hT hU HV.out).mono ?_; rintro e W4 ⟨rfl, hb4⟩; obtain ⟨z0, z1, z2, z3, z4, z5, z6⟩ := ((R7.new wr xa xl xd xs xm xn T).later hb4).z; have HB4 : Hid (Below wr.heap.size wr W4) := Below.out1 hb4; obtain ⟨e0, e1, e2, e3, e4, e5, e6⟩ := (HR.out.later HB4.out).z; have hf4 : ∀ o, W4.frozen? ⟨K, o, none⟩ = false := fun o => (HB4.out.frozen (p := ⟨K, o, none⟩) hKr).trans (HF.out.1 o))
            go_roundw
            case rel => exact ⟨j + 1, _, by omega, by go_num, HX', set7_R7 (HR.out.later HB4.out) xa xl xd xs xm xn T, HOx.out, set7_belowK (HB.out.trans (HB4.out.mono (Nat.le_of_lt hKr))), fun o => (set7_frozen _).trans (hf4 o), by simp; exact Nat.lt_of_lt_of_le hKr HB4.out.size⟩
            case measure => simp [intOf]; omega
        · have hlt' : ¬ (j : Int) < (nn : Int) := by omega
          obtain rfl : j = nn := by omega
          have HE2 : Hid (ansR (bestR a l L none) = .tuple #[valR x.a x.l x.d x.s x.m x.n x.t, .bool true]) := by
            unfold Hid
            rw [HE.out, ← HX.out, List.take_of_length_le (by rw [HN.out]; omega)]
            rfl
          obtain ⟨xa, xl, xd, xs, xm, xn, xt⟩ := x
          obtain ⟨e0, e1, e2, e3, e4, e5, e6⟩ := HR.out
          simp only [Nat.zero_add] at e0 e1 e2 e3 e4 e5 e6
          obtain ⟨y0, y1, y2, y3, y4, y5, y6⟩ := (HRy.out.1.kept (fun o => HB.out.cell (p := ⟨w.heap.size + 1, o, none⟩) HK2.out)).z
          have hfz : ∀ o, wr.frozen? ⟨w.heap.size + 1, o, none⟩ = false := fun o => (HB.out.frozen (p := ⟨w.heap.size + 1, o, none⟩) HK2.out).trans (HRy.out.2.1 o)
          go_wp2
          refine bodyPost_ret (v := .tuple #[valR xa xl xd xs xm xn xt, .bool true]) (by simp [results, Try.results23, go_sem, y0, y1, y2, y3, y4, y5, y6]) rfl ⟨?_, ?_⟩
          · rw [HE2.out]
          · exact set7_below (b := w.heap.size + 1) (o := 0) HBw.out (Nat.le_succ _)
end
end Go.Proofs.Ytcabeclbdjfoaaa
/- Contracts of the program's Find and All. -/
namespace Go.Proofs.Ytcabeclbdjfoaaa
open Go.RowKit

section
variable {N b : Nat} {q : Addr} {Bt : Nat → Prop} {most full : Int} {L rs : List Rt} {T : List Pr} {es : Array MapEntry} {clock m : Nat}
theorem box7 (w : World) {W : World} (hb : Below (w.alloc (objR 0 0 0 0 0 0 0)).heap.size (w.alloc (objR 0 0 0 0 0 0 0)) W) : R7 W w.heap.size 0 ⟨0, 0, 0, 0, 0, 0, 0⟩ ∧ (∀ o, W.frozen? ⟨w.heap.size, o, none⟩ = false) ∧ w.heap.size < W.heap.size :=
  ⟨(R7.new w 0 0 0 0 0 0 0).later hb, fun o => (hb.frozen (p := ⟨w.heap.size, o, none⟩) (by simp)).trans (by simp [go_sem]), by have := hb.size; simp at this; omega⟩
set_option maxHeartbeats 2000000 in
theorem find_any9 (x : Int) (w : World) (h : Tab w N b q Bt most full L rs T es clock m) (hm : m ≤ 2000) (h0 : 0 ≤ x) (h1 : x < 4294967296) :
    Calls Try.prog 25 #[.pointer (some ⟨N, 0, none⟩), .int .u32 x] w fun e w' => e = .returned (ansR (findR x L)) ∧ Below w.heap.size w w' := by
  have HT : Hid (Tab w N b q Bt most full L rs T es clock m) := h
  have HM : Hid (m ≤ 2000) := hm
  have hgt := (trieC.good h.tr).1
  have hdm := h.dm
  have c1 := cell_later (below1 w (objR 0 0 0 0 0 0 0)) h.c1
  have HFd : Hid (∀ W, Below w.heap.size w W → Calls Try.prog 43 #[.pointer (some q), .int .u32 x] W fun e w' => e = .returned (.tuple #[valX (fndA x T) (fndL x T), .int .i64 (fndN x T), .bool (fndB x T)]) ∧ Below W.heap.size W w') := fun W hb => trieC.find x (trieC.later h.tr hb) hm h0 h1
  clear h hm
  unfold fndA fndL fndN fndB at HFd
  cases hf : findP x T none with
  | none =>
    have HE : Hid (ansR (findR x L) = .tuple #[valR 0 0 0 0 0 0 0, .bool false]) := by unfold Hid; rw [doms_find_none hdm hf]; rfl
    rw [hf] at HFd
    simp only [Option.map_none, Option.getD_none, Option.isSome_none] at HFd
    clear hf hdm hgt
    go_enter Try.func25, Try.ntmps25
    go_wp2_with (go_at_call 43; refine (HFd.out _ (below1 _ _)).mono ?_; rintro e W2 ⟨rfl, hb2⟩; obtain ⟨r7, hfz, hl⟩ := box7 w hb2; have HB2 : Hid (Below w.heap.size w W2) := Below.out1 hb2; obtain ⟨y0, y1, y2, y3, y4, y5, y6⟩ := (r7.later (below1 W2 (objP 0 0))).z; have hfz : ∀ o, (W2.alloc (objP 0 0)).frozen? ⟨w.heap.size, o, none⟩ = false := (fun o => ((below1 W2 (objP 0 0)).frozen (p := ⟨w.heap.size, o, none⟩) hl).trans (hfz o)); clear hl r7 hb2)
    refine bodyPost_ret (v := .tuple #[valR 0 0 0 0 0 0 0, .bool false]) (by simp [results, Try.results25, go_sem, y0, y1, y2, y3, y4, y5, y6]) rfl ⟨?_, ?_⟩
    · rw [HE.out]
    · exact set7_below (b := w.heap.size) (o := 0) (below_al HB2.out _) (Nat.le_refl _)
  | some p =>
    obtain ⟨hp, -, -⟩ := find_some hf
    have hml := may_len (hgt.m p hp)
    have hu := hgt.u p hp
    have HK : Hid (Px.Ok ⟨p.a, p.l⟩) := ⟨hu.1, hu.2, by show _ ≤ p.l; omega, by show p.l ≤ _; omega⟩
    have HE : Hid (findR x L = bestR p.a p.l L none) := doms_find hdm hf
    rw [hf] at HFd
    simp only [Option.map_some, Option.getD_some, Option.isSome_some] at HFd
    obtain ⟨pa, pl, pn⟩ := p
    obtain ⟨⟨ra, rl, rd, rs', rm, rn, rt⟩, hrr⟩ : ∃ r, (bestR pa pl L none).getD rt0 = r := ⟨_, rfl⟩
    obtain ⟨ok, hok⟩ : ∃ o, (bestR pa pl L none).isSome = o := ⟨_, rfl⟩
    have HA : Hid (ansR (bestR pa pl L none) = .tuple #[valR ra rl rd rs' rm rn rt, .bool ok]) := by unfold Hid ansR; rw [hrr, hok]; rfl
    clear hf hdm hgt hp hml hu hrr hok
    go_enter Try.func25, Try.ntmps25
    go_wp2_with (first
      | (go_at_call 43; refine (HFd.out _ (below1 _ _)).mono ?_; rintro e W2 ⟨rfl, hb2⟩; obtain ⟨r7, hfz, hl⟩ := box7 w hb2; have HB2 : Hid (Below w.heap.size w W2) := Below.out1 hb2)
      | (go_at_call 23; refine (best_any pa pl _ (HT.out.later (below_al HB2.out _)) HM.out HK.out).mono ?_; rw [HA.out]; rintro e W3 ⟨rfl, hb3⟩; have HB3 : Hid (Below W2.heap.size W2 W3) := Below.out1 hb3; obtain ⟨y0, y1, y2, y3, y4, y5, y6⟩ := (r7.later HB3.out).z; have hfz : ∀ o, W3.frozen? ⟨w.heap.size, o, none⟩ = false := fun o => (HB3.out.frozen (p := ⟨w.heap.size, o, none⟩) hl).trans (hfz o)))
    refine bodyPost_ret (v := .tuple #[valR ra rl rd rs' rm rn rt, .bool ok]) (by simp [results, Try.results25, go_sem, y0, y1, y2, y3, y4, y5, y6]) rfl ⟨?_, ?_⟩
    · rw [HE.out, HA.out]
    · exact set7_below (b := w.heap.size) (o := 0) (stp HB2.out HB3.out) (Nat.le_refl _)
set_option maxHeartbeats 2000000 in
theorem all_any9 (w : World) (h : Tab w N b q Bt most full L rs T es clock m) (hm : m ≤ 2000) :
    Calls Try.prog 22 #[.pointer (some ⟨N, 0, none⟩)] w fun e w' => ∃ ad n cap, e = .returned (.slice ad n cap) ∧ OwnR w' w.heap.size (.slice ad n cap) n L ∧ Below w.heap.size w w' := by
  have HT : Hid (Tab w N b q Bt most full L rs T es clock m) := h
  have HM : Hid (m ≤ 2000) := hm
  have HG := (trieC.good h.tr).1
  have HPx : Hid (Pxs (T.map keyX)) := keys_ok HG
  have c1 := h.c1
  have HAll : Hid (T.flatMap (fun q => selR q.a q.l L) = L) := doms_all h.dm HG.s h.gd
  have HLn : Hid (L.length ≤ 64) := by unfold Hid; have := h.mm; have := h.m64; omega
  have hTl : T.length ≤ 64 := Nat.le_trans (doms_len h.dm HG.s) HLn.out
  have HRs : Hid (Rts L) := rts_of h.gd
  have HC : Hid (Calls Try.prog 41 #[.pointer (some q)] w fun e w' => ∃ ad n cap, e = .returned (.slice ad n cap) ∧ OwnX w' w.heap.size (.slice ad n cap) n (T.map keyX) ∧ Below w.heap.size w w') := trieC.all h.tr hm
  clear h hm HG
  go_enter Try.func22, Try.ntmps22
  go_wp2_with (go_at_call 41; refine HC.out.mono ?_; rintro e W1 ⟨xa, n, xc, rfl, ownX, hb1⟩)
  have HB1 : Hid (Below w.heap.size w W1) := hb1
  have HX : Hid (RowX W1 xa n (T.map keyX)) := ownX.row HPx.out
  have HN : Hid (T.length = n) := by have := HX.out.1; rw [List.length_map] at this; exact this
  have hs1 := hb1.size
  rw [HN.out] at hTl
  clear ownX hb1
  go_loopw [3, 12] (fun v_ i_ W => ∃ (j k : Nat), j ≤ n ∧ i_ = .int .i64 j ∧ Hid (OwnR W W1.heap.size v_ k ((T.take j).flatMap fun q => selR q.a q.l L)) ∧ Hid (Below W1.heap.size W1 W)) (fun _ i_ _ => n - (intOf i_).toNat)
  case atStart => exact ⟨0, 0, Nat.zero_le _, rfl, ownR_nil _ _, Below.refl _ _⟩
  case round =>
    obtain ⟨j, k, hj, rfl, HO, HB⟩ := hrel
    have HBw : Hid (Below w.heap.size w wr) := stp HB1.out HB.out
    by_cases hlt : j < n
    · have hlt' : (j : Int) < (n : Int) := by omega
      have hl : j < T.length := by rw [HN.out]; exact hlt
      obtain ⟨⟨pa, pl, pn⟩, hp⟩ : ∃ p, T[j] = p := ⟨_, rfl⟩
      have he : T[j]? = some ⟨pa, pl, pn⟩ := by rw [List.getElem?_eq_getElem hl, hp]
      obtain ⟨⟨ka, kl⟩, bb, off, hk, hok, rfl, z⟩ := (HX.out.later HB.out).at hlt
      rw [List.getElem?_map, he] at hk
      simp only [Option.map_some, Option.some.injEq, keyX, Px.mk.injEq] at hk
      obtain ⟨rfl, rfl⟩ := hk
      obtain ⟨d0, d1⟩ := z
      simp only at d0 d1
      have HK : Hid (Px.Ok ⟨pa, pl⟩) := hok
      have HE : Hid (((T.take j).flatMap fun q => selR q.a q.l L) ++ selR pa pl L = (T.take (j + 1)).flatMap fun q => selR q.a q.l L) := by
        unfold Hid
        rw [List.take_add_one, he]
        simp
      have hkl : k + (selR pa pl L).length ≤ 64 := by
        have h1 := HO.out.len
        have h2 := congrArg List.length HE.out
        have h3 : ((T.take (j + 1)).flatMap fun q => selR q.a q.l L).length ≤ L.length := by
          have := congrArg List.length HAll.out
          rw [← List.take_append_drop (j + 1) T, List.flatMap_append, List.length_append] at this
          omega
        rw [List.length_append, h1] at h2
        have := HLn.out
        omega
      clear hp he hok
      go_wp2_with (first
        | (go_at_call 42; refine (routesTo_any pa pl _ (HT.out.later (below_al HBw.out _)) HM.out HK.out).mono ?_; rintro e W3 ⟨a3, n3, c3, rfl, own3, hb3⟩; have HB3 : Hid (Below wr.heap.size wr W3) := Below.out1 hb3; obtain rfl := own3.len)
        | (at_builtin; refine wpList_appR _ rfl (.tmp 16) (.tmp 19) 42 rfl W1.heap.size Try.underlying42 infoR _ k _ rfl (HO.out.later HB3.out) a3 _ c3 (selR pa pl L) rfl (own3.row fun p hp => HRs.out p (mem_selR.1 hp).1) _ rfl _ HE.out (by omega) (Nat.le_trans HB.out.size HB3.out.size) ?_; intro a4 c4 W4 own4 hb4))
      go_roundw
      case rel => exact ⟨j + 1, _, by omega, by go_num, own4, (stp HB.out HB3.out).trans hb4⟩
      case measure => simp [intOf]; omega
    · have hlt' : ¬ (j : Int) < (n : Int) := by omega
      obtain rfl : j = n := by omega
      have HE : Hid (((T.take j).flatMap fun q => selR q.a q.l L) = L) := by
        unfold Hid
        rw [List.take_of_length_le (by rw [HN.out]; exact Nat.le_refl _)]
        exact HAll.out
      obtain ⟨ad, cap, hv⟩ := HO.out.shape
      subst hv
      go_wp2
      go_ret
      exact ⟨ad, k, cap, rfl, by have := HO.out.base hs1; rw [HE.out] at this; exact this, HBw.out⟩
end
end Go.Proofs.Ytcabeclbdjfoaaa
