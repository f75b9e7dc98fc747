/- The contract of Decode: its loop, from entry to entry. -/
import Derived.Test.YtabpillcpnnidaaConE
namespace Go.Proofs.Ytabpillcpnnidaa
open Go.RowKit

theorem PF.lift {W W' : World} {B N : Nat} {c : Int} {wh : Bool} {a : Option Addr} {n cap : Nat} (h : PF W N c wh a n cap) (hb : Below B W W') (hN : N < B) : PF W' N c wh a n cap :=
  ⟨⟨(hb.cell (p := ⟨N, 0, none⟩) hN).trans h.1.1, (hb.cell (p := ⟨N, 1, none⟩) hN).trans h.1.2.1, (hb.cell (p := ⟨N, 2, none⟩) hN).trans h.1.2.2.1, Nat.lt_of_lt_of_le h.1.2.2.2 hb.size⟩, fun o => (hb.frozen (p := ⟨N, o, none⟩) hN).trans (h.2 o)⟩
theorem setCell_block (W : World) (a : Addr) (v : Value) (k : Nat) (h : a.block ≠ k) : (W.setCell a v).heap[k]? = W.heap[k]? := by
  unfold World.setCell
  split <;> simp only [Array.getElem?_modify, if_neg h]
theorem PF.set2 {W : World} {N : Nat} {c : Int} {wh : Bool} {a a' : Option Addr} {n cap n' cap' : Nat} (h : PF W N c wh a n cap) : PF (W.setCell ⟨N, 2, none⟩ (.slice a' n' cap')) N c wh a' n' cap' := by
  obtain ⟨⟨h0, h1, h2, hz⟩, hf⟩ := h
  exact ⟨⟨by simp [go_sem, h0], by simp [go_sem, h1], by simp [go_sem, h2], by simpa using hz⟩, fun o => by simp [go_sem, hf]⟩
theorem PF.far {W : World} {M N o : Nat} {v : Value} {c : Int} {wh : Bool} {a : Option Addr} {n cap : Nat} (h : PF W N c wh a n cap) (hne : M ≠ N) : PF (W.setCell ⟨M, o, none⟩ v) N c wh a n cap := by
  obtain ⟨⟨h0, h1, h2, hz⟩, hf⟩ := h
  refine ⟨⟨?_, ?_, ?_, by simpa using hz⟩, fun o => ?_⟩
  · rw [World.cell?_setCell_far _ _ _ _ (by exact hne)]; exact h0
  · rw [World.cell?_setCell_far _ _ _ _ (by exact hne)]; exact h1
  · rw [World.cell?_setCell_far _ _ _ _ (by exact hne)]; exact h2
  · rw [World.frozen?_of_block (setCell_block W _ v N (by exact hne))]; exact hf o
theorem OwnE.set {W : World} {M o : Nat} {x : Value} {base : Nat} {v : Value} {n : Nat} {es : List Ent} (h : OwnE W base v n es) (hM : M < base) : OwnE (W.setCell ⟨M, o, none⟩ x) base v n es :=
  h.keep fun k hk => setCell_block W _ x k (by show M ≠ k; omega)

theorem dec_step {r i q : Nat} {l : List Int} {es : List Ent} (h : decN r (l.drop 4) = (decN (i + 1) (l.drop q)).map (es ++ ·)) (hb : decB ((l.drop q).take 20) = true) : decN r (l.drop 4) = (decN i (l.drop (q + 20))).map ((es ++ [decE ((l.drop q).take 20)]) ++ ·) := by
  rw [h, decN, if_pos hb, List.drop_drop, Option.map_map]
  congr 1
  funext x
  simp
theorem dec_fail {r i q : Nat} {l : List Int} {es : List Ent} (h : decN r (l.drop 4) = (decN (i + 1) (l.drop q)).map (es ++ ·)) (hb : decB ((l.drop q).take 20) = false) : decN r (l.drop 4) = none := by
  rw [h, decN, hb]; rfl
theorem dec_end {r q : Nat} {l : List Int} {es : List Ent} (h : decN r (l.drop 4) = (decN 0 (l.drop q)).map (es ++ ·)) : decN r (l.drop 4) = some es := by
  rw [h]; simp [decN]
/-- What is left behind k bytes. -/
theorem Row8.rest {w : World} {a : Option Addr} {n : Nat} {l : List Int} (h : Row8 w a n l) (k cap : Nat) (hk : k ≤ n) (hc : n ≤ cap) (b off : Nat) (ha : a = some ⟨b, off, none⟩) :
    Row8 w (if cap = k then some ⟨b, off, none⟩ else some ⟨b, off + k, none⟩) (n - k) (l.drop k) := by
  subst ha
  split
  · have hz : n - k = 0 := by omega
    rw [hz]
    refine ⟨by rw [List.length_drop, h.1]; exact hz, by omega, fun x hx => h.2.2.1 x (List.mem_of_mem_drop hx), fun i hi => by omega⟩
  · exact h.drop k hk

theorem decodeEntry_at (a : Option Addr) (cap : Nat) (l : List Int) (e1 e2 e3 e4 e5 : Int) (w : World) (hr : Row8 w a 20 l) (he : decE l = ⟨e1, e2, e3, e4, e5⟩) {v : Bool} (hv : decB l = v) :
    Calls Try.prog 26 #[.slice a 20 cap] w fun e w' => e = .returned (.tuple #[.agg #[.int .u32 e1, .int .i64 e2, .int .u16 e3, .int .u32 e4, .int .i64 e5], .bool v]) ∧ Below w.heap.size w w' := by
  refine (decodeEntry_any a cap l w hr hv).mono ?_
  rintro e w' ⟨rfl, hb⟩
  have : decV l = .agg #[.int .u32 (decE l).a, .int .i64 (decE l).l, .int .u16 (decE l).t, .int .u32 (decE l).x, .int .i64 (decE l).m] := rfl
  rw [this, he]
  exact ⟨rfl, hb⟩
theorem rowE_at {W : World} {N M : Nat} {e : Ent} (h : E5 W M 0 e) (hm : M = N) (hk : e.Ok) : RowE W (some ⟨N, 0, none⟩) 1 [e] := by
  subst hm; exact rowE_one h hk
theorem fin13a {w V : World} {a : Act} {p : Pkt} {ad : Option Addr} {k cp : Nat} {c0 : Int} {w0 : Bool} {a0 : Option Addr} {n0 cap0 : Nat} {o : Obj} (h : P3 V w.heap.size c0 w0 a0 n0 cap0) (hB : Below w.heap.size w V)
    (h2 : a.tmps[2]?.getD undef = .pointer (some ⟨w.heap.size, 0, none⟩)) (h3 : a.tmps[3]?.getD undef = .int .i64 p.x) (hd : a.defers = []) (hr : RowE ((set3 V w.heap.size p.c p.w ad k cp).alloc o) ad k p.es) :
    bodyPost Try.prog Try.f13 (Decoded w p) Exit.ret a ((set3 V w.heap.size p.c p.w ad k cp).alloc o) := by
  obtain ⟨c0, c1, c2⟩ := set3_cells h p.c p.w ad k cp
  have hb := below1 (set3 V w.heap.size p.c p.w ad k cp) o
  have c0 := cell_later hb c0
  have c1 := cell_later hb c1
  have c2 := cell_later hb c2
  refine bodyPost_ret (v := .tuple #[.agg #[.int .i64 p.c, .bool p.w, .slice ad k cp], .int .i64 p.x]) ?_ hd ⟨ad, k, cp, rfl, hr, stp (set3_below hB (Nat.le_refl _) _ _ _ _ _) hb⟩
  simp [results, Try.results13, go_sem, h2, h3, c0, c1, c2]

/-- At the label: k entries are read, j are left. -/
def DJ (w : World) (N : Nat) (x : Int) (l : List Int) (r : Nat) (a' : Act) (W : World) : Prop :=
  ∃ (k j m cc : Nat) (ra ad : Option Addr) (cp : Nat) (es : List Ent) (u0 u1 u6 u7 u8 u9 u10 u11 u12 u13 u14 u15 u16 u17 u18 u19 u20 u21 u22 u23 u24 u25 u26 u27 u28 u29 u30 u31 u32 u33 u34 u35 u36 u37 u38 u39 u40 u41 u42 u43 u44 u45 u46 u47 u48 u49 u50 u51 u52 u53 : Value), a' = { tmps := #[u0, u1, .pointer (some ⟨w.heap.size, 0, none⟩), .int .i64 0, .pointer (some ⟨N, 0, none⟩), .slice ra m cc, u6, u7, u8, u9, u10, u11, u12, u13, u14, u15, u16, u17, u18, u19, u20, u21, u22, u23, u24, u25, u26, u27, u28, u29, u30, u31, u32, u33, u34, u35, u36, u37, u38, u39, u40, u41, u42, u43, u44, u45, u46, u47, u48, u49, u50, u51, u52, u53], defers := [] } ∧
    k + j = r ∧ m = 20 * j ∧ m ≤ cc ∧ Row8 w ra m (l.drop (4 + 20 * k)) ∧ PF W w.heap.size 0 false none 0 0 ∧ PF W N x false ad k cp ∧ OwnE W (N + 1) (.slice ad k cp) k es ∧ Ents es ∧
    decN r (l.drop 4) = (decN j (l.drop (4 + 20 * k))).map (es ++ ·) ∧ Below w.heap.size w W
def lenV : Value → Nat
  | .slice _ n _ => n
  | _ => 0
noncomputable def afterScope : Code → Option Code
  | .scope c => findLabel c 0
  | .seq a b => match afterScope a with
    | some c => some c
    | none => afterScope b
  | .block _ c => afterScope c
  | _ => none
def Code.second : Code → Code
  | .seq _ b => b
  | c => c
noncomputable def restCode : Code := Code.second ((Try.f13.body.bind afterScope).getD .skip)

set_option maxRecDepth 100000 in
set_option maxHeartbeats 4000000 in
theorem pass13 (w : World) (N : Nat) (x : Int) (l : List Int) (r : Nat) (hl : l.length = 4 + 20 * r) (hN : w.heap.size < N) (hr25 : r ≤ 25) (hx : l[0]?.getD 0 = x)
    (hf : framed l = true) (hw : isWhole l = false) (a : Act) (W : World) (hJ : DJ w N x l r a W) :
    Code.wp Try.prog restCode (Exit.jump 0 (fun a' w' => DJ w N x l r a' w' ∧ lenV (a'.tmps.getD 5 undef) < lenV (a.tmps.getD 5 undef)) (bodyPost Try.prog Try.f13 (Decoded w (dec l)))) a W := by
  obtain ⟨k, j, m, cc, ra, ad, cp, es, u0, u1, u6, u7, u8, u9, u10, u11, u12, u13, u14, u15, u16, u17, u18, u19, u20, u21, u22, u23, u24, u25, u26, u27, u28, u29, u30, u31, u32, u33, u34, u35, u36, u37, u38, u39, u40, u41, u42, u43, u44, u45, u46, u47, u48, u49, u50, u51, u52, u53, rfl, hkj, hm, hmc, hrow, hP0, hP, hown, hes, hdec, hB⟩ := hJ
  have hr' : (l.length - 4) / 20 = r := by omega
  have HR : Hid (Row8 w ra m (l.drop (4 + 20 * k))) := hrow
  have HO : Hid (OwnE W (N + 1) (.slice ad k cp) k es) := hown
  have HB : Hid (Below w.heap.size w W) := hB
  have HP : Hid (PF W N x false ad k cp) := hP
  have HP0 : Hid (PF W w.heap.size 0 false none 0 0) := hP0
  obtain ⟨⟨p0, p1, p2, pz⟩, pf⟩ := hP
  obtain ⟨⟨r0, r1, r2, rz⟩, rf⟩ := hP0
  conv => arg 2; whnf
  cases j with
  | zero =>
    obtain rfl : m = 0 := by omega
    have hd : dec l = ⟨x, false, es, 0⟩ := by rw [dec_some hf (by omega) hw (by rw [hr']; exact dec_end hdec), hx]
    have HD : Hid (dec l = ⟨x, false, es, 0⟩) := hd
    clear hdec hd hrow hown hB hmc hf hw hx hl hr' hm hkj
    go_wp2
    simp only [Exit.jump]
    rw [HD.out]
    have hne : w.heap.size ≠ N := by omega
    exact fin13 (p := ⟨x, false, es, 0⟩) HP0.out.1 HB.out rfl rfl rfl ((((HO.out.set (by omega)).set (by omega)).set (by omega)).row hes)
  | succ i =>
    obtain ⟨m', rfl⟩ : ∃ m', m = m' + 20 := ⟨m - 20, by omega⟩
    obtain ⟨c', rfl⟩ : ∃ c', cc = c' + 20 := ⟨cc - 20, by omega⟩
    obtain ⟨b, off, rfl, -⟩ := HR.out.at (by omega)
    have HT : Hid (Row8 w (some ⟨b, off, none⟩) 20 ((l.drop (4 + 20 * k)).take 20)) := HR.out.take 20 (by omega)
    have HX := HR.out.rest 20 (c' + 20) (by omega) hmc b off rfl
    have HM : Hid (m' + 20 = 20 * (i + 1)) := hm
    have HK : Hid (k + (i + 1) = r) := hkj
    have hm5 : m' ≤ 500 := by omega
    have hk5 : k ≤ 25 := by omega
    have hmc' : m' ≤ c' := by omega
    clear hm hkj hmc
    cases hb : decB ((l.drop (4 + 20 * k)).take 20)
    · have HD : Hid (dec l = ⟨0, false, [], 2⟩) := dec_none hf (by omega) hw (by rw [hr']; exact dec_fail hdec hb)
      clear hdec hrow hown hB hf hw hx hl hr' HX
      go_wp2_with (go_at_call 26; refine (decodeEntry_any _ _ _ _ (HT.out.later HB.out) hb).mono ?_; rintro e W1 ⟨rfl, hb1⟩; unfold decV; obtain ⟨⟨r0, r1, r2, rz⟩, rf⟩ := HP0.out.later hb1)
      simp only [Exit.jump]
      rw [HD.out]
      exact fin13a (p := ⟨0, false, [], 2⟩) (HP0.out.later hb1).1 (stp HB.out hb1) rfl rfl rfl (rowE_none _)
    · have HD := dec_step hdec hb
      have HE : Hid (decE ((l.drop (4 + 20 * k)).take 20) = ⟨getV ((l.drop (4 + 20 * k)).take 20) 4 4, bitsI (getV ((l.drop (4 + 20 * k)).take 20) 8 4), getV ((l.drop (4 + 20 * k)).take 20) 2 2, getV ((l.drop (4 + 20 * k)).take 20) 12 4, getV ((l.drop (4 + 20 * k)).take 20) 16 4⟩) := rfl
      have hok := decE_ok HT.out.2.2.1
      rw [show 4 + 20 * k + 20 = 4 + 20 * (k + 1) from by omega] at HD
      have HD' : Hid (_) := HD
      have HXa : Hid (c' = 0 → Row8 w (some ⟨b, off, none⟩) m' (l.drop (4 + 20 * (k + 1)))) := fun h0 => by
        rw [if_pos (by omega), Nat.add_sub_cancel, List.drop_drop, show 4 + 20 * k + 20 = 4 + 20 * (k + 1) from by omega] at HX
        exact HX
      have HXb : Hid (¬ c' = 0 → Row8 w (some ⟨b, off + 20, none⟩) m' (l.drop (4 + 20 * (k + 1)))) := fun h0 => by
        rw [if_neg (by omega), Nat.add_sub_cancel, List.drop_drop, show 4 + 20 * k + 20 = 4 + 20 * (k + 1) from by omega] at HX
        exact HX
      rw [HE.out] at hok HD'
      clear HD HX hdec hrow hown hB hf hw hx hl hr'
      generalize getV ((l.drop (4 + 20 * k)).take 20) 4 4 = e1 at HE hok HD'
      generalize bitsI (getV ((l.drop (4 + 20 * k)).take 20) 8 4) = e2 at HE hok HD'
      generalize getV ((l.drop (4 + 20 * k)).take 20) 2 2 = e3 at HE hok HD'
      generalize getV ((l.drop (4 + 20 * k)).take 20) 12 4 = e4 at HE hok HD'
      generalize getV ((l.drop (4 + 20 * k)).take 20) 16 4 = e5 at HE hok HD'
      go_wp2_with (first
        | (go_at_call 26; refine (decodeEntry_at _ _ _ _ _ _ _ _ _ (HT.out.later HB.out) HE.out hb).mono ?_; rintro e W1 ⟨rfl, hb1⟩; obtain ⟨⟨p0, p1, p2, pz⟩, pf⟩ := HP.out.later hb1; have hB1 := stp HB.out hb1; have hO1 := HO.out.later hb1)
        | (at_builtin; refine wpList_appE _ rfl (.tmp 47) (.tmp 49) 22 rfl (N + 1) Try.underlying22 info43 _ k _ rfl ((hO1.later (below1 _ _)).later (below1 _ _)) _ 1 1 [⟨e1, e2, e3, e4, e5⟩] rfl (rowE_at (E5.new (W1.alloc (obj5 e1 e2 e3 e4 e5)) e1 e2 e3 e4 e5) (by simp) hok) (k + 1) rfl _ rfl (by omega) (by simp; omega) ?_; intro a3 c3 W2 own3 hb3; have PN := (((HP.out.later hb1).later (below1 W1 (obj5 e1 e2 e3 e4 e5))).later (below1 _ (obj5 e1 e2 e3 e4 e5))).lift hb3 (by omega); have P0 := (((HP0.out.later hb1).later (below1 W1 (obj5 e1 e2 e3 e4 e5))).later (below1 _ (obj5 e1 e2 e3 e4 e5))).lift hb3 (by omega); obtain ⟨⟨s0, s1, s2, sz⟩, sf⟩ := PN; have hB2 := (stp (stp hB1 (below1 W1 (obj5 e1 e2 e3 e4 e5))) (below1 _ (obj5 e1 e2 e3 e4 e5))).trans (hb3.mono (by omega))))
      all_goals
        go_step3
        refine ⟨rfl, ⟨k + 1, i, m', _, _, a3, c3, es ++ [⟨e1, e2, e3, e4, e5⟩], _, _, _, _, _, _, _, _, _, _, _, _, _, _, _, _, _, _, _, _, _, _, _, _, _, _, _, _, _, _, _, _, _, _, _, _, _, _, _, _, _, _, _, _, _, _, _, _, _, _, rfl, by have := HK.out; omega, by have := HM.out; omega, by omega, by first | exact HXa.out (by assumption) | exact HXb.out (by assumption), P0.far (by omega), PF.set2 ⟨⟨s0, s1, s2, sz⟩, sf⟩, own3.set (by omega), hes.append (fun q hq => by simp at hq; subst hq; exact hok), HD'.out, hB2.setCell (by show w.heap.size ≤ N; omega) _⟩, ?_⟩
        simp [lenV]
end Go.Proofs.Ytabpillcpnnidaa
