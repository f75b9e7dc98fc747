/- Babel parts as bytes: they come back; what is read may be written; cuts and strange parts. No program is named here. -/
import Derived.Test.YtakikkigkmcffaaMat4
namespace Go.Proofs.Ytakikkigkmcffaa
open Go.RowKit

theorem tk_hello (S : St) {p : Tlv} (hk : p.k = 0) (ho : ownB p = true) : tk S 4 ([0, 0] ++ b2 p.s ++ b2 p.i) = some (S.add p) := by
  obtain ⟨k, s, i, c, a, l, r, t, h⟩ := p
  simp only at hk; subst hk
  simp [ownB] at ho
  obtain ⟨⟨⟨⟨⟨rfl, rfl⟩, rfl⟩, rfl⟩, rfl⟩, rfl⟩ := ho
  have g0 : getV ([0, 0] ++ b2 s ++ b2 i) 0 2 = 0 := by simp [getV, b2]
  have g2 : getV ([0, 0] ++ b2 s ++ b2 i) 2 2 = s := by simp [getV, b2]; omega
  have g4 : getV ([0, 0] ++ b2 s ++ b2 i) 4 2 = i := by simp [getV, b2]; omega
  have hp : pairB ([0, 0] ++ b2 s ++ b2 i) = true := by unfold pairB; rw [g0]; simp [b2]
  unfold tk
  rw [if_pos rfl, if_pos hp]
  unfold helloT
  rw [g2, g4]
theorem tk_ihu (S : St) {p : Tlv} (hk : p.k = 1) (ho : ownB p = true) : tk S 5 ([0, 0] ++ b2 p.c ++ b2 p.i) = some (S.add p) := by
  obtain ⟨k, s, i, c, a, l, r, t, h⟩ := p
  simp only at hk; subst hk
  simp [ownB] at ho
  obtain ⟨⟨⟨⟨⟨rfl, rfl⟩, rfl⟩, rfl⟩, rfl⟩, rfl⟩ := ho
  have g0 : getV ([0, 0] ++ b2 c ++ b2 i) 0 2 = 0 := by simp [getV, b2]
  have g2 : getV ([0, 0] ++ b2 c ++ b2 i) 2 2 = c := by simp [getV, b2]; omega
  have g4 : getV ([0, 0] ++ b2 c ++ b2 i) 4 2 = i := by simp [getV, b2]; omega
  have hp : pairB ([0, 0] ++ b2 c ++ b2 i) = true := by unfold pairB; rw [g0]; simp [b2]
  unfold tk
  rw [if_neg (by decide), if_pos rfl, if_pos hp]
  unfold ihuT
  rw [g2, g4]
theorem v8_back {l : List Int} {p : Nat} {n : Int} (h : getV l p 4 = n / 4294967296) (h1 : getV l (p + 4) 4 = n % 4294967296) : v8 l p = n := by
  unfold v8; rw [h, h1]; omega
theorem tk_rout (S : St) (r : Int) : tk S 6 (roB r) = some ⟨⟨true, r, S.kn.a⟩, S.ps⟩ := by
  have g0 : getV (roB r) 0 2 = 0 := by simp [getV, roB, b8, b4]
  have g2 : v8 (roB r) 2 = r := v8_back (getV_b4 rfl rfl rfl rfl) (getV_b4 rfl rfl rfl rfl)
  have hp : routB (roB r) = true := by unfold routB; rw [g0, roB_len]; rfl
  unfold tk
  rw [if_neg (by decide), if_neg (by decide), if_pos rfl, if_pos hp, g2]
theorem pfxOk_ad {last a l : Int} {om : Nat} {r : List Int} (h0 : 0 ≤ a) (h1 : a < 4294967296) (hm : mayB a l = true) (ho : om ≤ nd l) (hc : om ≤ cm last a) :
    pfxOk last l om ((adB a l).drop om ++ r) = true ∧ mix last om (((adB a l).drop om ++ r).take (nd l - om)) = a ∧ ((adB a l).drop om ++ r).drop (nd l - om) = r := by
  have hl : l ≤ 32 := by simp only [mayB, decide_eq_true_eq] at hm; omega
  have e : ((adB a l).drop om).length = nd l - om := by rw [List.length_drop, adB_len hl]
  have e1 : ((adB a l).drop om ++ r).take (nd l - om) = (adB a l).drop om := List.take_left' e
  have e2 : ((adB a l).drop om ++ r).drop (nd l - om) = r := List.drop_left' e
  have e3 := mix_back h0 h1 hm ho hc
  refine ⟨?_, by rw [e1, e3], e2⟩
  unfold pfxOk
  rw [e1, e3, hm, List.length_append, e]
  simp [hl, ho]
theorem nd_zero : nd 0 = 0 := rfl
theorem tk_ask (S : St) {p : Tlv} (hp : p.Ok) (hk : p.k = 3) (hm : mayT p = true) : tk S 9 ([1, p.l] ++ adB p.a p.l) = some (S.add p) := by
  obtain ⟨ho, hb, l0, l1, -⟩ := mayT_all hm
  have ha0 := hp.a0
  have ha1 := hp.a1
  obtain ⟨k, s, i, c, a, l, r, t, h⟩ := p
  simp only at hk hb l0 l1 ha0 ha1; subst hk
  simp [ownB] at ho
  obtain ⟨⟨⟨⟨⟨rfl, rfl⟩, rfl⟩, rfl⟩, rfl⟩, rfl⟩ := ho
  have e1 : at8 ([1, l] ++ adB a l) 1 = l := rfl
  have e0 : at8 ([1, l] ++ adB a l) 0 = 1 := rfl
  have ed : ([1, l] ++ adB a l).drop 2 = adB a l := rfl
  obtain ⟨q1, q2, -⟩ := pfxOk_ad (last := 0) (om := 0) (r := []) ha0 ha1 hb (Nat.zero_le _) (Nat.zero_le _)
  simp only [List.drop_zero, List.append_nil, Nat.sub_zero] at q1 q2
  have hq : askOk ([1, l] ++ adB a l) = true := by
    unfold askOk askHead
    rw [e1, e0, ed, q1, adB_len l1]; simp
  unfold tk
  rw [if_neg (by decide), if_neg (by decide), if_neg (by decide), if_neg (by decide), if_pos rfl, if_pos hq]
  unfold askT
  rw [e1, ed, q2]
theorem tk_seq (S : St) {p : Tlv} (hp : p.Ok) (hk : p.k = 4) (hm : mayT p = true) : tk S 10 ([1, p.l] ++ b2 p.s ++ [p.h, 0] ++ b8 p.r ++ adB p.a p.l) = some (S.add p) := by
  obtain ⟨ho, hb, l0, l1, -⟩ := mayT_all hm
  have ha0 := hp.a0
  have ha1 := hp.a1
  obtain ⟨k, s, i, c, a, l, r, t, h⟩ := p
  simp only at hk hb l0 l1 ha0 ha1; subst hk
  simp [ownB] at ho
  obtain ⟨⟨rfl, rfl⟩, rfl⟩ := ho
  simp only
  obtain ⟨B, hB⟩ : ∃ B, B = [1, l] ++ b2 s ++ [h, 0] ++ b8 r ++ adB a l := ⟨_, rfl⟩
  have e1 : at8 B 1 = l := by rw [hB]; rfl
  have e0 : at8 B 0 = 1 := by rw [hB]; rfl
  have e4 : at8 B 4 = h := by rw [hB]; rfl
  have e5 : at8 B 5 = 0 := by rw [hB]; rfl
  have ed : B.drop 14 = adB a l := by rw [hB]; rfl
  have g2 : getV B 2 2 = s := by rw [hB]; exact getV_eq2 rfl rfl
  have g6 : v8 B 6 = r := by rw [hB]; exact v8_back (getV_b4 rfl rfl rfl rfl) (getV_b4 rfl rfl rfl rfl)
  have hlen : 14 ≤ B.length := by rw [hB]; simp [b2, b8, b4]
  obtain ⟨q1, q2, -⟩ := pfxOk_ad (last := 0) (om := 0) (r := []) ha0 ha1 hb (Nat.zero_le _) (Nat.zero_le _)
  simp only [List.drop_zero, List.append_nil, Nat.sub_zero] at q1 q2
  have hq : seqOk B = true := by
    unfold seqOk seqHead
    rw [e1, e0, e5, ed, q1, adB_len l1]; simp [hlen]
  rw [← hB]
  unfold tk
  rw [if_neg (by decide), if_neg (by decide), if_neg (by decide), if_neg (by decide), if_neg (by decide), if_pos rfl, if_pos hq]
  unfold seqT
  rw [e1, e4, ed, q2, g2, g6]
theorem tag_back {t : Int} (h0 : 0 ≤ t) (h1 : t ≤ 65535) : tagOk (tagB t) = true ∧ tagV (tagB t) = t := by
  unfold tagB
  split
  · rename_i h; subst h; exact ⟨rfl, rfl⟩
  · rename_i h
    have g : getV ([200, 2] ++ b2 t) 2 2 = t := getV_eq2 rfl rfl
    unfold tagOk tagV
    rw [g]
    simp [b2, at8, h]
theorem tk_up (ps : List Tlv) {last : Int} {p : Tlv} (hp : p.Ok) (hk : p.k = 2) (hm : mayT p = true) : tk ⟨⟨true, p.r, last⟩, ps⟩ 8 (upB last p) = some ⟨⟨true, p.r, p.a⟩, ps ++ [p]⟩ := by
  obtain ⟨ho, hb, l0, l1, -⟩ := mayT_all hm
  have ha0 := hp.a0
  have ha1 := hp.a1
  obtain ⟨ht, hv⟩ := tag_back hp.t0 hp.t1
  have hs1 := sq_le last p.a (nd p.l)
  have hs2 : sq last p.a (nd p.l) ≤ cm last p.a := by unfold sq; omega
  obtain ⟨q1, q2, q3⟩ := pfxOk_ad (last := last) (om := sq last p.a (nd p.l)) (r := tagB p.t) ha0 ha1 hb hs1 hs2
  have hlen := upB_len (last := last) (p := p) l1
  obtain ⟨B, hB⟩ : ∃ B, B = upB last p := ⟨_, rfl⟩
  rw [← hB] at hlen ⊢
  have e0 : at8 B 0 = 1 := by rw [hB]; rfl
  have e1 : at8 B 1 = 128 := by rw [hB]; rfl
  have e2 : at8 B 2 = p.l := by rw [hB]; rfl
  have e3 : (at8 B 3).toNat = sq last p.a (nd p.l) := by rw [hB]; rfl
  have ed : B.drop 10 = (adB p.a p.l).drop (sq last p.a (nd p.l)) ++ tagB p.t := by rw [hB]; unfold upB; simp [b2]
  have g4 : getV B 4 2 = p.i := by rw [hB]; exact getV_eq2 rfl rfl
  have g6 : getV B 6 2 = p.s := by rw [hB]; exact getV_eq2 rfl rfl
  have g8 : getV B 8 2 = p.c := by rw [hB]; exact getV_eq2 rfl rfl
  have hq : upOk ⟨true, p.r, last⟩ B = true := by
    unfold upOk upHead
    simp only [e0, e1, e2, e3, ed, q1, q3, ht]
    simp; omega
  have hA : upA ⟨true, p.r, last⟩ B = p.a := by unfold upA; simp only [e2, e3, ed, q2]
  unfold tk
  rw [if_neg (by decide), if_neg (by decide), if_neg (by decide), if_pos rfl, if_pos hq, hA]
  unfold upT
  rw [hA, g4, g6, g8]
  simp only [e2, e3, ed, q3, hv]
  have hh : p.h = 0 := by
    unfold ownB at ho
    rw [hk] at ho
    simpa using ho
  obtain ⟨k, s, i, c, a, l, r, t, h⟩ := p
  simp only at hk hh; subst hk hh
  rfl
/-- One part is read as it was written. -/
theorem run_wr (K : Kn) (ps : List Tlv) {p : Tlv} (r : List Int) (hp : p.Ok) (hm : mayT p = true) : run ⟨K, ps⟩ (wr K p ++ r) = run ⟨kn K p, ps ++ [p]⟩ r := by
  obtain ⟨ho, -⟩ := mayT_all hm
  unfold wr kn
  rcases ownB_kind ho with hk | hk | hk | hk | hk
  · rw [if_neg (by omega), if_neg (by omega)]; unfold partB; rw [if_pos hk, run_tlv, tk_hello _ hk ho]; rfl
  · rw [if_neg (by omega), if_neg (by omega)]; unfold partB; rw [if_neg (by omega), if_pos hk, run_tlv, tk_ihu _ hk ho]; rfl
  · rw [if_pos hk, if_pos hk]
    unfold rtB
    split
    · rename_i hr
      obtain ⟨told, kr, ka⟩ := K
      simp only at hr
      obtain ⟨rfl, rfl⟩ := hr
      rw [List.nil_append, run_tlv, tk_up ps hp hk hm]
    · rw [List.append_assoc, run_tlv, tk_rout]
      simp only
      rw [run_tlv, tk_up ps hp hk hm]
  · rw [if_neg (by omega), if_neg (by omega)]; unfold partB; rw [if_neg (by omega), if_neg (by omega), if_pos hk, run_tlv, tk_ask _ hp hk hm]; rfl
  · rw [if_neg (by omega), if_neg (by omega)]; unfold partB; rw [if_neg (by omega), if_neg (by omega), if_neg (by omega), run_tlv, tk_seq _ hp hk hm]; rfl
theorem run_body (K : Kn) (ps ts : List Tlv) (r : List Int) (hk : Tlvs ts) (hm : ts.all mayT = true) : run ⟨K, ps⟩ (body K ts ++ r) = run ⟨knN K ts, ps ++ ts⟩ r := by
  induction ts generalizing K ps with
  | nil => simp [body, knN]
  | cons p ts ih =>
    simp only [List.all_cons, Bool.and_eq_true] at hm
    simp only [body, List.append_assoc]
    rw [run_wr K ps _ (hk p List.mem_cons_self) hm.1, ih (kn K p) (ps ++ [p]) (fun x hx => hk x (List.mem_cons_of_mem _ hx)) hm.2]
    simp [knN]
theorem framed_pack (b : List Int) (_h : b.length ≤ 65535) : framed (pack b) = true ∧ (pack b).drop 4 = b := by
  have g : getV (pack b) 2 2 = b.length := getV_eq2 rfl rfl
  refine ⟨?_, rfl⟩
  unfold framed
  rw [g, pack_len]
  have : at8 (pack b) 0 = 42 := rfl
  have : at8 (pack b) 1 = 2 := rfl
  simp [*]
  omega
theorem dec_pack {b : List Int} (h : b.length ≤ 65535) : dec (pack b) = fin (run ⟨kn0, []⟩ b) := by
  obtain ⟨h1, h2⟩ := framed_pack b h
  unfold dec; rw [if_pos h1, h2]
/-- Parts are decoded as they were encoded. -/
theorem dec_enc {ts : List Tlv} (hk : Tlvs ts) (hx : encX ts = 0) : dec (encB ts) = (ts, 0) := by
  obtain ⟨h1, h2⟩ := encX_zero hx
  have hl := body_len (K := kn0) h2
  have := run_body kn0 [] ts [] hk h2
  rw [List.append_nil, run_nil] at this
  rw [encB_good hx, dec_pack (by omega), this]
  simp only [List.nil_append, fin]
  rw [if_neg (by omega)]
theorem dec_nil : dec [] = ([], 2) := rfl
/-- A strange part behind the others is passed over. -/
theorem dec_strange {ts : List Tlv} {k : Int} {d : List Int} (hk : Tlvs ts) (hx : encX ts = 0) (hs : k < 4 ∨ k = 7 ∨ 10 < k) (hd : d.length ≤ 255) : dec (pack (body kn0 ts ++ tlvB k d)) = (ts, 0) := by
  obtain ⟨h1, h2⟩ := encX_zero hx
  have hl := body_len (K := kn0) h2
  have h3 := run_body kn0 [] ts (tlvB k d ++ []) hk h2
  have h4 : ∀ S, tk S k d = some S := fun S => by
    unfold tk
    rw [if_neg (by omega), if_neg (by omega), if_neg (by omega), if_neg (by omega), if_neg (by omega), if_neg (by omega)]
  rw [run_tlv, h4] at h3
  simp only [run_nil, List.append_nil, List.nil_append] at h3
  rw [dec_pack (by rw [List.length_append, tlvB_len]; omega), h3]
  simp only [fin]
  rw [if_neg (by omega)]
/-- Bytes whose number is not told are refused. -/
theorem dec_odd {l : List Int} (h : framed l = false) : dec l = ([], 2) := by unfold dec; rw [h, if_neg (by simp)]
theorem framed_all {l : List Int} (h : framed l = true) : 4 ≤ l.length ∧ getV l 2 2 = (l.length : Int) - 4 := by
  simp only [framed, Bool.and_eq_true, decide_eq_true_eq, beq_iff_eq] at h
  exact ⟨h.1.1.1, h.2⟩
theorem framed_more {l m : List Int} (h : framed l = true) (hm : 0 < m.length) : framed (l ++ m) = false := by
  obtain ⟨h1, h2⟩ := framed_all h
  cases hf : framed (l ++ m)
  · rfl
  · obtain ⟨h3, h4⟩ := framed_all hf
    have e : getV (l ++ m) 2 2 = getV l 2 2 := by
      simp only [getV]
      rw [List.getElem?_append_left (by omega), List.getElem?_append_left (by omega)]
    rw [e, List.length_append] at h4; omega
theorem framed_less {l : List Int} {n : Nat} (h : framed l = true) (hn : n < l.length) : framed (l.take n) = false := by
  obtain ⟨h1, h2⟩ := framed_all h
  cases hf : framed (l.take n)
  · rfl
  · obtain ⟨h3, h4⟩ := framed_all hf
    rw [List.length_take, Nat.min_eq_left (by omega)] at h3 h4
    have e : getV (l.take n) 2 2 = getV l 2 2 := by
      simp only [getV]
      rw [List.getElem?_take_of_lt (by omega), List.getElem?_take_of_lt (by omega)]
    rw [e] at h4; omega
end Go.Proofs.Ytakikkigkmcffaa
