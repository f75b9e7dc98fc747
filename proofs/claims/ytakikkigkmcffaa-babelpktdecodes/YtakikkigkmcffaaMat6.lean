/- Babel parts out of bytes: what is read may be written; how long updates are. No program is named here. -/
import Derived.Test.YtakikkigkmcffaaMat5
namespace Go.Proofs.Ytakikkigkmcffaa
open Go.RowKit

structure St.Ok (S : St) : Prop where
  k : S.kn.Ok
  o : Tlvs S.ps
  m : S.ps.all mayT = true
theorem Tlvs.snoc {ts : List Tlv} {p : Tlv} (h : Tlvs ts) (hp : p.Ok) : Tlvs (ts ++ [p]) := fun x hx => by
  rcases List.mem_append.1 hx with hx | hx
  · exact h x hx
  · simp at hx; subst hx; exact hp
theorem all_snoc {ts : List Tlv} {p : Tlv} (h : ts.all mayT = true) (hp : mayT p = true) : (ts ++ [p]).all mayT = true := by
  rw [List.all_append, h]; simp [hp]
theorem St.Ok.add {S : St} {p : Tlv} (h : S.Ok) (hp : p.Ok) (hm : mayT p = true) : (S.add p).Ok := ⟨h.k, h.o.snoc hp, all_snoc h.m hm⟩
theorem getV_u {l : List Int} (h : Bytes l) (p : Nat) : 0 ≤ getV l p 4 ∧ getV l p 4 ≤ 4294967295 := by
  have := getV_bd h p 4
  simp at this
  omega
theorem getV_h {l : List Int} (h : Bytes l) (p : Nat) : 0 ≤ getV l p 2 ∧ getV l p 2 ≤ 65535 := by
  have := getV_bd h p 2
  simp at this
  omega
theorem v8_u {l : List Int} (h : Bytes l) (p : Nat) : 0 ≤ v8 l p ∧ v8 l p ≤ 18446744073709551615 := by
  have h1 := getV_u h p
  have h2 := getV_u h (p + 4)
  unfold v8; omega
theorem at8_b {l : List Int} (h : Bytes l) (p : Nat) : 0 ≤ at8 l p ∧ at8 l p ≤ 255 := h.at p
theorem mixL_bytes {last : Int} {om : Nat} {b : List Int} (h0 : 0 ≤ last) (h1 : last < 4294967296) (hb : Bytes b) : Bytes (mixL last om b) := by
  unfold mixL
  refine ((take_bytes (b4_bytes h0 (by omega)) om).append hb).append ?_
  intro n hn
  have := List.eq_of_mem_replicate hn
  omega
theorem mix_u {last : Int} {om : Nat} {b : List Int} (h0 : 0 ≤ last) (h1 : last < 4294967296) (hb : Bytes b) : 0 ≤ mix last om b ∧ mix last om b ≤ 4294967295 := getV_u (mixL_bytes h0 h1 hb) 0
theorem mayB_zero : mayB 0 0 = true := by decide
theorem fit_yes {n m : Int} (h0 : 0 ≤ n) (h1 : n ≤ m) : fitB n m = true := by unfold fitB; simp [h0, h1]
theorem pfxOk_all {last l : Int} {om : Nat} {b : List Int} (h : pfxOk last l om b = true) : l ≤ 32 ∧ om ≤ nd l ∧ nd l - om ≤ b.length ∧ mayB (mix last om (b.take (nd l - om))) l = true := by
  simp only [pfxOk, Bool.and_eq_true, decide_eq_true_eq] at h
  exact ⟨h.1.1.1, h.1.1.2, h.1.2, h.2⟩
theorem tagV_u {b : List Int} (h : Bytes b) : 0 ≤ tagV b ∧ tagV b ≤ 65535 := by
  unfold tagV; split
  · omega
  · exact getV_h h 2
theorem tk_ok {S S' : St} {k : Int} {b : List Int} (hS : S.Ok) (hb : Bytes b) (h : tk S k b = some S') : S'.Ok := by
  have g0 := getV_h hb 2
  have g4 := getV_h hb 4
  have g6 := getV_h hb 6
  have g8 := getV_h hb 8
  have w2 := v8_u hb 2
  have w6 := v8_u hb 6
  have a1 := at8_b hb 1
  have a2 := at8_b hb 2
  have a4 := at8_b hb 4
  unfold tk at h
  split at h
  · split at h
    · simp only [Option.some.injEq] at h; subst h
      refine hS.add ?_ ?_
      · constructor <;> simp only [helloT] <;> omega
      · unfold mayT ownB helloT; simp only [if_true, mayB_zero, fit_yes g4.1 g4.2]; rfl
    · cases h
  split at h
  · split at h
    · simp only [Option.some.injEq] at h; subst h
      refine hS.add ?_ ?_
      · constructor <;> simp only [ihuT] <;> omega
      · unfold mayT ownB ihuT; simp only [mayB_zero, fit_yes g4.1 g4.2, fit_yes g0.1 g0.2]; rfl
    · cases h
  split at h
  · split at h
    · simp only [Option.some.injEq] at h; subst h
      exact ⟨⟨w2.1, w2.2, hS.k.a0, hS.k.a1⟩, hS.o, hS.m⟩
    · cases h
  split at h
  · split at h
    · rename_i hu
      simp only [Option.some.injEq] at h; subst h
      simp only [upOk, Bool.and_eq_true] at hu
      obtain ⟨p1, p2, p3, p4⟩ := pfxOk_all hu.1.2
      have ha : 0 ≤ upA S.kn b ∧ upA S.kn b ≤ 4294967295 := mix_u hS.k.a0 hS.k.a1 (take_bytes (drop_bytes hb 10) _)
      have ht := tagV_u (drop_bytes (drop_bytes hb 10) (nd (at8 b 2) - (at8 b 3).toNat))
      have hr0 := hS.k.r0
      have hr1 := hS.k.r1
      refine ⟨⟨hr0, hr1, ha.1, by show upA S.kn b < 4294967296; omega⟩, hS.o.snoc ?_, all_snoc hS.m ?_⟩
      · constructor <;> simp only [upT] <;> omega
      · have p4' : mayB (upA S.kn b) (at8 b 2) = true := p4
        unfold mayT ownB upT; simp only [p4', fit_yes g4.1 g4.2, fit_yes g8.1 g8.2]; rfl
    · cases h
  split at h
  · split at h
    · rename_i hu
      simp only [Option.some.injEq] at h; subst h
      simp only [askOk, Bool.and_eq_true] at hu
      obtain ⟨p1, p2, p3, p4⟩ := pfxOk_all hu.1.2
      rw [Nat.sub_zero] at p4
      have ha := mix_u (last := 0) (om := 0) (by decide) (by decide) (take_bytes (drop_bytes hb 2) (nd (at8 b 1)))
      refine hS.add ?_ ?_
      · constructor <;> simp only [askT] <;> omega
      · unfold mayT ownB askT; simp only [p4]; rfl
    · cases h
  split at h
  · split at h
    · rename_i hu
      simp only [Option.some.injEq] at h; subst h
      simp only [seqOk, Bool.and_eq_true] at hu
      obtain ⟨p1, p2, p3, p4⟩ := pfxOk_all hu.1.2
      rw [Nat.sub_zero] at p4
      have ha := mix_u (last := 0) (om := 0) (by decide) (by decide) (take_bytes (drop_bytes hb 14) (nd (at8 b 1)))
      refine hS.add ?_ ?_
      · constructor <;> simp only [seqT] <;> omega
      · unfold mayT ownB seqT; simp only [p4, fit_yes a4.1 a4.2]; rfl
    · cases h
  · simp only [Option.some.injEq] at h; subst h; exact hS
theorem run_ok : ∀ (n : Nat) (S S' : St) (l : List Int), l.length ≤ n → S.Ok → Bytes l → run S l = some S' → S'.Ok := by
  intro n
  induction n with
  | zero =>
    intro S S' l hl hS hb h
    obtain rfl : l = [] := List.eq_nil_of_length_eq_zero (by omega)
    rw [run_nil] at h; simp only [Option.some.injEq] at h; subst h; exact hS
  | succ n ih =>
    intro S S' l hl hS hb h
    by_cases h0 : l.length = 0
    · obtain rfl : l = [] := List.eq_nil_of_length_eq_zero h0
      rw [run_nil] at h; simp only [Option.some.injEq] at h; subst h; exact hS
    by_cases h1 : l.length = 1
    · rw [run_one h1] at h; cases h
    by_cases h2 : l.length < 2 + ln l
    · rw [run_cut (by omega) h2] at h; cases h
    cases ht : tk S (at8 l 0) ((l.drop 2).take (ln l)) with
    | none => rw [run_bad (by omega) ht] at h; cases h
    | some S1 =>
      rw [run_step (by omega) ht] at h
      exact ih S1 S' _ (by simp only [List.length_drop]; omega) (tk_ok hS (take_bytes (drop_bytes hb 2) _) ht) (drop_bytes hb _) h
theorem none_ok : Tlvs [] := fun _ h => by cases h
/-- All that is known of what bytes are. -/
theorem dec_all {l : List Int} (hb : Bytes l) : Tlvs (dec l).1 ∧ (dec l).1.length ≤ 40 ∧ ((dec l).2 = 0 ∨ (dec l).2 = 2 ∨ (dec l).2 = 9) ∧ ((dec l).2 ≠ 0 → (dec l).1 = []) ∧ ((dec l).2 = 0 → encX (dec l).1 = 0) := by
  unfold dec
  split
  · cases hr : run ⟨kn0, []⟩ (l.drop 4) with
    | none => exact ⟨none_ok, by simp [fin], .inr (.inl rfl), fun _ => rfl, fun h => by simp [fin] at h⟩
    | some S =>
      have hS : S.Ok := run_ok _ _ _ _ (Nat.le_refl _) ⟨kn0_ok, none_ok, rfl⟩ (drop_bytes hb 4) hr
      simp only [fin]
      split
      · exact ⟨none_ok, by simp, .inr (.inr rfl), fun _ => rfl, fun h => by simp at h⟩
      · exact ⟨hS.o, by simp only; omega, .inl rfl, fun h => absurd rfl h, fun _ => encX_mk (by simp only; omega) hS.m⟩
  · exact ⟨none_ok, by simp, .inr (.inl rfl), fun _ => rfl, fun h => by simp at h⟩
/-- An update behind one of the same prefix and router. -/
theorem short_len {p q : Tlv} (hp : p.k = 2) (hq : q.k = 2) (hl : p.l ≤ 32) (ha : q.a = p.a) (hll : q.l = p.l) (hr : q.r = p.r) (ht : q.t = p.t) (h1 : encX [p] = 0) (h2 : encX [p, q] = 0) :
    (encB [p, q]).length = (encB [p]).length + 12 + (tagB p.t).length := by
  rw [encB_good h1, encB_good h2, pack_len, pack_len]
  have e : sq p.a p.a (nd p.l) = nd p.l := by unfold sq; rw [cm_same]; have := nd_le hl; omega
  simp only [body, wr, kn, hp, hq, if_true, List.append_nil, List.length_append, tlvB_len]
  rw [upB_len (p := q) (by omega)]
  have hz : rtB ⟨true, p.r, p.a⟩ q.r = [] := by unfold rtB; rw [if_pos ⟨rfl, hr.symm⟩]
  simp only [hz, ha, hll, ht, e, List.length_nil]
  omega
theorem tagB_is (t : Int) : ((tagB t).length : Int) = if t = 0 then 0 else 4 := by
  unfold tagB; split <;> simp [b2]
end Go.Proofs.Ytakikkigkmcffaa
