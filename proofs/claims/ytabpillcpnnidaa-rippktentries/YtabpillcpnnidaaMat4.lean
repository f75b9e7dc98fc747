/- RIP packets as bytes: packets come back, bytes come back, a cut is refused. No program is named here. -/
import Derived.Test.YtabpillcpnnidaaMat3
namespace Go.Proofs.Ytabpillcpnnidaa
open Go.RowKit

theorem flat_len (es : List Ent) : (es.flatMap encE).length = 20 * es.length := by
  induction es with
  | nil => rfl
  | cons e es ih => simp only [List.flatMap_cons, List.length_append, encE_len, ih, List.length_cons]; omega
theorem flat_bytes {es : List Ent} (h : Ents es) (hm : es.all mayE = true) : Bytes (es.flatMap encE) := by
  intro n hn
  obtain ⟨e, he, hne⟩ := List.mem_flatMap.1 hn
  exact encE_bytes (h e he) (List.all_eq_true.1 hm e he) n hne
theorem Ents.tail {e : Ent} {es : List Ent} (h : Ents (e :: es)) : Ents es := fun x hx => h x (List.mem_cons_of_mem _ hx)

theorem decN_flat : ∀ (es : List Ent) (r : List Int), Ents es → es.all mayE = true → decN es.length (es.flatMap encE ++ r) = some es := by
  intro es
  induction es with
  | nil => intro r _ _; rfl
  | cons e es ih =>
    intro r h hm
    simp only [List.all_cons, Bool.and_eq_true] at hm
    have hd := dec_enc (h e List.mem_cons_self) hm.1
    have e1 : (List.flatMap encE (e :: es) ++ r).take 20 = encE e := by
      rw [List.flatMap_cons, List.append_assoc, List.take_left' (encE_len e)]
    have e2 : (List.flatMap encE (e :: es) ++ r).drop 20 = es.flatMap encE ++ r := by
      rw [List.flatMap_cons, List.append_assoc, List.drop_left' (encE_len e)]
    simp only [List.length_cons, decN, e1, e2, hd.1, hd.2, if_true, ih r h.tail hm.2, Option.map_some]

theorem encX_cases (c : Int) (w : Bool) (es : List Ent) : encX c w es = 0 ∨ encX c w es = 1 ∨ encX c w es = 9 := by
  unfold encX
  split
  · exact .inr (.inr rfl)
  · split
    · exact .inl rfl
    · exact .inr (.inl rfl)
theorem encX_zero {c : Int} {w : Bool} {es : List Ent} (h : encX c w es = 0) : es.length ≤ 25 ∧ (c = 1 ∨ c = 2) ∧ (w = true → c = 1 ∧ es = []) ∧ es.all mayE = true := by
  unfold encX at h
  split at h
  · omega
  · rename_i h25
    split at h
    · rename_i hm
      simp only [mayP, Bool.and_eq_true, Bool.or_eq_true, beq_iff_eq, Bool.not_eq_true', Bool.and_eq_false_iff, Bool.or_eq_false_iff, bne_eq_false_iff_eq, decide_eq_false_iff_not] at hm
      refine ⟨by omega, hm.1.1, fun hw => ?_, hm.2⟩
      rcases hm.1.2 with h1 | h1
      · rw [hw] at h1; cases h1
      · exact ⟨h1.1, List.eq_nil_of_length_eq_zero (by omega)⟩
    · omega
theorem encX_mk {c : Int} {w : Bool} {es : List Ent} (h : es.length ≤ 25) (hc : c = 1 ∨ c = 2) (hw : w = true → c = 1 ∧ es = []) (ha : es.all mayE = true) : encX c w es = 0 := by
  unfold encX
  rw [if_neg (by omega), if_pos]
  simp only [mayP, Bool.and_eq_true, Bool.or_eq_true, beq_iff_eq, Bool.not_eq_true', Bool.and_eq_false_iff, Bool.or_eq_false_iff, bne_eq_false_iff_eq, decide_eq_false_iff_not]
  refine ⟨⟨hc, ?_⟩, ha⟩
  cases hww : w
  · exact .inl rfl
  · obtain ⟨h1, rfl⟩ := hw hww
    exact .inr ⟨h1, by simp⟩

theorem encB_bad {c : Int} {w : Bool} {es : List Ent} (h : encX c w es ≠ 0) : encB c w es = [] := by unfold encB; rw [if_neg h]
theorem encB_whole {c : Int} {es : List Ent} (h : encX c true es = 0) : encB c true es = [1, 2, 0, 0] ++ wholeL := by
  have := (encX_zero h).2.2.1 rfl
  unfold encB; rw [if_pos h, this.1]; rfl
theorem encB_plain {c : Int} {es : List Ent} (h : encX c false es = 0) : encB c false es = [c, 2, 0, 0] ++ es.flatMap encE := by
  unfold encB; rw [if_pos h]; rfl
theorem encB_len {c : Int} {w : Bool} {es : List Ent} (h : encX c w es = 0) : ∃ k, (encB c w es).length = 4 + 20 * k ∧ k ≤ 25 ∧ (w = false → k = es.length) := by
  cases w
  · refine ⟨es.length, ?_, (encX_zero h).1, fun _ => rfl⟩
    rw [encB_plain h, List.length_append, flat_len]; rfl
  · exact ⟨1, by rw [encB_whole h]; rfl, by omega, fun h => by cases h⟩
theorem encB_bytes {c : Int} {w : Bool} {es : List Ent} (h : Ents es) : Bytes (encB c w es) := by
  by_cases hx : encX c w es = 0
  · have hz := encX_zero hx
    cases w
    · rw [encB_plain hx]
      refine Bytes.append ?_ (flat_bytes h hz.2.2.2)
      intro n hn
      simp only [List.mem_cons, List.not_mem_nil, or_false] at hn
      rcases hz.2.1 with rfl | rfl <;> omega
    · rw [encB_whole hx]
      unfold Bytes; decide
  · rw [encB_bad hx]
    unfold Bytes; simp
theorem encB_short (c : Int) (w : Bool) (es : List Ent) : (encB c w es).length ≤ 504 := by
  by_cases hx : encX c w es = 0
  · obtain ⟨k, h1, h2, _⟩ := encB_len hx
    omega
  · rw [encB_bad hx]; simp

theorem wholeL_len : wholeL.length = 20 := rfl
theorem decB_whole : decB wholeL = false := by
  simp [decB, getV, wholeL]

/-- A packet is decoded as it was encoded. -/
theorem dec_encB {c : Int} {w : Bool} {es : List Ent} (h : Ents es) (hx : encX c w es = 0) : dec (encB c w es) = ⟨c, w, es, 0⟩ := by
  have hz := encX_zero hx
  cases w
  · have e := encB_plain hx
    have hl : (encB c false es).length = 4 + 20 * es.length := by rw [e, List.length_append, flat_len]; rfl
    have hd : (encB c false es).drop 4 = es.flatMap encE := by rw [e]; rfl
    have h0 : (encB c false es)[0]?.getD 0 = c := by rw [e]; rfl
    have hf : framed (encB c false es) = true := by
      unfold framed
      rw [hl, h0, e]
      have h4 : 4 ≤ 4 + 20 * es.length := by omega
      rcases hz.2.1 with rfl | rfl <;> simp [h4]
    have hw : isWhole (encB c false es) = false := by
      unfold isWhole
      rw [hd, Bool.and_eq_false_iff]
      right
      rw [decide_eq_false_iff_not]
      intro hw
      have hlen := congrArg List.length hw
      rw [flat_len, wholeL_len] at hlen
      match es, hlen, h, hz.2.2.2, hw with
      | [e], _, h, hm, hw =>
        simp only [List.all_cons, List.all_nil, Bool.and_true] at hm
        have := (dec_enc (h e List.mem_cons_self) hm).2
        simp only [List.flatMap_cons, List.flatMap_nil, List.append_nil] at hw
        rw [hw, decB_whole] at this
        cases this
      | [], hlen, _, _, _ => simp at hlen
      | _ :: _ :: _, hlen, _, _, _ => simp at hlen; omega
    have hn : (4 + 20 * es.length - 4) / 20 = es.length := by omega
    have hdn := decN_flat es [] h hz.2.2.2
    rw [List.append_nil] at hdn
    unfold dec
    rw [hf, hl, hn, hw, hd, hdn, h0, if_neg (by simp), if_neg (by omega), if_neg (by simp)]
  · obtain ⟨rfl, rfl⟩ := hz.2.2.1 rfl
    rw [encB_whole hx]
    rfl
theorem dec_nil : dec [] = ⟨0, false, [], 2⟩ := rfl

theorem decN_ok : ∀ (n : Nat) (l : List Int) (es : List Ent), Bytes l → 20 * n ≤ l.length → decN n l = some es → Ents es ∧ es.all mayE = true ∧ es.flatMap encE = l.take (20 * n) := by
  intro n
  induction n with
  | zero => intro l es _ _ h; simp only [decN, Option.some.injEq] at h; subst h; exact ⟨fun _ h => (by cases h), rfl, by simp⟩
  | succ n ih =>
    intro l es hB hl h
    simp only [decN] at h
    split at h
    · rename_i hb
      obtain ⟨r, hr, rfl⟩ := Option.map_eq_some_iff.1 h
      have hBt : Bytes (l.take 20) := fun x hx => hB x (List.mem_of_mem_take hx)
      obtain ⟨h1, h2, h3⟩ := ih (l.drop 20) r (fun x hx => hB x (List.mem_of_mem_drop hx)) (by simp; omega) hr
      refine ⟨fun x hx => ?_, ?_, ?_⟩
      · rcases List.mem_cons.1 hx with rfl | hx
        · exact decE_ok hBt
        · exact h1 x hx
      · have hm : mayE (decE (l.take 20)) = true := by
          simp only [decB, Bool.and_eq_true] at hb
          exact hb.2
        simp only [List.all_cons, hm, h2, Bool.and_self]
      · rw [List.flatMap_cons, enc_dec (by simp; omega) hBt hb, h3, show 20 * (n + 1) = 20 + 20 * n by omega, List.take_add]
    · cases h

theorem framed_all {l : List Int} (h : framed l = true) : 4 ≤ l.length ∧ (l.length - 4) % 20 = 0 ∧ (l[0]?.getD 0 = 1 ∨ l[0]?.getD 0 = 2) ∧ l = l[0]?.getD 0 :: 2 :: 0 :: 0 :: l.drop 4 := by
  simp only [framed, Bool.and_eq_true, Bool.or_eq_true, beq_iff_eq, decide_eq_true_eq] at h
  obtain ⟨⟨⟨⟨⟨h4, hr⟩, h0⟩, h1⟩, h2⟩, h3⟩ := h
  refine ⟨h4, hr, h0, ?_⟩
  match l, h4, h1, h2, h3 with
  | a :: b :: c :: d :: r, _, h1, h2, h3 =>
    simp at h1 h2 h3
    simp [h1, h2, h3]

/-- All that is known of what bytes are. -/
theorem dec_all {l : List Int} (hB : Bytes l) : Ents (dec l).es ∧ (dec l).es.length ≤ 25 ∧ ((dec l).x = 0 ∨ (dec l).x = 2 ∨ (dec l).x = 9) ∧ ((dec l).x ≠ 0 → (dec l).c = 0 ∧ (dec l).w = false ∧ (dec l).es = []) ∧ ((dec l).w = true → (dec l).es = []) ∧ (0 ≤ (dec l).c ∧ (dec l).c ≤ 2) ∧
    ((dec l).x = 0 → encX (dec l).c (dec l).w (dec l).es = 0 ∧ encB (dec l).c (dec l).w (dec l).es = l) := by
  have none : Ents [] := fun _ h => by cases h
  unfold dec
  cases hf : framed l
  · exact ⟨none, by simp, .inr (.inl rfl), fun _ => ⟨rfl, rfl, rfl⟩, fun _ => rfl, by simp, fun h => by simp at h⟩
  obtain ⟨h4, hr, h0, hl⟩ := framed_all hf
  rw [if_neg (by simp)]
  by_cases h25 : 25 < (l.length - 4) / 20
  · rw [if_pos h25]
    exact ⟨none, by simp, .inr (.inr rfl), fun _ => ⟨rfl, rfl, rfl⟩, fun _ => rfl, by simp, fun h => by simp at h⟩
  rw [if_neg h25]
  cases hw : isWhole l
  · rw [if_neg (by simp)]
    cases hn : decN ((l.length - 4) / 20) (l.drop 4) with
    | none => exact ⟨none, by simp, .inr (.inl rfl), fun _ => ⟨rfl, rfl, rfl⟩, fun _ => rfl, by simp, fun h => by simp at h⟩
    | some es =>
      obtain ⟨k1, k2, k3⟩ := decN_ok _ _ es (fun x hx => hB x (List.mem_of_mem_drop hx)) (by simp; omega) hn
      have k4 := decN_len _ _ _ hn
      have hx : encX (l[0]?.getD 0) false es = 0 := encX_mk (by omega) h0 (fun h => by cases h) k2
      refine ⟨k1, by show es.length ≤ 25; omega, .inl rfl, fun h => absurd rfl h, fun h => (by cases h), by show 0 ≤ l[0]?.getD 0 ∧ l[0]?.getD 0 ≤ 2; omega, fun _ => ⟨hx, ?_⟩⟩
      show encB (l[0]?.getD 0) false es = l
      rw [encB_plain hx, k3, List.take_of_length_le (by simp; omega)]
      exact hl.symm
  · rw [if_pos rfl]
    simp only [isWhole, Bool.and_eq_true, beq_iff_eq, decide_eq_true_eq] at hw
    have hx : encX 1 true [] = 0 := rfl
    refine ⟨none, by simp, .inl rfl, fun h => absurd rfl h, fun _ => rfl, by simp, fun _ => ⟨hx, ?_⟩⟩
    show encB 1 true [] = l
    rw [encB_whole hx, hl, hw.1, hw.2]
    rfl

/-- Just one packet asks for the whole table. -/
theorem dec_whole {l : List Int} : ((dec l).x = 0 ∧ (dec l).w = true) ↔ l = [1, 2, 0, 0] ++ wholeL := by
  constructor
  · intro h
    unfold dec at h
    cases hf : framed l
    · rw [hf] at h; simp at h
    obtain ⟨h4, hr, h0, hl⟩ := framed_all hf
    rw [hf, if_neg (by simp)] at h
    split at h
    · simp at h
    · cases hw : isWhole l
      · rw [hw, if_neg (by simp)] at h
        split at h <;> simp at h
      · simp only [isWhole, Bool.and_eq_true, beq_iff_eq, decide_eq_true_eq] at hw
        rw [hl, hw.1, hw.2]
        rfl
  · rintro rfl
    exact ⟨rfl, rfl⟩

/-- Bytes whose number does not fit are refused. -/
theorem dec_odd {l : List Int} (h : l.length < 4 ∨ (l.length - 4) % 20 ≠ 0) : (dec l).x = 2 := by
  have hf : framed l = false := by
    cases hf : framed l
    · rfl
    · have := framed_all hf; omega
  unfold dec
  rw [hf]
  rfl

theorem Ents.append {a b : List Ent} (h : Ents a) (k : Ents b) : Ents (a ++ b) := fun e he => (List.mem_append.1 he).elim (h e) (k e)
/-- Two packets one behind the other. -/
theorem enc_join {c : Int} {a b : List Ent} (h : a.length ≤ 12) (k : b.length ≤ 12) (ha : encX c false a = 0) (hb : encX c false b = 0) :
    encX c false (a ++ b) = 0 ∧ encB c false (a ++ b) = encB c false a ++ (encB c false b).drop 4 := by
  have h1 := encX_zero ha
  have h2 := encX_zero hb
  have hx : encX c false (a ++ b) = 0 := encX_mk (by simp; omega) h1.2.1 (fun h => by cases h) (by rw [List.all_append, h1.2.2.2, h2.2.2.2]; rfl)
  refine ⟨hx, ?_⟩
  rw [encB_plain hx, encB_plain ha, encB_plain hb, List.flatMap_append]
  rfl
end Go.Proofs.Ytabpillcpnnidaa
