/- When bytes are those of a packet, said byte for byte. No program is named here. -/
import Derived.Test.YtnlgdkbpolckcaaMatE
namespace Go.Proofs.Ytnlgdkbpolckcaa
open Go.RowKit

theorem cons_of {n : Nat} {l : List Int} (h : l.length = n + 1) : ∃ x m, l = x :: m ∧ m.length = n := by
  cases l with
  | nil => simp at h
  | cons x m => exact ⟨x, m, rfl, by simpa using h⟩
theorem b4_of {x0 x1 x2 x3 : Int} (_h0 : 0 ≤ x0 ∧ x0 ≤ 255) (h1 : 0 ≤ x1 ∧ x1 ≤ 255) (h2 : 0 ≤ x2 ∧ x2 ≤ 255) (h3 : 0 ≤ x3 ∧ x3 ≤ 255) : b4 ((((0 * 256 + x0) * 256 + x1) * 256 + x2) * 256 + x3) = [x0, x1, x2, x3] := by
  simp only [b4, List.cons.injEq, and_true]
  omega
theorem b2_of {x0 x1 : Int} (_h0 : 0 ≤ x0 ∧ x0 ≤ 255) (h1 : 0 ≤ x1 ∧ x1 ≤ 255) : b2 ((0 * 256 + x0) * 256 + x1) = [x0, x1] := by
  simp only [b2, List.cons.injEq, and_true]
  omega
/-- Twenty bytes whose last four are noughts are those of their entry. -/
theorem entB_of {c : List Int} (hl : c.length = 20) (hB : Bytes c) (h0 : getV c 16 4 = 0) : entB (entOf c) = c := by
  obtain ⟨x0, c, rfl, hl0⟩ := cons_of hl
  obtain ⟨x1, c, rfl, hl1⟩ := cons_of hl0
  obtain ⟨x2, c, rfl, hl2⟩ := cons_of hl1
  obtain ⟨x3, c, rfl, hl3⟩ := cons_of hl2
  obtain ⟨x4, c, rfl, hl4⟩ := cons_of hl3
  obtain ⟨x5, c, rfl, hl5⟩ := cons_of hl4
  obtain ⟨x6, c, rfl, hl6⟩ := cons_of hl5
  obtain ⟨x7, c, rfl, hl7⟩ := cons_of hl6
  obtain ⟨x8, c, rfl, hl8⟩ := cons_of hl7
  obtain ⟨x9, c, rfl, hl9⟩ := cons_of hl8
  obtain ⟨y0, c, rfl, hl10⟩ := cons_of hl9
  obtain ⟨y1, c, rfl, hl11⟩ := cons_of hl10
  obtain ⟨y2, c, rfl, hl12⟩ := cons_of hl11
  obtain ⟨y3, c, rfl, hl13⟩ := cons_of hl12
  obtain ⟨y4, c, rfl, hl14⟩ := cons_of hl13
  obtain ⟨y5, c, rfl, hl15⟩ := cons_of hl14
  obtain ⟨y6, c, rfl, hl16⟩ := cons_of hl15
  obtain ⟨y7, c, rfl, hl17⟩ := cons_of hl16
  obtain ⟨y8, c, rfl, hl18⟩ := cons_of hl17
  obtain ⟨y9, c, rfl, hl19⟩ := cons_of hl18
  obtain rfl := List.eq_nil_of_length_eq_zero hl19
  have hx := fun (v : Int) (hv : v ∈ [x0, x1, x2, x3, x4, x5, x6, x7, x8, x9, y0, y1, y2, y3, y4, y5, y6, y7, y8, y9]) => hB v hv
  have z0 := hx x0 (by simp)
  have z1 := hx x1 (by simp)
  have z2 := hx x2 (by simp)
  have z3 := hx x3 (by simp)
  have z6 := hx x6 (by simp)
  have z7 := hx x7 (by simp)
  have z8 := hx x8 (by simp)
  have z9 := hx x9 (by simp)
  have u0 := hx y0 (by simp)
  have u1 := hx y1 (by simp)
  have u2 := hx y2 (by simp)
  have u3 := hx y3 (by simp)
  have u4 := hx y4 (by simp)
  have u5 := hx y5 (by simp)
  have u6 := hx y6 (by simp)
  have u7 := hx y7 (by simp)
  have u8 := hx y8 (by simp)
  have u9 := hx y9 (by simp)
  have g0 : (((0 * 256 + y6) * 256 + y7) * 256 + y8) * 256 + y9 = 0 := h0
  show b4 ((((0 * 256 + x0) * 256 + x1) * 256 + x2) * 256 + x3) ++ [x4, x5] ++ b2 ((0 * 256 + x6) * 256 + x7) ++ b4 ((((0 * 256 + x8) * 256 + x9) * 256 + y0) * 256 + y1) ++ b4 ((((0 * 256 + y2) * 256 + y3) * 256 + y4) * 256 + y5) ++ [0, 0, 0, 0] = _
  rw [b4_of z0 z1 z2 z3, b2_of z6 z7, b4_of z8 z9 u0 u1, b4_of u2 u3 u4 u5]
  have e6 : y6 = 0 := by omega
  have e7 : y7 = 0 := by omega
  have e8 : y8 = 0 := by omega
  have e9 : y9 = 0 := by omega
  subst e6 e7 e8 e9
  rfl
/-- An entry's bytes. -/
def entOk (c : List Int) : Bool := getV c 16 4 == 0 && mayE (entOf c)
def entsOk : Nat → List Int → Bool
  | 0, _ => true
  | n + 1, l => entOk (l.take 20) && entsOk n (l.drop 20)
def headOk (l : List Int) : Bool := decide (at8 l 1 ≤ 3) && (at8 l 4 == 0 || at8 l 4 == 1) && at8 l 5 == 0 && at8 l 6 == 0 && at8 l 7 == 0
def formOk (l : List Int) : Bool := headOk l && entsOk ((l.length - 16) / 20) (l.drop 16) && !(at8 l 1 == 0 && decide (0 < (l.length - 16) / 20))
theorem Bytes.take' {l : List Int} (h : Bytes l) (n : Nat) : Bytes (l.take n) := fun x hx => h x (List.mem_of_mem_take hx)
theorem Bytes.drop' {l : List Int} (h : Bytes l) (n : Nat) : Bytes (l.drop n) := fun x hx => h x (List.mem_of_mem_drop hx)
theorem ents_back : ∀ (n : Nat) (l : List Int), l.length = 20 * n → Bytes l → entsOk n l = true → (ents n l).flatMap entB = l ∧ (ents n l).all mayE = true
  | 0, l, hl, _, _ => by
    obtain rfl := List.eq_nil_of_length_eq_zero (by omega : l.length = 0)
    exact ⟨rfl, rfl⟩
  | n + 1, l, hl, hB, h => by
    simp only [entsOk, entOk, Bool.and_eq_true, beq_iff_eq] at h
    obtain ⟨i1, i2⟩ := ents_back n (l.drop 20) (by rw [List.length_drop]; omega) (hB.drop' 20) h.2
    have e := entB_of (c := l.take 20) (by rw [List.length_take]; omega) (hB.take' 20) h.1.1
    refine ⟨?_, ?_⟩
    · rw [ents, List.flatMap_cons, i1, e, List.take_append_drop]
    · rw [ents, List.all_cons, h.1.2, i2]; rfl
theorem ents_forth : ∀ (es : List Ent), es.all mayE = true → entsOk es.length (es.flatMap entB) = true
  | [], _ => rfl
  | e :: es, h => by
    rw [List.all_cons, Bool.and_eq_true] at h
    have h1 := entOf_entB (e := e) (es.flatMap entB)
    have h2 : (entB e ++ es.flatMap entB).take 20 = entB e := by rw [List.take_append_of_le_length (by rw [entB_len]; omega), List.take_of_length_le (by rw [entB_len]; omega)]
    have h3 : (entB e ++ es.flatMap entB).drop 20 = es.flatMap entB := by rw [List.drop_append_of_le_length (by rw [entB_len]; omega), List.drop_of_length_le (by rw [entB_len]; omega), List.nil_append]
    rw [List.length_cons, List.flatMap_cons, entsOk, h3, ents_forth es h.2, Bool.and_true]
    unfold entOk
    rw [h1, h2, h.1, Bool.and_true]
    rfl
/-- The first sixteen bytes. -/
theorem head_of {l : List Int} (hl : 16 ≤ l.length) (hB : Bytes l) (h0 : at8 l 0 = 2) (h : headOk l = true) (es : List Ent) : headB ⟨at8 l 1, at8 l 4 == 1, getV l 8 4, getV l 12 4, es⟩ (getV l 2 2) = l.take 16 := by
  obtain ⟨c, hc⟩ : ∃ c, l.take 16 = c := ⟨_, rfl⟩
  have hcl : c.length = 16 := by rw [← hc, List.length_take]; omega
  have hBc : Bytes c := by rw [← hc]; exact hB.take' 16
  have ea : ∀ i, i < 16 → at8 l i = at8 c i := fun i hi => by unfold at8; rw [← hc, List.getElem?_take_of_lt hi]
  have eg : getV l 8 4 = getV c 8 4 ∧ getV l 12 4 = getV c 12 4 ∧ getV l 2 2 = getV c 2 2 := by
    simp only [getV, ← hc]
    simp
  simp only [headOk, Bool.and_eq_true, Bool.or_eq_true, decide_eq_true_eq, beq_iff_eq] at h
  rw [hc, eg.1, eg.2.1, eg.2.2, ea 1 (by omega), ea 4 (by omega)]
  rw [ea 1 (by omega), ea 4 (by omega), ea 5 (by omega), ea 6 (by omega), ea 7 (by omega)] at h
  rw [ea 0 (by omega)] at h0
  obtain ⟨x0, c, rfl, hcl0⟩ := cons_of hcl
  obtain ⟨x1, c, rfl, hcl1⟩ := cons_of hcl0
  obtain ⟨x2, c, rfl, hcl2⟩ := cons_of hcl1
  obtain ⟨x3, c, rfl, hcl3⟩ := cons_of hcl2
  obtain ⟨x4, c, rfl, hcl4⟩ := cons_of hcl3
  obtain ⟨x5, c, rfl, hcl5⟩ := cons_of hcl4
  obtain ⟨x6, c, rfl, hcl6⟩ := cons_of hcl5
  obtain ⟨x7, c, rfl, hcl7⟩ := cons_of hcl6
  obtain ⟨x8, c, rfl, hcl8⟩ := cons_of hcl7
  obtain ⟨x9, c, rfl, hcl9⟩ := cons_of hcl8
  obtain ⟨y0, c, rfl, hcl10⟩ := cons_of hcl9
  obtain ⟨y1, c, rfl, hcl11⟩ := cons_of hcl10
  obtain ⟨y2, c, rfl, hcl12⟩ := cons_of hcl11
  obtain ⟨y3, c, rfl, hcl13⟩ := cons_of hcl12
  obtain ⟨y4, c, rfl, hcl14⟩ := cons_of hcl13
  obtain ⟨y5, c, rfl, hcl15⟩ := cons_of hcl14
  obtain rfl := List.eq_nil_of_length_eq_zero hcl15
  have hx := fun (v : Int) (hv : v ∈ [x0, x1, x2, x3, x4, x5, x6, x7, x8, x9, y0, y1, y2, y3, y4, y5]) => hBc v hv
  have z2 := hx x2 (by simp)
  have z3 := hx x3 (by simp)
  have z8 := hx x8 (by simp)
  have z9 := hx x9 (by simp)
  have u0 := hx y0 (by simp)
  have u1 := hx y1 (by simp)
  have u2 := hx y2 (by simp)
  have u3 := hx y3 (by simp)
  have u4 := hx y4 (by simp)
  have u5 := hx y5 (by simp)
  have h' : ((((x1 ≤ 3) ∧ (x4 = 0 ∨ x4 = 1)) ∧ x5 = 0) ∧ x6 = 0) ∧ x7 = 0 := h
  have h0' : x0 = 2 := h0
  obtain ⟨⟨⟨⟨-, h4⟩, h5⟩, h6⟩, h7⟩ := h'
  have hi : ini (x4 == 1) = x4 := by
    unfold ini
    rcases h4 with rfl | rfl <;> rfl
  show [2, x1] ++ b2 ((0 * 256 + x2) * 256 + x3) ++ [ini (x4 == 1), 0, 0, 0] ++ b4 ((((0 * 256 + x8) * 256 + x9) * 256 + y0) * 256 + y1) ++ b4 ((((0 * 256 + y2) * 256 + y3) * 256 + y4) * 256 + y5) = _
  rw [b2_of z2 z3, b4_of z8 z9 u0 u1, b4_of u2 u3 u4 u5, hi]
  subst h5 h6 h7 h0'
  rfl
/-- When bytes are those of a packet. -/
theorem form_iff {l : List Int} (hB : Bytes l) (hf : framed l = true) (hs : sumOk l = true) (h40 : (l.length - 16) / 20 ≤ 40) : (encX (pkOf l) = 0 ∧ encB (pkOf l) = l) ↔ formOk l = true := by
  simp only [framed, Bool.and_eq_true, decide_eq_true_eq, beq_iff_eq] at hf
  obtain ⟨⟨h16, hmod⟩, hz⟩ := hf
  constructor
  · rintro ⟨hx, he⟩
    obtain ⟨-, hc, hm⟩ := encX_zero hx
    obtain ⟨c0, c1, c2⟩ := codeOk_all hc
    obtain ⟨p, hp⟩ : ∃ p, pkOf l = p := ⟨_, rfl⟩
    rw [hp] at he hx hc hm c0 c1 c2
    rw [encB_good hx] at he
    have hlen : (l.length - 16) / 20 = p.es.length := by rw [← he, bodyB_len]; omega
    have hd : l.drop 16 = p.es.flatMap entB := by
      rw [← he]
      unfold bodyB
      rw [List.drop_append_of_le_length (by rw [headB_len]; omega), List.drop_of_length_le (by rw [headB_len]; omega), List.nil_append]
    unfold formOk
    rw [hlen, hd, ents_forth _ hm]
    have e1 : at8 l 1 = p.c := by rw [← he]; rfl
    have e4 : at8 l 4 = ini p.i := by rw [← he]; rfl
    have e5 : at8 l 5 = 0 := by rw [← he]; rfl
    have e6 : at8 l 6 = 0 := by rw [← he]; rfl
    have e7 : at8 l 7 = 0 := by rw [← he]; rfl
    unfold headOk
    rw [e1, e4, e5, e6, e7, decide_eq_true c1]
    have ei : (ini p.i == 0 || ini p.i == 1) = true := by unfold ini; cases p.i <;> rfl
    rw [ei]
    have el : (p.c == 0 && decide (0 < p.es.length)) = false := by
      by_cases hc0 : p.c = 0
      · rw [c2 hc0]; simp
      · rw [(by simpa using hc0 : (p.c == 0) = false)]; rfl
    rw [el]
    rfl
  · intro h
    unfold formOk at h
    simp only [Bool.and_eq_true] at h
    obtain ⟨⟨hh, he⟩, hn⟩ := h
    have hdl : (l.drop 16).length = 20 * ((l.length - 16) / 20) := by rw [List.length_drop]; omega
    obtain ⟨i1, i2⟩ := ents_back _ _ hdl (hB.drop' 16) he
    have hb : bodyB (pkOf l) (getV l 2 2) = l := by
      unfold bodyB pkOf
      simp only
      rw [i1, head_of h16 hB hz hh, List.take_append_drop]
    have hp : plain l = bodyB (pkOf l) 0 := by rw [← plain_body (p := pkOf l) (getV l 2 2), hb]
    have hsum : sumI (bodyB (pkOf l) 0) = getV l 2 2 := by
      unfold sumOk at hs
      rw [← hp]; simpa using hs
    have hcode : codeOk (pkOf l) = true := by
      have h1 := hB.at 1
      unfold headOk at hh
      simp only [Bool.and_eq_true, decide_eq_true_eq] at hh
      unfold codeOk pkOf
      simp only [ents_length]
      rw [decide_eq_true (p := at8 l 1 ≤ 3) hh.1.1.1.1, decide_eq_true (p := 0 ≤ at8 l 1) (by unfold at8; omega)]
      exact hn
    have hx : encX (pkOf l) = 0 := encX_mk (by unfold pkOf; rw [ents_length]; exact h40) hcode (by unfold pkOf; exact i2)
    exact ⟨hx, by rw [encB_good hx, hsum, hb]⟩
/-- What some bytes are, said by formOk. -/
theorem dec_is {l : List Int} (hB : Bytes l) : dec l = if framed l = false then (pk0, 2) else if sumOk l = false then (pk0, 8) else if 40 < (l.length - 16) / 20 then (pk0, 9) else if formOk l = true then (pkOf l, 0) else (pk0, 2) := by
  unfold dec
  by_cases hf : framed l = false
  · rw [if_pos hf, if_pos hf]
  · rw [if_neg hf, if_neg hf]
    by_cases hs : sumOk l = false
    · rw [if_pos hs, if_pos hs]
    · rw [if_neg hs, if_neg hs]
      by_cases h40 : 40 < (l.length - 16) / 20
      · rw [if_pos h40, if_pos h40]
      · rw [if_neg h40, if_neg h40]
        have := form_iff hB (by simpa using hf) (by simpa using hs) (by omega)
        by_cases hg : formOk l = true
        · rw [if_pos hg, if_pos (this.2 hg)]
        · rw [if_neg hg, if_neg (fun h => hg (this.1 h))]
end Go.Proofs.Ytnlgdkbpolckcaa
