/- DUAL packets as bytes: the pure functions, and that they come back. No program is named here. -/
import Derived.Test.YtnlgdkbpolckcaaMatS
import Derived.Test.YtnlgdkbpolckcaaMat2
namespace Go.Proofs.Ytnlgdkbpolckcaa
open Go.RowKit

/-- An entry: its address, its length; the vector's band, delay, hops; its tag. -/
structure Ent where
  a : Int
  l : Int
  b : Int
  d : Int
  h : Int
  t : Int
deriving DecidableEq
/-- The numbers are of their kinds. -/
structure Ent.Ok (e : Ent) : Prop where
  a0 : 0 ≤ e.a
  a1 : e.a < 4294967296
  l0 : -9223372036854775808 ≤ e.l
  l1 : e.l ≤ 9223372036854775807
  t0 : 0 ≤ e.t
  t1 : e.t ≤ 65535
  h0 : -9223372036854775808 ≤ e.h
  h1 : e.h ≤ 9223372036854775807
  b0 : -9223372036854775808 ≤ e.b
  b1 : e.b ≤ 9223372036854775807
  d0 : -9223372036854775808 ≤ e.d
  d1 : e.d ≤ 9223372036854775807
def Ents (es : List Ent) : Prop := ∀ e ∈ es, e.Ok
/-- A vector that may be; one that is all noughts. -/
def mayV (h b d : Int) : Bool := decide (1 ≤ b) && decide (b ≤ 10000000) && decide (0 ≤ d) && decide (d ≤ 16777216) && decide (0 ≤ h) && decide (h ≤ 100)
def noV (h b d : Int) : Bool := b == 0 && d == 0 && h == 0
def mayE (e : Ent) : Bool := mayB e.a e.l && (mayV e.h e.b e.d || noV e.h e.b e.d)
theorem mayV_all {h b d : Int} (hv : (mayV h b d || noV h b d) = true) : 0 ≤ h ∧ h ≤ 100 ∧ 0 ≤ b ∧ b ≤ 10000000 ∧ 0 ≤ d ∧ d ≤ 16777216 := by
  simp only [mayV, noV, Bool.or_eq_true, Bool.and_eq_true, decide_eq_true_eq, beq_iff_eq] at hv
  omega
theorem mayE_all {e : Ent} (h : mayE e = true) : mayB e.a e.l = true ∧ 0 ≤ e.l ∧ e.l ≤ 32 ∧ 0 ≤ e.h ∧ e.h ≤ 100 ∧ 0 ≤ e.b ∧ e.b ≤ 10000000 ∧ 0 ≤ e.d ∧ e.d ≤ 16777216 := by
  simp only [mayE, Bool.and_eq_true] at h
  have h2 := h.1
  simp only [mayB, decide_eq_true_eq] at h2
  obtain ⟨v1, v2, v3, v4, v5, v6⟩ := mayV_all h.2
  exact ⟨h.1, h2.1, h2.2.1, v1, v2, v3, v4, v5, v6⟩

def at8 (b : List Int) (k : Nat) : Int := b[k]?.getD 0
def b2 (n : Int) : List Int := [n / 256, n % 256]
def b4 (n : Int) : List Int := [n / 16777216, n / 65536 % 256, n / 256 % 256, n % 256]
theorem b2_bytes {n : Int} (h0 : 0 ≤ n) (h1 : n ≤ 65535) : Bytes (b2 n) := by
  intro v hv
  simp only [b2, List.mem_cons, List.not_mem_nil, or_false] at hv
  rcases hv with rfl | rfl <;> omega
theorem b4_bytes {n : Int} (h0 : 0 ≤ n) (h1 : n ≤ 4294967295) : Bytes (b4 n) := by
  intro v hv
  simp only [b4, List.mem_cons, List.not_mem_nil, or_false] at hv
  rcases hv with rfl | rfl | rfl | rfl <;> omega

/-- An entry's twenty bytes. -/
def entB (e : Ent) : List Int := b4 e.a ++ [e.l, e.h] ++ b2 e.t ++ b4 e.b ++ b4 e.d ++ [0, 0, 0, 0]
theorem entB_len (e : Ent) : (entB e).length = 20 := rfl
theorem entB_bytes {e : Ent} (h : e.Ok) (hm : mayE e = true) : Bytes (entB e) := by
  obtain ⟨-, l0, l1, h0, h1, b0, b1, d0, d1⟩ := mayE_all hm
  refine (((((b4_bytes h.a0 (by have := h.a1; omega)).append ?_).append (b2_bytes h.t0 h.t1)).append (b4_bytes b0 (by omega))).append (b4_bytes d0 (by omega))).append ?_
  · intro v hv
    simp only [List.mem_cons, List.not_mem_nil, or_false] at hv
    rcases hv with rfl | rfl <;> omega
  · intro v hv
    simp only [List.mem_cons, List.not_mem_nil, or_false, or_self] at hv
    subst hv; omega

/-- A packet: its code, whether it begins, its numbers, its entries. -/
structure Pk where
  c : Int
  i : Bool
  s : Int
  k : Int
  es : List Ent
deriving DecidableEq
structure Pk.Ok (p : Pk) : Prop where
  c0 : -9223372036854775808 ≤ p.c
  c1 : p.c ≤ 9223372036854775807
  s0 : 0 ≤ p.s
  s1 : p.s ≤ 4294967295
  k0 : 0 ≤ p.k
  k1 : p.k ≤ 4294967295
  e : Ents p.es
def pk0 : Pk := ⟨0, false, 0, 0, []⟩
def ini (b : Bool) : Int := if b = true then 1 else 0
def headB (p : Pk) (sum : Int) : List Int := [2, p.c] ++ b2 sum ++ [ini p.i, 0, 0, 0] ++ b4 p.s ++ b4 p.k
def bodyB (p : Pk) (sum : Int) : List Int := headB p sum ++ p.es.flatMap entB
def codeOk (p : Pk) : Bool := decide (0 ≤ p.c) && decide (p.c ≤ 3) && !(p.c == 0 && decide (0 < p.es.length))
def encX (p : Pk) : Int := if 40 < p.es.length then 9 else if codeOk p = true ∧ p.es.all mayE = true then 0 else 1
def encB (p : Pk) : List Int := if encX p = 0 then bodyB p (sumI (bodyB p 0)) else []
theorem headB_len (p : Pk) (s : Int) : (headB p s).length = 16 := rfl
theorem ents_len (es : List Ent) : (es.flatMap entB).length = 20 * es.length := by
  induction es with
  | nil => rfl
  | cons e es ih => rw [List.flatMap_cons, List.length_append, ih, entB_len, List.length_cons]; omega
theorem bodyB_len (p : Pk) (s : Int) : (bodyB p s).length = 16 + 20 * p.es.length := by unfold bodyB; rw [List.length_append, headB_len, ents_len]
theorem ents_bytes {es : List Ent} (hk : Ents es) (hm : es.all mayE = true) : Bytes (es.flatMap entB) := by
  intro v hv
  obtain ⟨e, he, hv⟩ := List.mem_flatMap.1 hv
  exact entB_bytes (hk e he) (List.all_eq_true.1 hm e he) v hv
theorem codeOk_all {p : Pk} (h : codeOk p = true) : 0 ≤ p.c ∧ p.c ≤ 3 ∧ (p.c = 0 → p.es = []) := by
  simp only [codeOk, Bool.and_eq_true, decide_eq_true_eq, Bool.not_eq_true', Bool.and_eq_false_iff, beq_eq_false_iff_ne, decide_eq_false_iff_not] at h
  refine ⟨h.1.1, h.1.2, fun hc => ?_⟩
  rcases h.2 with h | h
  · exact absurd hc h
  · exact List.eq_nil_of_length_eq_zero (by omega)
theorem headB_bytes {p : Pk} (h : p.Ok) (c0 : 0 ≤ p.c) (c1 : p.c ≤ 3) {s : Int} (s0 : 0 ≤ s) (s1 : s ≤ 65535) : Bytes (headB p s) := by
  refine ((((Bytes.append ?_ (b2_bytes s0 s1)).append ?_).append (b4_bytes h.s0 h.s1)).append (b4_bytes h.k0 h.k1))
  · intro v hv
    simp only [List.mem_cons, List.not_mem_nil, or_false] at hv
    rcases hv with rfl | rfl <;> omega
  · intro v hv
    simp only [List.mem_cons, List.not_mem_nil, or_false] at hv
    unfold ini at hv
    rcases hv with rfl | rfl | rfl | rfl
    · split <;> omega
    all_goals omega
theorem encX_zero {p : Pk} (h : encX p = 0) : p.es.length ≤ 40 ∧ codeOk p = true ∧ p.es.all mayE = true := by
  unfold encX at h
  split at h
  · omega
  · split at h
    · rename_i h1 h2; exact ⟨by omega, h2.1, h2.2⟩
    · omega
theorem encX_mk {p : Pk} (h : p.es.length ≤ 40) (hc : codeOk p = true) (hm : p.es.all mayE = true) : encX p = 0 := by unfold encX; rw [if_neg (by omega), if_pos ⟨hc, hm⟩]
theorem encX_long {p : Pk} (h : 40 < p.es.length) : encX p = 9 := by unfold encX; rw [if_pos h]
theorem encX_arg {p : Pk} (h : p.es.length ≤ 40) (hm : ¬ (codeOk p = true ∧ p.es.all mayE = true)) : encX p = 1 := by unfold encX; rw [if_neg (by omega), if_neg hm]
theorem encX_cases (p : Pk) : encX p = 0 ∨ encX p = 1 ∨ encX p = 9 := by
  unfold encX; repeat' split
  all_goals simp
theorem encB_bad {p : Pk} (h : encX p ≠ 0) : encB p = [] := by unfold encB; rw [if_neg h]
theorem encB_good {p : Pk} (h : encX p = 0) : encB p = bodyB p (sumI (bodyB p 0)) := by unfold encB; rw [if_pos h]
theorem bodyB_bytes {p : Pk} (h : p.Ok) (hx : encX p = 0) {s : Int} (s0 : 0 ≤ s) (s1 : s ≤ 65535) : Bytes (bodyB p s) := by
  obtain ⟨-, h2, h3⟩ := encX_zero hx
  obtain ⟨c0, c1, -⟩ := codeOk_all h2
  exact (headB_bytes h c0 c1 s0 s1).append (ents_bytes h.e h3)
theorem encB_bytes {p : Pk} (h : p.Ok) : Bytes (encB p) := by
  by_cases hx : encX p = 0
  · rw [encB_good hx]
    have hb := sumI_bd (bodyB_bytes h hx (s := 0) (by omega) (by omega))
    exact bodyB_bytes h hx hb.1 hb.2
  · rw [encB_bad hx]; intro v hv; cases hv
theorem encB_len {p : Pk} (hx : encX p = 0) : (encB p).length = 16 + 20 * p.es.length := by rw [encB_good hx, bodyB_len]
theorem encB_short (p : Pk) : (encB p).length ≤ 816 := by
  by_cases hx : encX p = 0
  · have := (encX_zero hx).1; rw [encB_len hx]; omega
  · rw [encB_bad hx]; simp

/-- The entry that twenty bytes are, and as many as there are. -/
def entOf (l : List Int) : Ent := ⟨getV l 0 4, at8 l 4, getV l 8 4, getV l 12 4, at8 l 5, getV l 6 2⟩
def ents : Nat → List Int → List Ent
  | 0, _ => []
  | n + 1, l => entOf (l.take 20) :: ents n (l.drop 20)
theorem ents_length (n : Nat) (l : List Int) : (ents n l).length = n := by
  induction n generalizing l with
  | zero => rfl
  | succ n ih => simp [ents, ih]
def pkOf (l : List Int) : Pk := ⟨at8 l 1, at8 l 4 == 1, getV l 8 4, getV l 12 4, ents ((l.length - 16) / 20) (l.drop 16)⟩
def framed (l : List Int) : Bool := decide (16 ≤ l.length) && decide ((l.length - 16) % 20 = 0) && at8 l 0 == 2
def plain (l : List Int) : List Int := (l.set 2 0).set 3 0
def sumOk (l : List Int) : Bool := sumI (plain l) == getV l 2 2
/-- What some bytes are, and the error. -/
def dec (l : List Int) : Pk × Int :=
  if framed l = false then (pk0, 2) else if sumOk l = false then (pk0, 8) else if 40 < (l.length - 16) / 20 then (pk0, 9)
  else if encX (pkOf l) = 0 ∧ encB (pkOf l) = l then (pkOf l, 0) else (pk0, 2)

theorem getV_b4 {n : Int} (r : List Int) : getV (b4 n ++ r) 0 4 = n := by
  simp [getV, b4]; omega
theorem getV_drop (l : List Int) (p k : Nat) : getV l p k = getV (l.drop p) 0 k := by
  induction k with
  | zero => rfl
  | succ k ih => simp only [getV, ih, List.getElem?_drop, Nat.zero_add]
theorem entOf_entB {e : Ent} (r : List Int) : entOf ((entB e ++ r).take 20) = e := by
  have h : (entB e ++ r).take 20 = entB e := by rw [List.take_append_of_le_length (by rw [entB_len]; omega), List.take_of_length_le (by rw [entB_len]; omega)]
  rw [h]
  obtain ⟨a, l, b, d, hh, t⟩ := e
  simp only [entOf, entB, b2, b4, at8, getV]
  simp
  omega
theorem ents_flat (es : List Ent) (r : List Int) : ents es.length (es.flatMap entB ++ r) = es := by
  induction es with
  | nil => rfl
  | cons e es ih =>
    rw [List.length_cons, List.flatMap_cons, List.append_assoc]
    simp only [ents]
    rw [entOf_entB]
    have : (entB e ++ (es.flatMap entB ++ r)).drop 20 = es.flatMap entB ++ r := by
      rw [List.drop_append_of_le_length (by rw [entB_len]; omega), List.drop_of_length_le (by rw [entB_len]; omega), List.nil_append]
    rw [this, ih]
theorem pkOf_body {p : Pk} (s : Int) : pkOf (bodyB p s) = p := by
  have h1 : ents (((bodyB p s).length - 16) / 20) ((bodyB p s).drop 16) = p.es := by
    rw [bodyB_len]
    have : (bodyB p s).drop 16 = p.es.flatMap entB ++ [] := by
      unfold bodyB
      rw [List.drop_append_of_le_length (by rw [headB_len]; omega), List.drop_of_length_le (by rw [headB_len]; omega), List.nil_append, List.append_nil]
    rw [this, show (16 + 20 * p.es.length - 16) / 20 = p.es.length by omega, ents_flat]
  obtain ⟨c, i, sq, k, es⟩ := p
  unfold pkOf
  rw [h1]
  simp only [bodyB, headB, b2, b4, at8, getV, ini]
  cases i <;> simp <;> omega
theorem plain_body {p : Pk} (s : Int) : plain (bodyB p s) = bodyB p 0 := by
  unfold plain bodyB headB b2
  simp
theorem framed_body (p : Pk) (s : Int) : framed (bodyB p s) = true := by
  unfold framed
  rw [bodyB_len, decide_eq_true (by omega), decide_eq_true (by omega)]
  rfl
theorem sum_at (p : Pk) {s : Int} (_h0 : 0 ≤ s) (_h1 : s ≤ 65535) : getV (bodyB p s) 2 2 = s := by
  simp only [bodyB, headB, b2, getV]
  simp
  omega
/-- A packet is decoded as it was encoded. -/
theorem dec_enc {p : Pk} (h : p.Ok) (hx : encX p = 0) : dec (encB p) = (p, 0) := by
  have hb := sumI_bd (bodyB_bytes h hx (s := 0) (by omega) (by omega))
  have e := encB_good hx
  have hp : pkOf (encB p) = p := by rw [e]; exact pkOf_body _
  have hf : framed (encB p) = true := by rw [e]; exact framed_body _ _
  have hs : sumOk (encB p) = true := by unfold sumOk; rw [e, plain_body, sum_at p hb.1 hb.2]; simp
  have hl := encB_len hx
  have h40 := (encX_zero hx).1
  unfold dec
  rw [if_neg (by rw [hf]; simp), if_neg (by rw [hs]; simp), if_neg (by omega), hp, if_pos ⟨hx, rfl⟩]
/-- What is decoded is encoded as just these bytes. -/
theorem dec_once {l : List Int} {p : Pk} (h : dec l = (p, 0)) : encX p = 0 ∧ encB p = l ∧ framed l = true ∧ sumOk l = true := by
  unfold dec at h
  split at h
  · simp at h
  · split at h
    · simp at h
    · split at h
      · simp at h
      · split at h
        · rename_i h1 h2 h3 h4
          simp only [Prod.mk.injEq, and_true] at h
          subst h
          exact ⟨h4.1, h4.2, by simpa using h1, by simpa using h2⟩
        · simp at h
theorem dec_cases (l : List Int) : (dec l).2 = 0 ∨ (dec l).2 = 2 ∨ (dec l).2 = 8 ∨ (dec l).2 = 9 := by
  unfold dec; repeat' split
  all_goals simp
theorem dec_none {l : List Int} (h : (dec l).2 ≠ 0) : (dec l).1 = pk0 := by
  revert h
  unfold dec
  split
  · intro _; rfl
  · split
    · intro _; rfl
    · split
      · intro _; rfl
      · split
        · intro h; exact absurd rfl h
        · intro _; rfl
theorem encB_inj {p q : Pk} (hp : p.Ok) (hq : q.Ok) (h1 : encX p = 0) (h2 : encX q = 0) : encB p = encB q ↔ p = q := by
  constructor
  · intro h
    have := dec_enc hp h1
    rw [h, dec_enc hq h2] at this
    simp only [Prod.mk.injEq, and_true] at this
    exact this.symm
  · rintro rfl; rfl
/-- A packet of which one byte is another one is refused. -/
theorem dec_spoil {p : Pk} (h : p.Ok) (hx : encX p = 0) {j : Nat} (hj : j < (encB p).length) {v : Int} (hv : 0 ≤ v ∧ v ≤ 255) (hne : v ≠ at8 (encB p) j) : (dec ((encB p).set j v)).2 ≠ 0 := by
  intro h0
  obtain ⟨q, hq⟩ : ∃ q, dec ((encB p).set j v) = (q, 0) := ⟨(dec ((encB p).set j v)).1, by rw [← h0]⟩
  obtain ⟨-, -, -, hs'⟩ := dec_once hq
  obtain ⟨-, -, -, hs⟩ := dec_once (dec_enc h hx)
  have hB := encB_bytes h
  have hl : 16 ≤ (encB p).length := by rw [encB_len hx]; omega
  obtain ⟨l, hl'⟩ : ∃ l, encB p = l := ⟨_, rfl⟩
  rw [hl'] at hs hs' hB hl hj hne
  unfold sumOk at hs hs'
  simp only [beq_iff_eq] at hs hs'
  have hBp : Bytes (plain l) := (hB.set 2 0 (by omega)).set 3 0 (by omega)
  have b2' := hB.at 2
  have b3' := hB.at 3
  unfold at8 at hne
  by_cases h2 : j = 2
  · subst h2
    have e : plain (l.set 2 v) = plain l := by unfold plain; simp
    rw [e, hs] at hs'
    have g2 : (l.set 2 v)[2]? = some v := by rw [List.getElem?_set_self hj]
    have g3 : (l.set 2 v)[3]? = l[3]? := by rw [List.getElem?_set_ne (by omega)]
    simp only [getV, Nat.add_zero, Nat.reduceAdd, g2, g3, Option.getD_some] at hs'
    omega
  by_cases h3 : j = 3
  · subst h3
    have e : plain (l.set 3 v) = plain l := by unfold plain; rw [List.set_comm _ _ (by omega : (3 : Nat) ≠ 2), List.set_set]
    rw [e, hs] at hs'
    have g3 : (l.set 3 v)[3]? = some v := by rw [List.getElem?_set_self hj]
    have g2 : (l.set 3 v)[2]? = l[2]? := by rw [List.getElem?_set_ne (by omega)]
    simp only [getV, Nat.add_zero, Nat.reduceAdd, g2, g3, Option.getD_some] at hs'
    omega
  have e : plain (l.set j v) = (plain l).set j v := by
    unfold plain
    rw [List.set_comm _ _ (by omega : j ≠ 2), List.set_comm _ _ (by omega : j ≠ 3)]
  have gv : getV (l.set j v) 2 2 = getV l 2 2 := by
    simp only [getV, Nat.add_zero, Nat.reduceAdd]
    rw [List.getElem?_set_ne h2, List.getElem?_set_ne h3]
  rw [e, gv, ← hs] at hs'
  have hp : (plain l)[j]?.getD 0 = l[j]?.getD 0 := by
    unfold plain
    rw [List.getElem?_set_ne (by omega), List.getElem?_set_ne (by omega)]
  refine sum_set hBp (j := j) (by unfold plain; simpa using hj) hv (by rw [hp]; exact hne) hs'
end Go.Proofs.Ytnlgdkbpolckcaa
