/- RIP packets as bytes: the pure functions, and that they come back. No program is named here. -/
import Derived.Test.YtabpillcpnnidaaMat1
import Derived.Test.YtabpillcpnnidaaMat2
namespace Go.Proofs.Ytabpillcpnnidaa
open Go.RowKit

/-- An entry: its address, its length, its tag, its next hop, its metric. -/
structure Ent where
  a : Int
  l : Int
  t : Int
  x : Int
  m : Int
deriving DecidableEq

/-- The five numbers are of their kinds. -/
structure Ent.Ok (e : Ent) : Prop where
  a0 : 0 ≤ e.a
  a1 : e.a < 4294967296
  l0 : -9223372036854775808 ≤ e.l
  l1 : e.l ≤ 9223372036854775807
  t0 : 0 ≤ e.t
  t1 : e.t ≤ 65535
  x0 : 0 ≤ e.x
  x1 : e.x ≤ 4294967295
  m0 : -9223372036854775808 ≤ e.m
  m1 : e.m ≤ 9223372036854775807

def Ents (es : List Ent) : Prop := ∀ e ∈ es, e.Ok

def mayE (e : Ent) : Bool := mayB e.a e.l && decide (1 ≤ e.m) && decide (e.m ≤ 16)

theorem mayE_all {e : Ent} (h : mayE e = true) : mayB e.a e.l = true ∧ 0 ≤ e.l ∧ e.l ≤ 32 ∧ 1 ≤ e.m ∧ e.m ≤ 16 := by
  simp only [mayE, Bool.and_eq_true, decide_eq_true_eq] at h
  have h2 := h.1.1
  simp only [mayB, decide_eq_true_eq] at h2
  exact ⟨h.1.1, h2.1, h2.2.1, h.1.2, h.2⟩

def b2 (n : Int) : List Int := [n / 256, n % 256]
def b4 (n : Int) : List Int := [n / 16777216, n / 65536 % 256, n / 256 % 256, n % 256]

theorem b2_bytes {n : Int} (h0 : 0 ≤ n) (h1 : n ≤ 65535) : Bytes (b2 n) := by
  intro v hv
  simp only [b2, List.mem_cons, List.not_mem_nil, or_false] at hv
  rcases hv with rfl | rfl <;> omega
theorem b4_bytes {n : Int} (h0 : 0 ≤ n) (h1 : n ≤ 4294967295) : Bytes (b4 n) := by
  intro v hv
  simp only [b4, List.mem_cons, List.not_mem_nil, or_false] at hv
  rcases hv with rfl | rfl | rfl | rfl <;> omega

/-- An entry's twenty bytes. -/
def encE (e : Ent) : List Int := [0, 2] ++ b2 e.t ++ b4 e.a ++ b4 (maskV e.l) ++ b4 e.x ++ b4 e.m

theorem encE_len (e : Ent) : (encE e).length = 20 := rfl
theorem encE_bytes {e : Ent} (h : e.Ok) (hm : mayE e = true) : Bytes (encE e) := by
  have hk := mayE_all hm
  have hv := maskV_bd e.l
  refine (((((Bytes.append ?_ (b2_bytes h.t0 h.t1)).append (b4_bytes h.a0 (by have := h.a1; omega))).append (b4_bytes hv.1 (by omega))).append (b4_bytes h.x0 h.x1)).append (b4_bytes (by omega) (by omega)))
  unfold Bytes; decide

/-- Whether a packet may be, but for how many entries it has. -/
def mayP (c : Int) (w : Bool) (es : List Ent) : Bool := (c == 1 || c == 2) && !(w && (c != 1 || decide (0 < es.length))) && es.all mayE

def wholeL : List Int := [0, 0, 0, 0, 0, 0, 0, 0, 0, 0, 0, 0, 0, 0, 0, 0, 0, 0, 0, 16]

def encX (c : Int) (w : Bool) (es : List Ent) : Int := if 25 < es.length then 9 else if mayP c w es = true then 0 else 1
def encB (c : Int) (w : Bool) (es : List Ent) : List Int := if encX c w es = 0 then [c, 2, 0, 0] ++ (if w then wholeL else es.flatMap encE) else []

/-- The entry that twenty bytes are. -/
def decE (l : List Int) : Ent := ⟨getV l 4 4, bitsI (getV l 8 4), getV l 2 2, getV l 12 4, getV l 16 4⟩
def decB (l : List Int) : Bool := getV l 0 2 == 2 && bitsB (getV l 8 4) && mayE (decE l)

/-- The entries of n times twenty bytes. -/
def decN : Nat → List Int → Option (List Ent)
  | 0, _ => some []
  | n + 1, l => if decB (l.take 20) = true then (decN n (l.drop 20)).map (decE (l.take 20) :: ·) else none

def framed (l : List Int) : Bool := decide (4 ≤ l.length) && decide ((l.length - 4) % 20 = 0) && (l[0]?.getD 0 == 1 || l[0]?.getD 0 == 2) && l[1]?.getD 0 == 2 && l[2]?.getD 0 == 0 && l[3]?.getD 0 == 0

/-- What some bytes are: the command, whether it is whole, the entries; or the error. -/
structure Pkt where
  c : Int
  w : Bool
  es : List Ent
  x : Int

def isWhole (l : List Int) : Bool := l[0]?.getD 0 == 1 && decide (l.drop 4 = wholeL)

def dec (l : List Int) : Pkt :=
  if framed l = false then ⟨0, false, [], 2⟩
  else if 25 < (l.length - 4) / 20 then ⟨0, false, [], 9⟩
  else if isWhole l = true then ⟨1, true, [], 0⟩
  else match decN ((l.length - 4) / 20) (l.drop 4) with
    | none => ⟨0, false, [], 2⟩
    | some es => ⟨l[0]?.getD 0, false, es, 0⟩

theorem decN_len : ∀ (n : Nat) (l : List Int) (es : List Ent), decN n l = some es → es.length = n := by
  intro n
  induction n with
  | zero => intro l es h; simp only [decN, Option.some.injEq] at h; subst h; rfl
  | succ n ih =>
    intro l es h
    simp only [decN] at h
    split at h
    · obtain ⟨r, hr, rfl⟩ := Option.map_eq_some_iff.1 h
      simp [ih _ _ hr]
    · cases h

theorem bits_of {m : Int} (h : bitsB m = true) : maskV (bitsI m) = m ∧ 0 ≤ bitsI m ∧ bitsI m ≤ 32 := by
  unfold bitsB at h
  obtain ⟨k, hk⟩ := Option.isSome_iff_exists.1 h
  have e : bitsI m = (k : Int) := by unfold bitsI; rw [hk]; rfl
  have h2 := List.find?_some hk
  have h3 := List.mem_range.1 (List.mem_of_find?_eq_some hk)
  refine ⟨?_, by omega, by omega⟩
  rw [e]
  unfold maskV
  rw [cl_of (by omega) (by omega)]
  simpa using h2
theorem bits_mask {l : Int} (h0 : 0 ≤ l) (h1 : l ≤ 32) : bitsB (maskV l) = true ∧ bitsI (maskV l) = l := by
  have e : maskV l = mkI l.toNat := by unfold maskV; rw [cl_of h0 h1]
  have hb := bits_mk (k := l.toNat) (by omega)
  unfold bitsB bitsI
  rw [e, hb]
  exact ⟨rfl, by simp; omega⟩
theorem bitsI_bd (m : Int) : 0 ≤ bitsI m ∧ bitsI m ≤ 32 := by
  cases h : bitsB m
  · unfold bitsB at h
    have : bitsN m = none := by simpa using h
    unfold bitsI; rw [this]; simp
  · exact (bits_of h).2

theorem getV_u {l : List Int} (h : Bytes l) (p : Nat) : 0 ≤ getV l p 4 ∧ getV l p 4 ≤ 4294967295 := by
  have := getV_bd h p 4
  simp at this
  omega
theorem getV_h {l : List Int} (h : Bytes l) (p : Nat) : 0 ≤ getV l p 2 ∧ getV l p 2 ≤ 65535 := by
  have := getV_bd h p 2
  simp at this
  omega
theorem decE_ok {l : List Int} (h : Bytes l) : (decE l).Ok := by
  have a := getV_u h 4
  have b := bitsI_bd (getV l 8 4)
  have c := getV_h h 2
  have d := getV_u h 12
  have e := getV_u h 16
  constructor <;> simp only [decE] <;> omega

/-- Twenty bytes are read as they were written. -/
theorem dec_enc {e : Ent} (_h : e.Ok) (hm : mayE e = true) : decE (encE e) = e ∧ decB (encE e) = true := by
  have hk := mayE_all hm
  have hbm := bits_mask hk.2.1 hk.2.2.1
  have g0 : getV (encE e) 0 2 = 2 := by simp [getV, encE, b2, b4]
  have g2 : getV (encE e) 2 2 = e.t := by simp [getV, encE, b2, b4]; omega
  have g4 : getV (encE e) 4 4 = e.a := by simp [getV, encE, b2, b4]; omega
  have g8 : getV (encE e) 8 4 = maskV e.l := by simp [getV, encE, b2, b4]; omega
  have g12 : getV (encE e) 12 4 = e.x := by simp [getV, encE, b2, b4]; omega
  have g16 : getV (encE e) 16 4 = e.m := by simp [getV, encE, b2, b4]; omega
  have e1 : decE (encE e) = e := by
    unfold decE
    rw [g2, g4, g8, g12, g16, hbm.2]
  refine ⟨e1, ?_⟩
  unfold decB
  rw [e1, g0, g8, hbm.1, hm]
  rfl

theorem list20 (l : List Int) (h : l.length = 20) : ∃ a0 a1 a2 a3 a4 a5 a6 a7 a8 a9 a10 a11 a12 a13 a14 a15 a16 a17 a18 a19, l = [a0, a1, a2, a3, a4, a5, a6, a7, a8, a9, a10, a11, a12, a13, a14, a15, a16, a17, a18, a19] := by
  match l, h with
  | [a0, a1, a2, a3, a4, a5, a6, a7, a8, a9, a10, a11, a12, a13, a14, a15, a16, a17, a18, a19], _ => exact ⟨a0, a1, a2, a3, a4, a5, a6, a7, a8, a9, a10, a11, a12, a13, a14, a15, a16, a17, a18, a19, rfl⟩

theorem b4_of {a b c d : Int} (_ha : 0 ≤ a ∧ a ≤ 255) (hb : 0 ≤ b ∧ b ≤ 255) (hc : 0 ≤ c ∧ c ≤ 255) (hd : 0 ≤ d ∧ d ≤ 255) : b4 (((a * 256 + b) * 256 + c) * 256 + d) = [a, b, c, d] := by
  unfold b4
  simp only [List.cons.injEq, and_true]
  refine ⟨?_, ?_, ?_, ?_⟩ <;> omega
theorem b2_of {a b : Int} (_ha : 0 ≤ a ∧ a ≤ 255) (hb : 0 ≤ b ∧ b ≤ 255) : b2 (a * 256 + b) = [a, b] := by
  unfold b2
  simp only [List.cons.injEq, and_true]
  refine ⟨?_, ?_⟩ <;> omega

/-- What is read is written as the same bytes. -/
theorem enc_dec {l : List Int} (hl : l.length = 20) (hB : Bytes l) (h : decB l = true) : encE (decE l) = l := by
  simp only [decB, Bool.and_eq_true, beq_iff_eq] at h
  obtain ⟨⟨h0, h8⟩, hm⟩ := h
  have hb := (bits_of h8).1
  unfold encE
  have e8 : maskV (decE l).l = getV l 8 4 := hb
  rw [e8]
  simp only [decE]
  clear hb e8 hm h8
  obtain ⟨a0, a1, a2, a3, a4, a5, a6, a7, a8, a9, a10, a11, a12, a13, a14, a15, a16, a17, a18, a19, rfl⟩ := list20 l hl
  have c0 := hB a0 (by simp)
  have c1 := hB a1 (by simp)
  have c2 := hB a2 (by simp)
  have c3 := hB a3 (by simp)
  have c4 := hB a4 (by simp)
  have c5 := hB a5 (by simp)
  have c6 := hB a6 (by simp)
  have c7 := hB a7 (by simp)
  have c8 := hB a8 (by simp)
  have c9 := hB a9 (by simp)
  have c10 := hB a10 (by simp)
  have c11 := hB a11 (by simp)
  have c12 := hB a12 (by simp)
  have c13 := hB a13 (by simp)
  have c14 := hB a14 (by simp)
  have c15 := hB a15 (by simp)
  have c16 := hB a16 (by simp)
  have c17 := hB a17 (by simp)
  have c18 := hB a18 (by simp)
  have c19 := hB a19 (by simp)
  clear hB hl
  simp [getV] at h0
  have z0 : a0 = 0 := by omega
  have z1 : a1 = 2 := by omega
  subst z0 z1
  simp only [getV, Nat.add_zero, Nat.reduceAdd, List.getElem?_cons_succ, List.getElem?_cons_zero, Option.getD_some, Int.zero_mul, Int.zero_add]
  rw [b2_of c2 c3, b4_of c4 c5 c6 c7, b4_of c8 c9 c10 c11, b4_of c12 c13 c14 c15, b4_of c16 c17 c18 c19]
  rfl
end Go.Proofs.Ytabpillcpnnidaa
