/- Babel parts out of bytes: the pure functions of reading. No program is named here. -/
import Derived.Test.YtakikkigkmcffaaMat3
namespace Go.Proofs.Ytakikkigkmcffaa
open Go.RowKit

/-- The byte at a place. -/
def at8 (b : List Int) (k : Nat) : Int := b[k]?.getD 0
def v8 (b : List Int) (p : Nat) : Int := getV b p 4 * 4294967296 + getV b (p + 4) 4
/-- The address whose first n bytes are those of an address, and then those of b, and then noughts. -/
def mixL (last : Int) (om : Nat) (b : List Int) : List Int := (b4 last).take om ++ b ++ List.replicate (4 - om - b.length) 0
def mix (last : Int) (om : Nat) (b : List Int) : Int := getV (mixL last om b) 0 4

/-- What is known, and the parts so far. -/
structure St where
  kn : Kn
  ps : List Tlv
def St.add (S : St) (p : Tlv) : St := ⟨S.kn, S.ps ++ [p]⟩

def pairB (b : List Int) : Bool := decide (b.length = 6) && getV b 0 2 == 0
def helloT (b : List Int) : Tlv := ⟨0, getV b 2 2, getV b 4 2, 0, 0, 0, 0, 0, 0⟩
def ihuT (b : List Int) : Tlv := ⟨1, 0, getV b 4 2, getV b 2 2, 0, 0, 0, 0, 0⟩
def routB (b : List Int) : Bool := decide (b.length = 10) && getV b 0 2 == 0
/-- A prefix of that length, of which om bytes are left out, at the beginning of b. -/
def pfxOk (last l : Int) (om : Nat) (b : List Int) : Bool := decide (l ≤ 32) && decide (om ≤ nd l) && decide (nd l - om ≤ b.length) && mayB (mix last om (b.take (nd l - om))) l
def tagOk (b : List Int) : Bool := decide (b.length = 0) || (decide (b.length = 4) && at8 b 0 == 200 && at8 b 1 == 2 && getV b 2 2 != 0)
def tagV (b : List Int) : Int := if b.length = 0 then 0 else getV b 2 2
def upHead (told : Bool) (b : List Int) : Bool := told && decide (10 ≤ b.length) && at8 b 0 == 1 && at8 b 1 == 128
def upOk (K : Kn) (b : List Int) : Bool := upHead K.told b && pfxOk K.a (at8 b 2) (at8 b 3).toNat (b.drop 10) && tagOk ((b.drop 10).drop (nd (at8 b 2) - (at8 b 3).toNat))
def upA (K : Kn) (b : List Int) : Int := mix K.a (at8 b 3).toNat ((b.drop 10).take (nd (at8 b 2) - (at8 b 3).toNat))
def upT (K : Kn) (b : List Int) : Tlv := ⟨2, getV b 6 2, getV b 4 2, getV b 8 2, upA K b, at8 b 2, K.r, tagV ((b.drop 10).drop (nd (at8 b 2) - (at8 b 3).toNat)), 0⟩
def askHead (b : List Int) : Bool := decide (2 ≤ b.length) && at8 b 0 == 1
def askOk (b : List Int) : Bool := askHead b && pfxOk 0 (at8 b 1) 0 (b.drop 2) && decide ((b.drop 2).length = nd (at8 b 1))
def askT (b : List Int) : Tlv := ⟨3, 0, 0, 0, mix 0 0 ((b.drop 2).take (nd (at8 b 1))), at8 b 1, 0, 0, 0⟩
def seqHead (b : List Int) : Bool := decide (14 ≤ b.length) && at8 b 0 == 1 && at8 b 5 == 0
def seqOk (b : List Int) : Bool := seqHead b && pfxOk 0 (at8 b 1) 0 (b.drop 14) && decide ((b.drop 14).length = nd (at8 b 1))
def seqT (b : List Int) : Tlv := ⟨4, getV b 2 2, 0, 0, mix 0 0 ((b.drop 14).take (nd (at8 b 1))), at8 b 1, v8 b 6, 0, at8 b 4⟩

/-- What a part's bytes make of what is known. -/
def tk (S : St) (k : Int) (b : List Int) : Option St :=
  if k = 4 then (if pairB b = true then some (S.add (helloT b)) else none)
  else if k = 5 then (if pairB b = true then some (S.add (ihuT b)) else none)
  else if k = 6 then (if routB b = true then some ⟨⟨true, v8 b 2, S.kn.a⟩, S.ps⟩ else none)
  else if k = 8 then (if upOk S.kn b = true then some ⟨⟨true, S.kn.r, upA S.kn b⟩, S.ps ++ [upT S.kn b]⟩ else none)
  else if k = 9 then (if askOk b = true then some (S.add (askT b)) else none)
  else if k = 10 then (if seqOk b = true then some (S.add (seqT b)) else none)
  else some S

/-- How many bytes the first part says. -/
def ln (l : List Int) : Nat := (at8 l 1).toNat
/-- All parts, one behind the other. -/
def run (S : St) (l : List Int) : Option St :=
  if _hl : l.length = 0 then some S
  else if l.length < 2 then none
  else if l.length < 2 + ln l then none
  else match tk S (at8 l 0) ((l.drop 2).take (ln l)) with
    | none => none
    | some S' => run S' (l.drop (2 + ln l))
termination_by l.length
decreasing_by simp only [List.length_drop]; omega

theorem run_nil (S : St) : run S [] = some S := by rw [run]; simp
theorem run_one {S : St} {l : List Int} (h : l.length = 1) : run S l = none := by rw [run]; rw [dif_neg (by omega), if_pos (by omega)]
theorem run_cut {S : St} {l : List Int} (h : 2 ≤ l.length) (h2 : l.length < 2 + ln l) : run S l = none := by rw [run]; rw [dif_neg (by omega), if_neg (by omega), if_pos h2]
theorem run_bad {S : St} {l : List Int} (h : 2 + ln l ≤ l.length) (h2 : tk S (at8 l 0) ((l.drop 2).take (ln l)) = none) : run S l = none := by
  rw [run]; rw [dif_neg (by omega), if_neg (by omega), if_neg (by omega), h2]
theorem run_step {S S' : St} {l : List Int} (h : 2 + ln l ≤ l.length) (h2 : tk S (at8 l 0) ((l.drop 2).take (ln l)) = some S') : run S l = run S' (l.drop (2 + ln l)) := by
  rw [run]; rw [dif_neg (by omega), if_neg (by omega), if_neg (by omega), h2]

def framed (l : List Int) : Bool := decide (4 ≤ l.length) && at8 l 0 == 42 && at8 l 1 == 2 && getV l 2 2 == (l.length : Int) - 4
/-- What is answered at the end. -/
def fin : Option St → List Tlv × Int
  | none => ([], 2)
  | some S => if 40 < S.ps.length then ([], 9) else (S.ps, 0)
def dec (l : List Int) : List Tlv × Int := if framed l = true then fin (run ⟨kn0, []⟩ (l.drop 4)) else ([], 2)

/-- One part, and others behind it. -/
theorem run_tlv (S : St) (k : Int) (b r : List Int) : run S (tlvB k b ++ r) = match tk S k b with
    | none => none
    | some S' => run S' r := by
  have e0 : at8 (tlvB k b ++ r) 0 = k := rfl
  have e1 : ln (tlvB k b ++ r) = b.length := by unfold ln at8 tlvB; simp
  have e2 : ((tlvB k b ++ r).drop 2).take (ln (tlvB k b ++ r)) = b := by rw [e1]; unfold tlvB; simp
  have e3 : (tlvB k b ++ r).drop (2 + ln (tlvB k b ++ r)) = r := by rw [e1]; unfold tlvB; simp [Nat.add_comm 2]
  have e4 : 2 + ln (tlvB k b ++ r) ≤ (tlvB k b ++ r).length := by rw [e1, List.length_append, tlvB_len]; omega
  cases h : tk S k b with
  | none => exact run_bad e4 (by rw [e0, e2]; exact h)
  | some S' => rw [run_step e4 (by rw [e0, e2]; exact h), e3]

theorem getV_eq2 {l : List Int} {p : Nat} {n : Int} (h : at8 l p = n / 256) (h1 : at8 l (p + 1) = n % 256) : getV l p 2 = n := by
  simp only [getV]; unfold at8 at h h1
  rw [Nat.add_zero, h, h1]; omega
theorem getV_b4 {l : List Int} {p : Nat} {n : Int} (h : at8 l p = n / 16777216) (h1 : at8 l (p + 1) = n / 65536 % 256) (h2 : at8 l (p + 2) = n / 256 % 256) (h3 : at8 l (p + 3) = n % 256) : getV l p 4 = n := by
  simp only [getV]; unfold at8 at h h1 h2 h3
  rw [Nat.add_zero, h, h1, h2, h3]; omega

/-- The low bits of an address that may be are noughts. -/
theorem may_low {a l : Int} (h0 : 0 ≤ a) (h1 : a < 4294967296) (hm : mayB a l = true) : (nd l = 0 → a = 0) ∧ (nd l ≤ 1 → a % 16777216 = 0) ∧ (nd l ≤ 2 → a % 65536 = 0) ∧ (nd l ≤ 3 → a % 256 = 0) := by
  simp only [mayB, decide_eq_true_eq] at hm
  obtain ⟨l0, l1, ha⟩ := hm
  unfold andM at ha
  have hz : a % ((2 ^ (32 - l.toNat) : Nat) : Int) = 0 := by omega
  have key : ∀ k : Nat, k ≤ 32 - l.toNat → a % ((2 ^ k : Nat) : Int) = 0 := fun k hk => by
    have hd : ((2 ^ k : Nat) : Int) ∣ ((2 ^ (32 - l.toNat) : Nat) : Int) := Int.natCast_dvd_natCast.2 (Nat.pow_dvd_pow 2 hk)
    exact Int.emod_eq_zero_of_dvd (Int.dvd_trans hd (Int.dvd_of_emod_eq_zero hz))
  unfold nd
  refine ⟨fun h => ?_, fun h => ?_, fun h => ?_, fun h => ?_⟩
  · have := key 32 (by omega); simp at this; omega
  · have := key 24 (by omega); simpa using this
  · have := key 16 (by omega); simpa using this
  · have := key 8 (by omega); simpa using this
/-- The address comes back from its first bytes. -/
theorem mix_back {last a l : Int} {om : Nat} (h0 : 0 ≤ a) (h1 : a < 4294967296) (hm : mayB a l = true) (ho : om ≤ nd l) (hc : om ≤ cm last a) : mix last om ((adB a l).drop om) = a := by
  have hl : l ≤ 32 := by simp only [mayB, decide_eq_true_eq] at hm; omega
  have hn := nd_le hl
  obtain ⟨z0, z1, z2, z3⟩ := may_low h0 h1 hm
  unfold mix mixL
  have e : (b4 last).take om ++ (adB a l).drop om = adB a l := by
    rw [cm_take hc]
    unfold adB
    have := List.take_append_drop om ((b4 a).take (nd l))
    rw [List.take_take, Nat.min_eq_left ho] at this
    exact this
  rw [e, List.length_drop, adB_len hl]
  have e2 : 4 - om - (nd l - om) = 4 - nd l := by omega
  rw [e2]
  unfold adB b4
  generalize nd l = n at *
  match n, hn with
  | 0, _ => simp [getV, List.replicate]; omega
  | 1, _ => simp [getV, List.replicate]; omega
  | 2, _ => simp [getV, List.replicate]; omega
  | 3, _ => simp [getV]; omega
  | 4, _ => simp [getV]; omega
end Go.Proofs.Ytakikkigkmcffaa
