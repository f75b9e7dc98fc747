/- When bytes are those of a packet, said as the program asks: the head, the noughts of each entry, and whether the packet may be. No program is named here. -/
import Derived.Test.YtnlgdkbpolckcaaMatF
namespace Go.Proofs.Ytnlgdkbpolckcaa
open Go.RowKit

/-- A packet that may be, but for how many entries it has. -/
def mayP (p : Pk) : Bool := codeOk p && p.es.all mayE
/-- The last four of twenty bytes are noughts; those of the first n entries. -/
def zq (c : List Int) : Bool := (c.drop 16).all (· == 0)
def zF : Nat → List Int → Bool
  | 0, _ => true
  | n + 1, L => zq (L.take 20) && zF n (L.drop 20)
theorem zF_snoc : ∀ (n : Nat) (L : List Int), zF (n + 1) L = (zF n L && zq ((L.drop (20 * n)).take 20))
  | 0, L => by simp [zF]
  | n + 1, L => by
    rw [zF, zF_snoc n (L.drop 20), zF, List.drop_drop, show 20 + 20 * n = 20 * (n + 1) by omega, Bool.and_assoc]
theorem zF_less {L : List Int} : ∀ {n j : Nat}, j ≤ n → zF j L = false → zF n L = false
  | 0, j, h, hz => by obtain rfl : j = 0 := by omega
                      exact hz
  | n + 1, j, h, hz => by
    by_cases e : j = n + 1
    · rw [← e]; exact hz
    · rw [zF_snoc, zF_less (n := n) (by omega) hz]; rfl
def hdOk (l : List Int) : Bool := decide (at8 l 4 ≤ 1) && ((l.drop 5).take 3).all (· == 0)
theorem zq_is {c : List Int} (hl : c.length = 20) (hB : Bytes c) : (getV c 16 4 == 0) = zq c := by
  unfold zq
  rw [getV_drop]
  have hd : (c.drop 16).length = 4 := by rw [List.length_drop]; omega
  have hb := hB.drop' 16
  generalize c.drop 16 = d at hd hb
  match d, hd with
  | [y0, y1, y2, y3], _ =>
    have h0 := hb y0 (by simp)
    have h1 := hb y1 (by simp)
    have h2 := hb y2 (by simp)
    have h3 := hb y3 (by simp)
    rw [Bool.eq_iff_iff]
    simp [getV]
    omega
theorem ents_parts : ∀ (n : Nat) (L : List Int), L.length = 20 * n → Bytes L → entsOk n L = (zF n L && (ents n L).all mayE)
  | 0, L, _, _ => rfl
  | n + 1, L, hl, hB => by
    rw [entsOk, ents_parts n (L.drop 20) (by rw [List.length_drop]; omega) (hB.drop' 20), entOk, zq_is (by rw [List.length_take]; omega) (hB.take' 20), zF, ents, List.all_cons]
    cases zq (L.take 20) <;> cases mayE (entOf (L.take 20)) <;> simp
theorem head_parts {l : List Int} (hl : 8 ≤ l.length) (hB : Bytes l) : headOk l = (decide (at8 l 1 ≤ 3) && hdOk l) := by
  match l, hl with
  | x0 :: x1 :: x2 :: x3 :: x4 :: x5 :: x6 :: x7 :: r, _ =>
    have h4 := hB x4 (by simp)
    unfold headOk hdOk at8
    rw [Bool.eq_iff_iff]
    simp
    omega
theorem form_parts {l : List Int} (hB : Bytes l) (hl : 16 ≤ l.length) (hmod : (l.length - 16) % 20 = 0) : formOk l = (hdOk l && zF ((l.length - 16) / 20) (l.drop 16) && mayP (pkOf l)) := by
  have h1 := hB.at 1
  have hd0 : decide (0 ≤ at8 l 1) = true := decide_eq_true (by unfold at8; omega)
  unfold formOk mayP codeOk pkOf
  simp only [ents_length]
  rw [head_parts (by omega) hB, ents_parts _ _ (by rw [List.length_drop]; omega) (hB.drop' 16), hd0]
  generalize hdOk l = a
  generalize zF ((l.length - 16) / 20) (l.drop 16) = b
  generalize (ents ((l.length - 16) / 20) (l.drop 16)).all mayE = c
  generalize decide (at8 l 1 ≤ 3) = d
  generalize (at8 l 1 == 0 && decide (0 < (l.length - 16) / 20)) = e
  cases a <;> cases b <;> cases c <;> cases d <;> cases e <;> rfl
end Go.Proofs.Ytnlgdkbpolckcaa
