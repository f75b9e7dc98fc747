/- Plain mathematics of sums of bytes: no program is named here. -/
import Derived.Test.YtnlgdkbpolckcaaMat1
import Derived.Laws.BytesArg
import Derived.WalkSpells
import Derived.Laws.BitsAll
import Derived.Laws.BitsAllLaws
namespace Go.Proofs.Ytnlgdkbpolckcaa
open Go.RowKit

/-- The sum of the first k bytes, those at even places times 256. -/
def hs (l : List Int) : Nat → Int
  | 0 => 0
  | k + 1 => hs l k + (if k % 2 = 0 then 256 * l[k]?.getD 0 else l[k]?.getD 0)

theorem hs_bd {l : List Int} (h : Bytes l) (k : Nat) : 0 ≤ hs l k ∧ hs l k ≤ 65280 * k := by
  induction k with
  | zero => simp [hs]
  | succ k ih =>
    have := h.at k
    simp only [hs]
    split <;> omega

theorem hs_even {l : List Int} (k : Nat) (h : k % 2 = 0) : hs l (k + 1) = hs l k + 256 * l[k]?.getD 0 := by simp [hs, h]
theorem hs_odd {l : List Int} (k : Nat) (h : k % 2 = 1) : hs l (k + 1) = hs l k + l[k]?.getD 0 := by simp [hs, h]

theorem hs_two {l : List Int} (k : Nat) (h : k % 2 = 0) : hs l (k + 2) = hs l k + 256 * l[k]?.getD 0 + l[k + 1]?.getD 0 := by
  rw [hs_odd (k + 1) (by omega), hs_even k h]
theorem hs_past {l : List Int} (k : Nat) (h : k = l.length ∨ k = l.length + 1) : hs l k = hs l l.length := by
  rcases h with rfl | rfl
  · rfl
  · have e : l[l.length]?.getD 0 = 0 := by simp
    simp only [hs, e]; split <;> omega

/-- What is left when all that goes over 16 bits has been added again. -/
def foldI (s : Int) : Int := if s = 0 then 0 else (s - 1) % 65535 + 1

theorem foldI_small (s : Int) (_h0 : 0 ≤ s) (h1 : s ≤ 65535) : foldI s = s := by unfold foldI; split <;> omega
theorem foldI_step (s : Int) (h : 65535 < s) : foldI (s % 65536 + s / 65536) = foldI s := by
  unfold foldI
  rw [if_neg (by omega), if_neg (by omega)]
  omega
theorem foldI_bd (s : Int) (_h0 : 0 ≤ s) : 0 ≤ foldI s ∧ foldI s ≤ 65535 := by unfold foldI; split <;> omega

def sumI (l : List Int) : Int := 65535 - foldI (hs l l.length)

theorem sumI_bd {l : List Int} (h : Bytes l) : 0 ≤ sumI l ∧ sumI l ≤ 65535 := by
  have := foldI_bd _ (hs_bd h l.length).1
  unfold sumI; omega

theorem and_ffff (s : Int) (h0 : 0 ≤ s) (h1 : s ≤ 9187343239835811840) : bits .and .u64 s 65535 = s % 65536 := by
  rw [u64_and s 65535 h0 (by omega) (by omega) (by omega)]
  have : s.toNat &&& 65535 = s.toNat % 65536 := Nat.and_two_pow_sub_one_eq_mod s.toNat 16
  show ((s.toNat &&& 65535 : Nat) : Int) = _
  rw [this]; omega
theorem fold_next (s : Int) (h0 : 0 ≤ s) (h1 : s ≤ 9187343239835811840) (h : 0 < s / 65536) :
    IntKind.u64.wrap (bits .and .u64 s 65535 + s / 65536) = s % 65536 + s / 65536 ∧ foldI (s % 65536 + s / 65536) = foldI s ∧ 0 ≤ s % 65536 + s / 65536 ∧ s % 65536 + s / 65536 < s := by
  rw [and_ffff s h0 h1, IntKind.wrap_u64]
  refine ⟨by omega, foldI_step s (by omega), by omega, by omega⟩
theorem xor_ffff (s : Int) (h0 : 0 ≤ s) (h1 : s ≤ 65535) : bits .xor .u16 IntKind.u16.max s = 65535 - s := by
  show bits .xor .u16 65535 s = _
  rw [u16_xor 65535 s (by omega) (by omega) h0 (by omega)]
  have e : (BitVec.allOnes 16 ^^^ BitVec.ofNat 16 s.toNat) = ~~~ (BitVec.ofNat 16 s.toNat) := BitVec.allOnes_xor
  have e2 := congrArg BitVec.toNat e
  rw [BitVec.toNat_xor, BitVec.toNat_not, BitVec.toNat_ofNat, BitVec.toNat_allOnes, Nat.mod_eq_of_lt (by omega)] at e2
  have e3 : ((65535 : Int).toNat ^^^ s.toNat) = 2 ^ 16 - 1 - s.toNat := e2
  rw [e3]; omega

theorem hs_left (l m : List Int) (k : Nat) (h : k ≤ l.length) : hs (l ++ m) k = hs l k := by
  induction k with
  | zero => rfl
  | succ k ih =>
    simp only [hs]
    rw [ih (by omega), List.getElem?_append_left (by omega)]

theorem hs_join (l m : List Int) (he : l.length % 2 = 0) (k : Nat) : hs (l ++ m) (l.length + k) = hs l l.length + hs m k := by
  induction k with
  | zero => simp [hs, hs_left l m l.length (Nat.le_refl _)]
  | succ k ih =>
    have e : (l ++ m)[l.length + k]? = m[k]? := by rw [List.getElem?_append_right (by omega)]; congr 1; omega
    rw [← Nat.add_assoc]
    simp only [hs, ih, e]
    have : (l.length + k) % 2 = k % 2 := by omega
    rw [this]
    omega

theorem foldI_mod (s : Int) (_h : 0 ≤ s) : ∃ q, s = foldI s + 65535 * q ∧ (foldI s = 0 ↔ s = 0) := by
  unfold foldI
  split
  · exact ⟨0, by omega, by omega⟩
  · exact ⟨(s - 1) / 65535, by omega, by omega⟩

theorem foldI_eq (s f q : Int) (h : 0 ≤ s) (h1 : s = f + 65535 * q) (h0 : 0 ≤ f) (h2 : f ≤ 65535) (h3 : f = 0 ↔ s = 0) : foldI s = f := by
  unfold foldI
  split
  · omega
  · omega

theorem hs_pair (x y : Int) : hs [x, y] 2 = 256 * x + y := by simp [hs]
theorem hs_four (x y z t : Int) : hs [x, y, z, t] 4 = 256 * x + y + 256 * z + t := by simp [hs]

/-- Bytes of an even number, with their checksum behind them, have none. -/
theorem sum_zero (l : List Int) (hB : Bytes l) (he : l.length % 2 = 0) : sumI (l ++ [sumI l / 256, sumI l % 256]) = 0 := by
  have h0 := (hs_bd hB l.length).1
  have hj := hs_join l [sumI l / 256, sumI l % 256] he 2
  rw [hs_pair] at hj
  have hlen : (l ++ [sumI l / 256, sumI l % 256]).length = l.length + 2 := by simp
  unfold sumI at *
  rw [hlen, hj]
  obtain ⟨q, hq, _⟩ := foldI_mod _ h0
  have hb := foldI_bd _ h0
  rw [foldI_eq _ 65535 q (by omega) (by omega) (by omega) (by omega) (by omega)]
  rfl

/-- Two parts, the first one even, have the checksum that their two sums tell. -/
theorem sum_parts (l m : List Int) (hl : Bytes l) (hm : Bytes m) (he : l.length % 2 = 0) :
    sumI (l ++ m) = sumI [(65535 - sumI l) / 256, (65535 - sumI l) % 256, (65535 - sumI m) / 256, (65535 - sumI m) % 256] := by
  have a0 := (hs_bd hl l.length).1
  have b0 := (hs_bd hm m.length).1
  have hj := hs_join l m he m.length
  have hlen : (l ++ m).length = l.length + m.length := by simp
  unfold sumI
  rw [hlen, hj, show ([(65535 - (65535 - foldI (hs l l.length))) / 256, (65535 - (65535 - foldI (hs l l.length))) % 256, (65535 - (65535 - foldI (hs m m.length))) / 256, (65535 - (65535 - foldI (hs m m.length))) % 256] : List Int).length = 4 from rfl, hs_four]
  generalize hs l l.length = a at a0
  generalize hs m m.length = b at b0
  obtain ⟨q, hq, hqz⟩ := foldI_mod a a0
  obtain ⟨r, hr, hrz⟩ := foldI_mod b b0
  have h1 := foldI_bd a a0
  have h2 := foldI_bd b b0
  generalize foldI a = x at *
  generalize foldI b = y at *
  have e : 256 * ((65535 - (65535 - x)) / 256) + (65535 - (65535 - x)) % 256 + 256 * ((65535 - (65535 - y)) / 256) + (65535 - (65535 - y)) % 256 = x + y := by omega
  rw [e]
  obtain ⟨p, hp, hpz⟩ := foldI_mod (x + y) (by omega)
  have h3 := foldI_bd (x + y) (by omega)
  rw [foldI_eq (a + b) (foldI (x + y)) (p + q + r) (by omega) (by omega) (by omega) (by omega) (by omega)]

/-- What a byte counts at its place. -/
def wt (j : Nat) (v : Int) : Int := if j % 2 = 0 then 256 * v else v
theorem wt_even (j : Nat) (v : Int) : wt (2 * j) v = 256 * v := by unfold wt; rw [if_pos (by omega)]
theorem wt_odd (j : Nat) (v : Int) : wt (2 * j + 1) v = v := by unfold wt; rw [if_neg (by omega)]
theorem wt_sub (j : Nat) (u v : Int) : wt j (u - v) = wt j u - wt j v := by unfold wt; split <;> omega
theorem hs_wt (l : List Int) (k : Nat) : hs l (k + 1) = hs l k + wt k (l[k]?.getD 0) := by simp only [hs, wt]

/-- A list with another byte at one place. -/
theorem hs_set (l : List Int) (j : Nat) (v : Int) (hj : j < l.length) (k : Nat) (hk : k ≤ l.length) :
    hs (l.set j v) k = hs l k + (if j < k then wt j (v - l[j]?.getD 0) else 0) := by
  induction k with
  | zero => simp [hs]
  | succ k ih =>
    rw [hs_wt, hs_wt, ih (by omega)]
    by_cases e : j = k
    · subst e
      rw [List.getElem?_set_self hj, wt_sub]
      simp only [Nat.lt_irrefl, if_false, Nat.lt_succ_self, if_true, Option.getD_some]
      omega
    · rw [List.getElem?_set_ne e]
      by_cases h : j < k
      · have h' : j < k + 1 := by omega
        simp only [h, h', if_true]; omega
      · have h' : ¬ j < k + 1 := by omega
        simp only [h, h', if_false]; omega

theorem hs_set_all (l : List Int) (j : Nat) (v : Int) (hj : j < l.length) (n : Nat) (hn : n = l.length) : hs (l.set j v) n = hs l n + wt j (v - l[j]?.getD 0) := by
  subst hn
  rw [hs_set l j v hj l.length (Nat.le_refl _), if_pos hj]

theorem Bytes.set {l : List Int} (h : Bytes l) (j : Nat) (v : Int) (hv : 0 ≤ v ∧ v ≤ 255) : Bytes (l.set j v) := fun n hn => by
  rcases List.mem_or_eq_of_mem_set hn with hn | rfl
  · exact h n hn
  · exact hv
/-- One byte that is another one makes another sum. -/
theorem sum_set {l : List Int} (hB : Bytes l) {j : Nat} (hj : j < l.length) {v : Int} (hv : 0 ≤ v ∧ v ≤ 255) (hne : v ≠ l[j]?.getD 0) : sumI (l.set j v) ≠ sumI l := by
  have h0 := (hs_bd hB l.length).1
  have h1 := (hs_bd (hB.set j v hv) l.length).1
  have hs' := hs_set_all l j v hj l.length rfl
  have hb := hB.at j
  obtain ⟨q, hq, -⟩ := foldI_mod _ h0
  obtain ⟨q', hq', -⟩ := foldI_mod _ h1
  unfold sumI
  rw [List.length_set]
  intro e
  have ef : foldI (hs (l.set j v) l.length) = foldI (hs l l.length) := by omega
  rw [ef] at hq'
  have hd : wt j (v - l[j]?.getD 0) = 65535 * (q' - q) := by omega
  unfold wt at hd
  split at hd <;> omega
end Go.Proofs.Ytnlgdkbpolckcaa
