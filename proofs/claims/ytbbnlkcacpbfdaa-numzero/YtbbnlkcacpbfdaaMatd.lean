/- Plain mathematics: sums of lists that are joined or changed; numbers that come back from their bytes. No program is named here. -/
import Derived.Test.YtbbnlkcacpbfdaaMatc
namespace Go.Proofs.Ytbbnlkcacpbfdaa
open Go.RowKit

theorem hs_left (l m : List Int) (k : Nat) (h : k ≤ l.length) : hs (l ++ m) k = hs l k := by
  induction k with
  | zero => rfl
  | succ k ih =>
    simp only [hs]
    rw [ih (by omega), List.getElem?_append_left (by omega)]

theorem hs_join (l m : List Int) (he : l.length % 2 = 0) (k : Nat) : hs (l ++ m) (l.length + k) = hs l l.length + hs m k := by
  induction k with
  | zero => simp [hs, hs_left l m l.length (Nat.le_refl _)]
  | succ k ih =>
    have e : (l ++ m)[l.length + k]? = m[k]? := by rw [List.getElem?_append_right (by omega)]; congr 1; omega
    rw [← Nat.add_assoc]
    simp only [hs, ih, e]
    have : (l.length + k) % 2 = k % 2 := by omega
    rw [this]
    omega

theorem foldI_mod (s : Int) (_h : 0 ≤ s) : ∃ q, s = foldI s + 65535 * q ∧ (foldI s = 0 ↔ s = 0) := by
  unfold foldI
  split
  · exact ⟨0, by omega, by omega⟩
  · exact ⟨(s - 1) / 65535, by omega, by omega⟩

theorem foldI_eq (s f q : Int) (h : 0 ≤ s) (h1 : s = f + 65535 * q) (h0 : 0 ≤ f) (h2 : f ≤ 65535) (h3 : f = 0 ↔ s = 0) : foldI s = f := by
  unfold foldI
  split
  · omega
  · omega

theorem hs_pair (x y : Int) : hs [x, y] 2 = 256 * x + y := by simp [hs]
theorem hs_four (x y z t : Int) : hs [x, y, z, t] 4 = 256 * x + y + 256 * z + t := by simp [hs]

/-- Bytes of an even number, with their checksum behind them, have none. -/
theorem sum_zero (l : List Int) (hB : Bytes l) (he : l.length % 2 = 0) : sumI (l ++ [sumI l / 256, sumI l % 256]) = 0 := by
  have h0 := (hs_bd hB l.length).1
  have hj := hs_join l [sumI l / 256, sumI l % 256] he 2
  rw [hs_pair] at hj
  have hlen : (l ++ [sumI l / 256, sumI l % 256]).length = l.length + 2 := by simp
  unfold sumI at *
  rw [hlen, hj]
  obtain ⟨q, hq, _⟩ := foldI_mod _ h0
  have hb := foldI_bd _ h0
  rw [foldI_eq _ 65535 q (by omega) (by omega) (by omega) (by omega) (by omega)]
  rfl

/-- Two parts, the first one even, have the checksum that their two sums tell. -/
theorem sum_parts (l m : List Int) (hl : Bytes l) (hm : Bytes m) (he : l.length % 2 = 0) :
    sumI (l ++ m) = sumI [(65535 - sumI l) / 256, (65535 - sumI l) % 256, (65535 - sumI m) / 256, (65535 - sumI m) % 256] := by
  have a0 := (hs_bd hl l.length).1
  have b0 := (hs_bd hm m.length).1
  have hj := hs_join l m he m.length
  have hlen : (l ++ m).length = l.length + m.length := by simp
  unfold sumI
  rw [hlen, hj, show ([(65535 - (65535 - foldI (hs l l.length))) / 256, (65535 - (65535 - foldI (hs l l.length))) % 256, (65535 - (65535 - foldI (hs m m.length))) / 256, (65535 - (65535 - foldI (hs m m.length))) % 256] : List Int).length = 4 from rfl, hs_four]
  generalize hs l l.length = a at a0
  generalize hs m m.length = b at b0
  obtain ⟨q, hq, hqz⟩ := foldI_mod a a0
  obtain ⟨r, hr, hrz⟩ := foldI_mod b b0
  have h1 := foldI_bd a a0
  have h2 := foldI_bd b b0
  generalize foldI a = x at *
  generalize foldI b = y at *
  have e : 256 * ((65535 - (65535 - x)) / 256) + (65535 - (65535 - x)) % 256 + 256 * ((65535 - (65535 - y)) / 256) + (65535 - (65535 - y)) % 256 = x + y := by omega
  rw [e]
  obtain ⟨p, hp, hpz⟩ := foldI_mod (x + y) (by omega)
  have h3 := foldI_bd (x + y) (by omega)
  rw [foldI_eq (a + b) (foldI (x + y)) (p + q + r) (by omega) (by omega) (by omega) (by omega) (by omega)]

/-- What a byte counts at its place. -/
def wt (j : Nat) (v : Int) : Int := if j % 2 = 0 then 256 * v else v
theorem wt_even (j : Nat) (v : Int) : wt (2 * j) v = 256 * v := by unfold wt; rw [if_pos (by omega)]
theorem wt_odd (j : Nat) (v : Int) : wt (2 * j + 1) v = v := by unfold wt; rw [if_neg (by omega)]
theorem wt_sub (j : Nat) (u v : Int) : wt j (u - v) = wt j u - wt j v := by unfold wt; split <;> omega
theorem hs_wt (l : List Int) (k : Nat) : hs l (k + 1) = hs l k + wt k (l[k]?.getD 0) := by simp only [hs, wt]

/-- A list with another byte at one place. -/
theorem hs_set (l : List Int) (j : Nat) (v : Int) (hj : j < l.length) (k : Nat) (hk : k ≤ l.length) :
    hs (l.set j v) k = hs l k + (if j < k then wt j (v - l[j]?.getD 0) else 0) := by
  induction k with
  | zero => simp [hs]
  | succ k ih =>
    rw [hs_wt, hs_wt, ih (by omega)]
    by_cases e : j = k
    · subst e
      rw [List.getElem?_set_self hj, wt_sub]
      simp only [Nat.lt_irrefl, if_false, Nat.lt_succ_self, if_true, Option.getD_some]
      omega
    · rw [List.getElem?_set_ne e]
      by_cases h : j < k
      · have h' : j < k + 1 := by omega
        simp only [h, h', if_true]; omega
      · have h' : ¬ j < k + 1 := by omega
        simp only [h, h', if_false]; omega

theorem hs_set_all (l : List Int) (j : Nat) (v : Int) (hj : j < l.length) (n : Nat) (hn : n = l.length) : hs (l.set j v) n = hs l n + wt j (v - l[j]?.getD 0) := by
  subst hn
  rw [hs_set l j v hj l.length (Nat.le_refl _), if_pos hj]

def swap2 (l : List Int) (i k : Nat) : List Int :=
  (((l.set (2 * i) (l[2 * k]?.getD 0)).set (2 * i + 1) (l[2 * k + 1]?.getD 0)).set (2 * k) (l[2 * i]?.getD 0)).set (2 * k + 1) (l[2 * i + 1]?.getD 0)

theorem swap2_len (l : List Int) (i k : Nat) : (swap2 l i k).length = l.length := by simp [swap2]

theorem Bytes.set {l : List Int} (h : Bytes l) (j : Nat) (v : Int) (hv : 0 ≤ v ∧ v ≤ 255) : Bytes (l.set j v) := fun n hn => by
  rcases List.mem_or_eq_of_mem_set hn with hn | rfl
  · exact h n hn
  · exact hv

theorem Bytes.swap2 {l : List Int} (h : Bytes l) (i k : Nat) : Bytes (swap2 l i k) :=
  (((h.set _ _ (h.at _)).set _ _ (h.at _)).set _ _ (h.at _)).set _ _ (h.at _)

theorem sum_swap2 (l : List Int) (i k : Nat) (hi : 2 * i + 1 < l.length) (hk : 2 * k + 1 < l.length) : sumI (swap2 l i k) = sumI l := by
  unfold sumI
  rw [swap2_len]
  unfold swap2
  have e : hs ((((l.set (2 * i) (l[2 * k]?.getD 0)).set (2 * i + 1) (l[2 * k + 1]?.getD 0)).set (2 * k) (l[2 * i]?.getD 0)).set (2 * k + 1) (l[2 * i + 1]?.getD 0)) l.length = hs l l.length := by
    rw [hs_set_all _ _ _ (by simp; omega) _ (by simp), hs_set_all _ _ _ (by simp; omega) _ (by simp), hs_set_all _ _ _ (by simp; omega) _ (by simp), hs_set_all _ _ _ (by omega) _ rfl, wt_even, wt_odd, wt_even, wt_odd]
    have f1 : (l.set (2 * i) (l[2 * k]?.getD 0))[2 * i + 1]?.getD 0 = l[2 * i + 1]?.getD 0 := by rw [List.getElem?_set_ne (by omega)]
    rw [f1]
    by_cases h : i = k
    · subst h
      rw [List.getElem?_set_ne (by omega), List.getElem?_set_self (by omega), List.getElem?_set_ne (by omega), List.getElem?_set_self (by simp; omega)]
      simp only [Option.getD_some]
      omega
    · rw [List.getElem?_set_ne (by omega), List.getElem?_set_ne (by omega), List.getElem?_set_ne (by omega), List.getElem?_set_ne (by omega), List.getElem?_set_ne (by omega)]
      omega
  rw [e]

/-- Numbers come back from their bytes. -/
theorem getV_put4 (l m : List Int) (n : Int) : getV (l ++ [n / 16777216, n / 65536 % 256, n / 256 % 256, n % 256] ++ m) l.length 4 = n := by
  simp only [getV, List.append_assoc]
  simp
  omega
theorem getV_put2 (l : List Int) (n : Int) : getV (l ++ [n / 256, n % 256]) l.length 2 = n := by
  simp only [getV]
  simp
  omega

theorem row8_at (w : World) (n : Nat) (hn : n = w.heap.size) (l : List Int) (t : TypeId) (k : Nat) (hk : k = l.length) (hB : Bytes l) (hm : l.length ≤ 140737488351232) :
    Row8 (w.alloc (.cells (l.map (Value.int .u8)).toArray t)) (some ⟨n, 0, none⟩) k l := by
  subst hn hk
  exact row8_new w l t hB hm
theorem own8_at (w : World) (n : Nat) (hn : n = w.heap.size) (base : Nat) (e : TypeId) (l : List Int) (hb : base ≤ n) (hl : l.length ≤ 100000) :
    Own8 (w.alloc (.cells (l.map (Value.int .u8)).toArray e)) base e (.slice (some ⟨n, 0, none⟩) l.length l.length) l.length l := by
  subst hn
  exact own8_new w base e l hb hl
theorem Own8.alloc {w : World} {base : Nat} {e : TypeId} {v : Value} {n : Nat} {l : List Int} (h : Own8 w base e v n l) (o : Obj) : Own8 (w.alloc o) base e v n l := World.ownsRow.alloc h o
end Go.Proofs.Ytbbnlkcacpbfdaa
