/- A text is read back: digits and numbers. No program is named here. -/
import Derived.Test.YtapoajplmejjcaaDoorMatd
namespace Go.Proofs.YtapoajplmejjcaaDoor
open Go.Lib

def isD (c : UInt8) : Prop := 48 ≤ c.toNat ∧ c.toNat ≤ 57
/-- The number that digits are, behind a number. -/
def val (n : Nat) (l : List UInt8) : Nat := l.foldl (fun n c => 10 * n + (c.toNat - 48)) n
def noD : List UInt8 → Prop
  | [] => True
  | c :: _ => ¬ isD c

theorem val_ge (l : List UInt8) : ∀ n, n ≤ val n l := by
  induction l with
  | nil => intro n; exact Nat.le_refl _
  | cons c r ih => intro n; have := ih (10 * n + (c.toNat - 48)); unfold val at *; simp only [List.foldl_cons]; omega
theorem val_snoc (n : Nat) (l : List UInt8) (c : UInt8) : val n (l ++ [c]) = 10 * val n l + (c.toNat - 48) := by simp [val, List.foldl_append]
theorem val_cons (n : Nat) (c : UInt8) (l : List UInt8) : val n (c :: l) = val (10 * n + (c.toNat - 48)) l := by unfold val; rw [List.foldl_cons]

theorem scan_digits (most : Nat) (rest : List UInt8) (hr : noD rest) : ∀ (ds : List UInt8) (n : Nat), (∀ c ∈ ds, isD c) → val n ds ≤ most → scanD most (ds ++ rest) n = some (val n ds, ds.length)
  | [], n, _, _ => by
    cases rest with
    | nil => rfl
    | cons c r => rw [List.nil_append, scanD, if_neg (show ¬ (48 ≤ c.toNat ∧ c.toNat ≤ 57) from hr)]; rfl
  | c :: ds, n, hd, hv => by
    have hc := hd c (by simp)
    rw [val_cons] at hv
    have := val_ge ds (10 * n + (c.toNat - 48))
    rw [List.cons_append, scanD, if_pos (show 48 ≤ c.toNat ∧ c.toNat ≤ 57 from hc), if_neg (by omega), scan_digits most rest hr ds _ (fun c h => hd c (by simp [h])) hv]
    simp [val_cons]
theorem scan_parts (most : Nat) : ∀ (l : List UInt8) (n v k : Nat), scanD most l n = some (v, k) → k ≤ l.length ∧ (∀ c ∈ l.take k, isD c) ∧ v = val n (l.take k)
  | [], n, v, k, h => by simp only [scanD, Option.some.injEq, Prod.mk.injEq] at h; obtain ⟨rfl, rfl⟩ := h; simp [val]
  | c :: r, n, v, k, h => by
    rw [scanD] at h
    split at h
    · rename_i hc
      split at h
      · cases h
      · obtain ⟨⟨v', k'⟩, h', e⟩ := Option.map_eq_some_iff.1 h
        obtain ⟨i1, i2, i3⟩ := scan_parts most r _ _ _ h'
        simp only [Prod.mk.injEq] at e
        obtain ⟨rfl, rfl⟩ := e
        refine ⟨by simpa using i1, ?_, ?_⟩
        · intro d hd
          rw [List.take_succ_cons, List.mem_cons] at hd
          rcases hd with rfl | hd
          · exact hc
          · exact i2 d hd
        · rw [List.take_succ_cons, val_cons]; exact i3
    · simp only [Option.some.injEq, Prod.mk.injEq] at h
      obtain ⟨rfl, rfl⟩ := h
      simp [val]

theorem u8_dig (d : Nat) (h : d < 10) : (UInt8.ofNat (48 + d)).toNat = 48 + d := by
  rw [UInt8.toNat_ofNat']; omega
theorem dec_isD : ∀ (u : Nat) (c : UInt8), c ∈ decDigits u → isD c := by
  intro u
  induction u using Nat.strongRecOn with
  | _ u ih =>
    intro c hc
    rw [decDigits] at hc
    split at hc
    · rename_i h
      rw [List.mem_singleton] at hc
      subst hc
      unfold isD
      rw [u8_dig u h]
      omega
    · rw [List.mem_append, List.mem_singleton] at hc
      rcases hc with hc | rfl
      · exact ih (u / 10) (by omega) c hc
      · unfold isD; rw [u8_dig _ (by omega)]; omega
theorem dec_val (u : Nat) : val 0 (decDigits u) = u := by
  induction u using Nat.strongRecOn with
  | _ u ih =>
    rw [decDigits]
    split
    · rename_i h
      simp only [val, List.foldl_cons, List.foldl_nil]
      rw [u8_dig u h]
      omega
    · rw [val_snoc, ih (u / 10) (by omega), u8_dig _ (by omega)]
      omega
theorem dec_pos (u : Nat) : 0 < (decDigits u).length := by rw [decDigits]; split <;> simp
theorem dec_head (u : Nat) (h : 1 ≤ u) : (decDigits u).head? ≠ some 48 := by
  induction u using Nat.strongRecOn with
  | _ u ih =>
    rw [decDigits]
    split
    · rename_i hu
      simp only [List.head?_cons, ne_eq, Option.some.injEq]
      intro e
      have := congrArg UInt8.toNat e
      rw [u8_dig u hu] at this
      have h48 : (48 : UInt8).toNat = 48 := rfl
      omega
    · have h1 := ih (u / 10) (by omega) (by omega)
      have h2 := dec_pos (u / 10)
      cases hd : decDigits (u / 10) with
      | nil => rw [hd] at h2; simp at h2
      | cons c r => rw [hd] at h1; simpa using h1
theorem dec_len (u : Nat) (h : 1 < (decDigits u).length) : 10 ≤ u := by
  by_cases hu : u < 10
  · rw [decDigits_one hu] at h; simp at h
  · omega
/-- Digits without a nought ahead are those of their number. -/
theorem dec_only (ds : List UInt8) (hd : ∀ c ∈ ds, isD c) (hn : ds ≠ []) (hz : 1 < ds.length → ds.head? ≠ some 48) : decDigits (val 0 ds) = ds := by
  generalize hm : ds.length = m
  induction m generalizing ds with
  | zero => exact absurd (List.length_eq_zero_iff.1 hm) hn
  | succ m ih =>
    obtain ⟨xs, c, rfl⟩ : ∃ xs c, ds = xs ++ [c] := ⟨ds.dropLast, ds.getLast hn, (List.dropLast_concat_getLast hn).symm⟩
    have hc := hd c (by simp)
    unfold isD at hc
    have hu : UInt8.ofNat (48 + (c.toNat - 48)) = c := by
      apply UInt8.toNat_inj.1
      rw [u8_dig _ (by omega)]
      omega
    rw [val_snoc]
    cases xs with
    | nil =>
      simp only [val, List.foldl_nil, List.nil_append]
      rw [Nat.mul_zero, Nat.zero_add, decDigits_one (by omega), hu]
    | cons x r =>
      have hx := hd x (by simp)
      unfold isD at hx
      have hxz : x ≠ 48 := by
        have := hz (by simp)
        simpa using this
      have hx1 : 1 ≤ x.toNat - 48 := by
        have : x.toNat ≠ 48 := fun e => hxz (UInt8.toNat_inj.1 e)
        omega
      have hv : 1 ≤ val 0 (x :: r) := by
        rw [val_cons]
        have := val_ge r (10 * 0 + (x.toNat - 48))
        omega
      have e := ih (x :: r) (fun c h => hd c (by simp at h ⊢; rcases h with h | h <;> simp [h])) (by simp) (fun _ => by simpa using hxz) (by simp at hm ⊢; omega)
      rw [decDigits, dif_neg (by omega)]
      rw [show (10 * val 0 (x :: r) + (c.toNat - 48)) / 10 = val 0 (x :: r) by omega, show (10 * val 0 (x :: r) + (c.toNat - 48)) % 10 = c.toNat - 48 by omega, e, hu]

theorem num_read {l rest : List UInt8} {p most v : Nat} (h : l.drop p = decDigits v ++ rest) (hr : noD rest) (hv : v ≤ most) : numR l p most = some (v, p + (decDigits v).length) := by
  unfold numR
  rw [h, scan_digits most rest hr (decDigits v) 0 (dec_isD v) (by rw [dec_val]; exact hv), dec_val]
  simp only []
  rw [if_neg]
  intro hb
  have hp := dec_pos v
  rcases hb with hb | ⟨hb, h48⟩
  · omega
  · have := dec_len v hb
    apply dec_head v (by omega)
    cases hd : decDigits v with
    | nil => rw [hd] at hp; simp at hp
    | cons c r =>
      rw [hd, List.cons_append] at h
      have : l[p]? = some c := by rw [← List.head?_drop, h]; rfl
      rw [this] at h48
      simp at h48
      simp [h48]
theorem num_parts {l : List UInt8} {p most v e : Nat} (h : numR l p most = some (v, e)) : l.drop p = decDigits v ++ l.drop e := by
  unfold numR at h
  cases hc : scanD most (l.drop p) 0 with
  | none => rw [hc] at h; cases h
  | some q =>
    obtain ⟨x, k⟩ := q
    rw [hc] at h
    simp only [] at h
    split at h
    · cases h
    · rename_i hb
      simp only [Option.some.injEq, Prod.mk.injEq] at h
      obtain ⟨rfl, rfl⟩ := h
      obtain ⟨i1, i2, i3⟩ := scan_parts most _ _ _ _ hc
      have hne : (l.drop p).take k ≠ [] := by
        intro e
        have := congrArg List.length e
        rw [List.length_take] at this
        simp only [List.length_nil] at this
        omega
      have := dec_only ((l.drop p).take k) i2 hne (fun h1 h2 => hb (.inr ⟨by rw [List.length_take] at h1; omega, by
        have h3 : (l.drop p).head? = some 48 := by
          cases hd : l.drop p with
          | nil => rw [hd] at hne; simp at hne
          | cons c r => rw [hd] at h2; cases k with
            | zero => simp at h2
            | succ k => simpa using h2
        rw [List.head?_drop] at h3
        rw [h3]
        rfl⟩))
      rw [i3, this, ← List.drop_drop, List.take_append_drop]
end Go.Proofs.YtapoajplmejjcaaDoor
