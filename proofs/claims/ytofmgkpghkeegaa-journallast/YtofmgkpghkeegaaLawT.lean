/- The law JournalLast over what is asked of the program's journal. -/
import Derived.Test.YtofmgkpghkeegaaLawA
namespace Go.Proofs.Ytofmgkpghkeegaa
open Go.RowKit

theorem last_other {L : List Fc} {f : Fc} {q z : Int} (h : ¬ (f.k = q ∧ f.y = z)) : numF q z (L ++ [f]) = numF q z L ∧ isF q z (L ++ [f]) = isF q z L := by
  unfold numF isF
  rw [lastF_snoc, if_neg h]
  exact ⟨rfl, rfl⟩
theorem last_this {L : List Fc} {f : Fc} : numF f.k f.y (L ++ [f]) = f.n ∧ isF f.k f.y (L ++ [f]) = true := by
  unfold numF isF
  rw [lastF_snoc, if_pos ⟨rfl, rfl⟩]
  exact ⟨rfl, rfl⟩
theorem last_never {L : List Fc} {k y : Int} (h : ∀ p ∈ L, MayF p) (hk : ¬ (0 ≤ k ∧ k ≤ 255)) : isF k y L = false := by
  unfold isF
  cases hl : lastF k y L with
  | none => rfl
  | some n => exact absurd (h _ (lastF_mem hl)) hk
section
variable {JM : World → (Nat → Prop) → Addr → Int → List Fc → Nat → Nat → Prop}
set_option maxRecDepth 100000 in
set_option maxHeartbeats 4000000 in
theorem law_last (C : JouC JM) (ad : Option Addr) (n cap : Nat) (l : List Fc) (k y m q z : Int) (w : World) (hr : RowF w ad n l) (hf : Fc.Ok ⟨k, y, m⟩) (hq : I64 q) (hz : 0 ≤ z ∧ z ≤ 4294967295) :
    Calls Try.prog 6 #[.slice ad n cap, .agg #[.int .i64 k, .int .u32 y, .int .u32 m], .int .i64 q, .int .u32 z] w fun e w' => e = .returned (.bool true) ∧ Below w.heap.size w w' := by
  have HC : Hid (JouC JM) := C
  have HQ : Hid (I64 q) := hq
  have HZ : Hid (0 ≤ z ∧ z ≤ 4294967295) := hz
  have HF : Hid (Fc.Ok ⟨k, y, m⟩) := hf
  obtain ⟨w1, hw1⟩ : ∃ w1, w.alloc (objF k y m) = w1 := ⟨_, rfl⟩
  have HR : Hid (RowF w1 ad n l) := by rw [← hw1]; exact hr.later (below1 _ _)
  have HW : Hid (Below w.heap.size w w1) := by rw [← hw1]; exact below1 _ _
  have HBx : Hid (F3 w1 w.heap.size 0 ⟨k, y, m⟩) := by rw [← hw1]; exact F3.new w k y m
  have HBZ : Hid (∀ W, Below w1.heap.size w1 W → W.cell? ⟨w.heap.size, 0, none⟩ = some (.int .i64 k) ∧ W.cell? ⟨w.heap.size, 1, none⟩ = some (.int .u32 y) ∧ W.cell? ⟨w.heap.size, 2, none⟩ = some (.int .u32 m)) := fun W hW => (HBx.out.later hW).z
  have HEnd : Hid (∀ W, Below w1.heap.size w1 W → Below w.heap.size w W) := fun W hW => HW.out.trans (hW.mono HW.out.size)
  clear C hr hf hq hz
  by_cases hn : n ≤ 150
  case neg =>
    have hn' : (150 : Int) < (n : Int) := by omega
    go_enter Try.func6, Try.ntmps6
    go_wp2_with (first
      | (go_at_call 9; refine (awake_any HC.out _).mono ?_; rintro e W1 ⟨rfl, hb1⟩)
      | (go_at_call 10; refine (HC.out.new _ 1000 (by decide)).mono ?_; rintro e W2 ⟨p, B, rfl, T2, hB2, hb2⟩; have he : ∀ W : World, (binOp .eql 24 (.pointer (some p)) (.pointer none)).run Try.prog W = .ok (.bool false) W := run_nilP _; have he' : ∀ W : World, (binOp .neq 24 (.pointer (some p)) (.pointer none)).run Try.prog W = .ok (.bool true) W := run_nilN _))
    go_ret
    exact ⟨rfl, HEnd.out _ (stp hb1 hb2)⟩
  have hn' : ¬ (150 : Int) < (n : Int) := by omega
  by_cases hsame : q = k ∧ z = y
  · obtain ⟨rfl, rfl⟩ := hsame
    go_enter Try.func6, Try.ntmps6
    go_wp2_with (first
      | (go_at_call 9; refine (awake_any HC.out _).mono ?_; rintro e W1 ⟨rfl, hb1⟩)
      | (go_at_call 10; refine (HC.out.new _ 1000 (by decide)).mono ?_; rintro e W2 ⟨p, B, rfl, T2, hB2, hb2⟩; have he : ∀ W : World, (binOp .eql 24 (.pointer (some p)) (.pointer none)).run Try.prog W = .ok (.bool false) W := run_nilP _; have he' : ∀ W : World, (binOp .neq 24 (.pointer (some p)) (.pointer none)).run Try.prog W = .ok (.bool true) W := run_nilN _; obtain ⟨z0, z1, z2⟩ := HBZ.out W2 (stp hb1 hb2)))
    go_ret
    exact ⟨rfl, HEnd.out _ (stp hb1 hb2)⟩
  have HD : Hid (¬ (k = q ∧ y = z)) := fun h => hsame ⟨h.1.symm, h.2.symm⟩
  have hcase : (q == k) = false ∨ ((q == k) = true ∧ (z == y) = false) := by
    by_cases h : q = k
    · exact .inr ⟨by simpa using h, by simpa using fun h2 => hsame ⟨h, h2⟩⟩
    · exact .inl (by simpa using h)
  clear hsame
  rcases hcase with hc1 | ⟨hc1, hc2⟩
  all_goals
    go_enter Try.func6, Try.ntmps6
    go_wp2_with (first
      | (go_at_call 9; refine (awake_any HC.out _).mono ?_; rintro e W1 ⟨rfl, hb1⟩)
      | (go_at_call 10; refine (HC.out.new _ 1000 (by decide)).mono ?_; rintro e W2 ⟨p, B, rfl, T2, hB2, hb2⟩; have HO0 : Hid (OneJ JM w1 p 1000 [] 0 0 B W2) := OneJ.new T2 hB2 hb1 hb2; have he : ∀ W : World, (binOp .eql 24 (.pointer (some p)) (.pointer none)).run Try.prog W = .ok (.bool false) W := run_nilP _; obtain ⟨z0, z1, z2⟩ := HBZ.out W2 (stp hb1 hb2); clear T2 hB2 hb1 hb2))
    clear he hw1 z0 z1 z2
    go_loopw [11] (fun i_ W => ∃ (j : Nat) (L : List Fc) (B : Nat → Prop), j ≤ n ∧ i_ = .int .i64 j ∧ Hid (OneJ JM w1 p 1000 L 0 j B W)) (fun i_ _ => n - (intOf i_).toNat)
    case atStart => exact ⟨0, [], B, Nat.zero_le _, rfl, HO0⟩
    case round =>
      clear HO0
      obtain ⟨j, L, B, hj, rfl, HO⟩ := hrel
      by_cases hlt : j < n
      · have hlt' : (j : Int) < (n : Int) := by omega
        obtain ⟨⟨pk, py, pn⟩, b, off, -, hok, rfl, qq⟩ := (HR.out.later HO.out.b).at hlt
        obtain ⟨q0, q1, q2⟩ := qq
        simp only at q0 q1 q2
        have HK : Hid (Fc.Ok ⟨pk, py, pn⟩) := hok
        clear hok
        go_wp2_with (go_at_call 11; refine (HC.out.put pk py pn HO.out.t (by omega) HK.out).mono ?_; intro e W3 hd; obtain ⟨rfl, B3, hO3⟩ := HO.out.step hd; have HO3 : Hid (OneJ JM w1 p 1000 (putJ 1000 L ⟨pk, py, pn⟩) 0 (j + 1) B3 W3) := hO3; clear hd hO3)
        go_roundw
        case rel => exact ⟨j + 1, _, B3, by omega, by go_num, HO3⟩
        case measure => simp [intOf]; omega
      · have hlt' : ¬ (j : Int) < (n : Int) := by omega
        obtain ⟨-, hgm, -, hgM, -⟩ := HC.out.good HO.out.t
        obtain ⟨u, hu⟩ : ∃ u, numF q z L = u := ⟨_, rfl⟩
        obtain ⟨v, hv⟩ : ∃ v, isF q z L = v := ⟨_, rfl⟩
        have HU : Hid (numF q z L = u ∧ isF q z L = v) := ⟨hu, hv⟩
        by_cases hmay : 0 ≤ k ∧ k ≤ 255
        · have HPX : Hid (putX 1000 L ⟨k, y, m⟩ = 0 ∧ putJ 1000 L ⟨k, y, m⟩ = L ++ [⟨k, y, m⟩]) := by
            have hx : putX 1000 L ⟨k, y, m⟩ = 0 := putX_ok (f := ⟨k, y, m⟩) hmay (by omega)
            exact ⟨hx, putJ_ok hx⟩
          have HU2 : Hid (numF q z (L ++ [⟨k, y, m⟩]) = u ∧ isF q z (L ++ [⟨k, y, m⟩]) = v) := by
            obtain ⟨e1, e2⟩ := last_other (L := L) (f := ⟨k, y, m⟩) (q := q) (z := z) HD.out
            exact ⟨e1.trans hu, e2.trans hv⟩
          have HT : Hid (numF k y (L ++ [⟨k, y, m⟩]) = m ∧ isF k y (L ++ [⟨k, y, m⟩]) = true) := last_this (L := L) (f := ⟨k, y, m⟩)
          clear hu hv hgm hgM hmay
          obtain ⟨zz0, zz1, zz2⟩ := HBZ.out wr HO.out.b
          go_wp2_with (first
            | (go_at_call 19; refine (HC.out.get q z HO.out.t (by omega) HQ.out HZ.out).mono ?_; rw [HU.out.1, HU.out.2]; rintro e W4 ⟨rfl, hb⟩; have HO4 : Hid (OneJ JM w1 p 1000 L 0 j B W4) := HO.out.later HC.out hb; obtain ⟨z0, z1, z2⟩ := HBZ.out W4 HO4.out.b; clear hb HO zz0 zz1 zz2)
            | (go_at_call 11; refine (HC.out.put k y m HO4.out.t (by omega) HF.out).mono ?_; rw [HPX.out.1, HPX.out.2]; intro e W5 hd; obtain ⟨rfl, B5, hO5⟩ := HO4.out.step hd; have HO5 : Hid (OneJ JM w1 p 1000 (L ++ [⟨k, y, m⟩]) 0 (j + 1) B5 W5) := hO5; clear hO5 hd HO4 z0 z1 z2)
            | (go_at_call 19; refine (HC.out.get q z HO5.out.t (by omega) HQ.out HZ.out).mono ?_; rw [HU2.out.1, HU2.out.2]; rintro e W6 ⟨rfl, hb⟩; have HO6 : Hid (OneJ JM w1 p 1000 (L ++ [⟨k, y, m⟩]) 0 (j + 1) B5 W6) := HO5.out.later HC.out hb; obtain ⟨z0, z1, z2⟩ := HBZ.out W6 HO6.out.b; clear hb HO5)
            | (go_at_call 19; refine (HC.out.get k y HO6.out.t (by omega) ⟨HF.out.k0, HF.out.k1⟩ ⟨HF.out.y0, HF.out.y1⟩).mono ?_; rw [HT.out.1, HT.out.2]; rintro e W7 ⟨rfl, hb⟩; have HO7 : Hid (OneJ JM w1 p 1000 (L ++ [⟨k, y, m⟩]) 0 (j + 1) B5 W7) := HO6.out.later HC.out hb; obtain ⟨z0, z1, z2⟩ := HBZ.out W7 HO7.out.b; clear hb HO6))
          go_ret
          exact ⟨by simp, HEnd.out _ HO7.out.b⟩
        · have HPX : Hid (putX 1000 L ⟨k, y, m⟩ = 1 ∧ putJ 1000 L ⟨k, y, m⟩ = L) := by
            have hx : putX 1000 L ⟨k, y, m⟩ = 1 := putX_arg (f := ⟨k, y, m⟩) (by simp only; omega)
            exact ⟨hx, putJ_no (by rw [hx]; decide)⟩
          obtain ⟨t, ht⟩ : ∃ t, numF k y L = t := ⟨_, rfl⟩
          have HT : Hid (numF k y L = t ∧ isF k y L = false) := ⟨ht, last_never hgm hmay⟩
          clear hu hv hgm hgM hmay ht
          obtain ⟨zz0, zz1, zz2⟩ := HBZ.out wr HO.out.b
          go_wp2_with (first
            | (go_at_call 19; refine (HC.out.get q z HO.out.t (by omega) HQ.out HZ.out).mono ?_; rw [HU.out.1, HU.out.2]; rintro e W4 ⟨rfl, hb⟩; have HO4 : Hid (OneJ JM w1 p 1000 L 0 j B W4) := HO.out.later HC.out hb; obtain ⟨z0, z1, z2⟩ := HBZ.out W4 HO4.out.b; clear hb HO zz0 zz1 zz2)
            | (go_at_call 11; refine (HC.out.put k y m HO4.out.t (by omega) HF.out).mono ?_; rw [HPX.out.1, HPX.out.2]; intro e W5 hd; obtain ⟨rfl, B5, hO5⟩ := HO4.out.step hd; have HO5 : Hid (OneJ JM w1 p 1000 L 0 (j + 1) B5 W5) := hO5; clear hO5 hd HO4 z0 z1 z2)
            | (go_at_call 19; refine (HC.out.get q z HO5.out.t (by omega) HQ.out HZ.out).mono ?_; rw [HU.out.1, HU.out.2]; rintro e W6 ⟨rfl, hb⟩; have HO6 : Hid (OneJ JM w1 p 1000 L 0 (j + 1) B5 W6) := HO5.out.later HC.out hb; obtain ⟨z0, z1, z2⟩ := HBZ.out W6 HO6.out.b; clear hb HO5)
            | (go_at_call 19; refine (HC.out.get k y HO6.out.t (by omega) ⟨HF.out.k0, HF.out.k1⟩ ⟨HF.out.y0, HF.out.y1⟩).mono ?_; rw [HT.out.1, HT.out.2]; rintro e W7 ⟨rfl, hb⟩; have HO7 : Hid (OneJ JM w1 p 1000 L 0 (j + 1) B5 W7) := HO6.out.later HC.out hb; obtain ⟨z0, z1, z2⟩ := HBZ.out W7 HO7.out.b; clear hb HO6))
          go_ret
          exact ⟨by simp, HEnd.out _ HO7.out.b⟩
end
end Go.Proofs.Ytofmgkpghkeegaa
