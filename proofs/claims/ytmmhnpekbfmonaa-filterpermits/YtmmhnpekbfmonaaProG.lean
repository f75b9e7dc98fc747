/- The program's filter: Permits (a labelled break). -/
import Derived.Test.YtmmhnpekbfmonaaProF
import Derived.Test.YtmmhnpekbfmonaaRedT
namespace Go.Proofs.Ytmmhnpekbfmonaa
open Go.RowKit

theorem wit_and_eq {h t : Nat} (hh : h < 65536) (ht : t < 65536) : wit h t = (t &&& h == h) := by
  rw [Bool.eq_iff_iff, wit_iff hh ht, beq_iff_eq]
  constructor
  · intro H
    refine Nat.eq_of_testBit_eq fun i => ?_
    rw [Nat.testBit_and]
    cases hb : h.testBit i
    · simp
    · rw [H i hb]; rfl
  · intro H i hi
    have : (t &&& h).testBit i = h.testBit i := by rw [H]
    rw [Nat.testBit_and, hi] at this
    simpa using this
set_option maxHeartbeats 4000000 in
theorem permits_filter (ad : Option Addr) (n cap : Nat) (L : List Ru) (qa ql : Int) (t : Nat) (w : World) (hr : RowU w ad n L) (hqa : U32 qa) (hql : I64 ql) (ht : t < 65536) (hL : n ≤ 1000) {b : Bool} {i : Int} (hb : perB qa ql t L = b) (hi : perI qa ql t L = i) :
    Calls Try.prog 9 #[.slice ad n cap, valX qa ql, .int .u16 (t : Int)] w fun e w' => e = .returned (.tuple #[.bool b, .int .i64 i]) ∧ Below w.heap.size w w' := by
  have HRow : Hid (RowU (w.alloc (objX qa ql)) ad n L) := hr.later (below1 _ _)
  have HN : Hid (L.length = n) := hr.1
  have HV : Hid (perB qa ql t L = b ∧ perI qa ql t L = i) := ⟨hb, hi⟩
  have HQ : Hid (U32 qa ∧ I64 ql) := ⟨hqa, hql⟩
  clear hr hb hi hqa hql
  go_enter Try.func9, Try.ntmps9
  go_wp2; go_step3; go_wp2; go_step3; go_wp2
  go_loopw [8, 9, 14] (fun p_ a_ i_ W => ∃ (j : Nat), j ≤ n ∧ p_ = .bool false ∧ a_ = .int .i64 (-1) ∧ i_ = .int .i64 j ∧ Hid (∀ i, i < j → ∀ q, L[i]? = some q → fitR q qa ql t = false) ∧ Below (w.heap.size + 1) (w.alloc (objX qa ql)) W) (fun _ _ i_ _ => n - (intOf i_).toNat)
  case atStart => exact ⟨0, Nat.zero_le _, rfl, rfl, rfl, fun i hi => by omega, Below.refl _ _⟩
  case round =>
    obtain ⟨j, hj, rfl, rfl, rfl, HJ, hB⟩ := hrel
    have HB : Hid (Below w.heap.size w wr) := outX hB
    have hB' : Below (w.alloc (objX qa ql)).heap.size (w.alloc (objX qa ql)) wr := by simpa using hB
    obtain ⟨x0, x1⟩ := newX w qa ql hB'
    by_cases hlt : j < n
    · have hlt' : (j : Int) < (n : Int) := by omega
      obtain ⟨⟨m, a, l, g, e, h, nn⟩, bk, off, he, hok, rfl, q7⟩ := (HRow.out.later hB').at hlt
      have HE : Hid (L[j]? = some ⟨m, a, l, g, e, h, nn⟩) := he
      have HO : Hid (Ru.Ok ⟨m, a, l, g, e, h, nn⟩) := hok
      obtain ⟨h', rfl, hh'⟩ := tag_nat hok.h0 hok.h1
      obtain ⟨n', rfl, hn'⟩ := tag_nat hok.n0 hok.n1
      clear he hok
      obtain ⟨c0, c1, c2, c3, c4, c5, c6⟩ := q7
      simp only at c0 c1 c2 c3 c4 c5 c6
      have X0 := cell_later (below1 wr (objU m a l g e h' n')) x0
      have X1 := cell_later (below1 wr (objU m a l g e h' n')) x1
      have hsz : w.heap.size < wr.heap.size := by have := hB'.size; simp at this; omega
      have HJ' : fitR ⟨m, a, l, g, e, (h' : Int), (n' : Int)⟩ qa ql t = false → Hid (∀ i, i < j + 1 → ∀ q, L[i]? = some q → fitR q qa ql t = false) := fun HF i hi q hq => by
        by_cases hij : i = j
        · subst hij; rw [HE.out] at hq; simp only [Option.some.injEq] at hq; subst hq; exact HF
        · exact HJ.out i (by omega) q hq
      have HY : fitR ⟨m, a, l, g, e, (h' : Int), (n' : Int)⟩ qa ql t = true → Hid ((j : Int) = i ∧ m = b) := fun HF => by
        have h1 := fst_first HJ.out HE.out HF
        have h2 := per_some h1 HE.out
        exact ⟨h2.1.symm.trans HV.out.2, h2.2.symm.trans HV.out.1⟩
      obtain ⟨c, hc⟩ : ∃ c, coversB a l qa ql = c := ⟨_, rfl⟩
      have HC : Hid (coversB a l qa ql = c) := hc
      obtain ⟨y, hy⟩ : ∃ y, wit h' t = y := ⟨_, rfl⟩
      have hz := u16_and_nat t n' ht hn'
      obtain ⟨z, hz'⟩ : ∃ z, t &&& n' = z := ⟨_, rfl⟩
      have HFit : Hid (fitR ⟨m, a, l, g, e, (h' : Int), (n' : Int)⟩ qa ql t = (c && decide (g ≤ ql ∧ ql ≤ e) && (y && (z == 0)))) := by
        unfold Hid fitR
        rw [← hc, ← hy, ← hz', wit_and_eq hh' ht, ← fitT_iff hh' hn']
        rfl
      rw [hz'] at hz
      have HHJ : Hid (fitR ⟨m, a, l, g, e, (h' : Int), (n' : Int)⟩ qa ql t = false → ∀ i, i < j + 1 → ∀ q, L[i]? = some q → fitR q qa ql t = false) := HJ'
      have HHY : Hid (fitR ⟨m, a, l, g, e, (h' : Int), (n' : Int)⟩ qa ql t = true → (j : Int) = i ∧ m = b) := HY
      clear hc hz' HJ' HY
      by_cases hall : c = true ∧ g ≤ ql ∧ ql ≤ e ∧ y = true ∧ z = 0
      · obtain ⟨rfl, k1, k2, rfl, rfl⟩ := hall
        have k1' : ¬ ql < g := by omega
        have k2' : ¬ ql > e := by omega
        have HP : Hid ((j : Int) = i ∧ m = b) := HHY.out (by rw [HFit.out, decide_eq_true ⟨k1, k2⟩]; rfl)
        have hz0 : (bits .and .u16 (t : Int) (n' : Int) != 0) = false := by rw [hz]; rfl
        clear hz
        go_wp2_with (first
          | (go_at_call 13; refine (covers_any a l qa ql _ HO.out.a0 HO.out.a1 HQ.out.1.1 HQ.out.1.2 HC.out).mono ?_; rintro e' W1 ⟨rfl, hb⟩; obtain ⟨u0, u1, u2, u3, u4, u5, u6⟩ := newU wr m a l g e h' n' hb; have x0 := cell_later hb X0; have x1 := cell_later hb X1; have HB1 : Hid (Below (w.heap.size + 1) (w.alloc (objX qa ql)) W1) := hB.trans ((Below.out1 hb).mono (by simpa using hB.size)); clear hb)
          | (go_at_call 14; refine (within_any _ _ _ hh' ht (by assumption)).mono ?_; rintro e' w' ⟨rfl, rfl⟩))
        try rw [Exit.noGoto_ret]
        go_ret2
        rw [HP.out.1, HP.out.2]
        exact ⟨rfl, outX HB1.out⟩
      · have HF : Hid (∀ i, i < j + 1 → ∀ q, L[i]? = some q → fitR q qa ql t = false) := HHJ.out (by
          rw [HFit.out]
          cases c
          · rfl
          · by_cases k1 : g ≤ ql ∧ ql ≤ e
            · cases y
              · simp
              · have : ¬ z = 0 := fun h => hall ⟨rfl, k1.1, k1.2, rfl, h⟩
                simp [this]
            · rw [decide_eq_false k1]; rfl)
        have hway : c = false ∨ c = true ∧ ql < g ∨ c = true ∧ ¬ ql < g ∧ ql > e ∨ c = true ∧ ¬ ql < g ∧ ¬ ql > e ∧ y = false ∨ c = true ∧ ¬ ql < g ∧ ¬ ql > e ∧ y = true ∧ z ≠ 0 := by
          cases c
          · exact .inl rfl
          · by_cases k1 : ql < g
            · exact .inr (.inl ⟨rfl, k1⟩)
            · by_cases k2 : ql > e
              · exact .inr (.inr (.inl ⟨rfl, k1, k2⟩))
              · cases y
                · exact .inr (.inr (.inr (.inl ⟨rfl, k1, k2, rfl⟩)))
                · exact .inr (.inr (.inr (.inr ⟨rfl, k1, k2, rfl, fun h => hall ⟨rfl, by omega, by omega, rfl, h⟩⟩)))
        clear hall
        have hz0 : z ≠ 0 → (bits .and .u16 (t : Int) (n' : Int) != 0) = true := fun h => by rw [hz]; simpa using h
        clear hz
        rcases hway with rfl | ⟨rfl, k1⟩ | ⟨rfl, k1, k2⟩ | ⟨rfl, k1, k2, rfl⟩ | ⟨rfl, k1, k2, rfl, k3⟩
        case' inr.inr.inr.inr => have hz1 := hz0 k3
        all_goals clear hz0
        all_goals
          go_wp2_with (first
          | (go_at_call 13; refine (covers_any a l qa ql _ HO.out.a0 HO.out.a1 HQ.out.1.1 HQ.out.1.2 HC.out).mono ?_; rintro e' W1 ⟨rfl, hb⟩; obtain ⟨u0, u1, u2, u3, u4, u5, u6⟩ := newU wr m a l g e h' n' hb; have x0 := cell_later hb X0; have x1 := cell_later hb X1; have HB1 : Hid (Below (w.heap.size + 1) (w.alloc (objX qa ql)) W1) := hB.trans ((Below.out1 hb).mono (by simpa using hB.size)); clear hb)
          | (go_at_call 14; refine (within_any _ _ _ hh' ht (by assumption)).mono ?_; rintro e' w' ⟨rfl, rfl⟩))
          go_roundw
          case rel => exact ⟨j + 1, by omega, rfl, rfl, by go_num, HF, HB1.out⟩
          case measure => simp [intOf]; omega
    · have hlt' : ¬ (j : Int) < (n : Int) := by omega
      obtain rfl : j = n := by omega
      have HP : Hid (-1 = i ∧ false = b) := by
        have h1 := fst_never (L := L) (by rw [HN.out]; exact HJ.out)
        have h2 := per_none h1
        exact ⟨h2.1.symm.trans HV.out.2, h2.2.symm.trans HV.out.1⟩
      go_wp2
      try rw [Exit.noGoto_ret]
      go_ret2
      rw [← HP.out.1, ← HP.out.2]
      exact ⟨rfl, HB.out⟩
end Go.Proofs.Ytmmhnpekbfmonaa
