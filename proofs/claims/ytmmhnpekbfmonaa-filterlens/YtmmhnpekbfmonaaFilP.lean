/- The document's filter: Permits and May. -/
import Derived.Test.YtmmhnpekbfmonaaFilR
namespace Go.Proofs.Ytmmhnpekbfmonaa
open Go.RowKit

theorem newX (w : World) (a l : Int) {W : World} (hb : Below (w.alloc (objX a l)).heap.size (w.alloc (objX a l)) W) : W.cell? ⟨w.heap.size, 0, none⟩ = some (.int .u32 a) ∧ W.cell? ⟨w.heap.size, 1, none⟩ = some (.int .i64 l) :=
  ⟨cell_later hb (by simp [go_sem]), cell_later hb (by simp [go_sem])⟩
theorem outX {w W : World} {o : Obj} (h : Below (w.heap.size + 1) (w.alloc o) W) : Below w.heap.size w W := (below1 w o).trans (h.mono (by omega))
theorem tag_nat {x : Int} (h0 : 0 ≤ x) (h1 : x < 65536) : ∃ n : Nat, x = (n : Int) ∧ n < 65536 := ⟨x.toNat, by omega, by omega⟩
set_option maxHeartbeats 2000000 in
theorem refPermits_any (ad : Option Addr) (n cap : Nat) (L : List Ru) (qa ql : Int) (t : Nat) (w : World) (hr : RowU w ad n L) (hqa : U32 qa) (hql : I64 ql) (ht : t < 65536) (hL : n ≤ 1000) {b : Bool} {i : Int} (hb : perB qa ql t L = b) (hi : perI qa ql t L = i) :
    Calls Try.prog 10 #[.slice ad n cap, valX qa ql, .int .u16 (t : Int)] w fun e w' => e = .returned (.tuple #[.bool b, .int .i64 i]) ∧ Below w.heap.size w w' := by
  have HRow : Hid (RowU (w.alloc (objX qa ql)) ad n L) := hr.later (below1 _ _)
  have HN : Hid (L.length = n) := hr.1
  have HV : Hid (perB qa ql t L = b ∧ perI qa ql t L = i) := ⟨hb, hi⟩
  have HQ : Hid (U32 qa ∧ I64 ql) := ⟨hqa, hql⟩
  clear hr hb hi hqa hql
  go_enter Try.func10, Try.ntmps10
  go_wp2
  go_loopw [8] (fun i_ W => ∃ (j : Nat), j ≤ n ∧ i_ = .int .i64 j ∧ Hid (∀ i, i < j → ∀ q, L[i]? = some q → fitR q qa ql t = false) ∧ Below (w.heap.size + 1) (w.alloc (objX qa ql)) W) (fun i_ _ => n - (intOf i_).toNat)
  case atStart => exact ⟨0, Nat.zero_le _, rfl, fun i hi => by omega, Below.refl _ _⟩
  case round =>
    obtain ⟨j, hj, rfl, HJ, hB⟩ := hrel
    have HB : Hid (Below w.heap.size w wr) := outX hB
    have hB' : Below (w.alloc (objX qa ql)).heap.size (w.alloc (objX qa ql)) wr := by simpa using hB
    obtain ⟨x0, x1⟩ := newX w qa ql hB'
    by_cases hlt : j < n
    · have hlt' : (j : Int) < (n : Int) := by omega
      obtain ⟨⟨m, a, l, g, e, h, nn⟩, bk, off, he, hok, rfl, q7⟩ := (HRow.out.later hB').at hlt
      have HE : Hid (L[j]? = some ⟨m, a, l, g, e, h, nn⟩) := he
      have HO : Hid (Ru.Ok ⟨m, a, l, g, e, h, nn⟩) := hok
      obtain ⟨h', rfl, hh'⟩ := tag_nat hok.h0 hok.h1
      obtain ⟨n', rfl, hn'⟩ := tag_nat hok.n0 hok.n1
      clear he hok
      obtain ⟨c0, c1, c2, c3, c4, c5, c6⟩ := q7
      simp only at c0 c1 c2 c3 c4 c5 c6
      obtain ⟨c, hc⟩ : ∃ c, fitR ⟨m, a, l, g, e, (h' : Int), (n' : Int)⟩ qa ql t = c := ⟨_, rfl⟩
      have HF : Hid (fitR ⟨m, a, l, g, e, (h' : Int), (n' : Int)⟩ qa ql t = c) := hc
      clear hc
      have r0 := cell_regrown c0; have r1 := cell_regrown c1; have r2 := cell_regrown c2; have r3 := cell_regrown c3; have r4 := cell_regrown c4; have r5 := cell_regrown c5; have r6 := cell_regrown c6
      have y0 := cell_regrown x0; have y1 := cell_regrown x1
      cases c
      · have HJ' : Hid (∀ i, i < j + 1 → ∀ q, L[i]? = some q → fitR q qa ql t = false) := fun i hi q hq => by
          by_cases hij : i = j
          · subst hij; rw [HE.out] at hq; simp only [Option.some.injEq] at hq; subst hq; exact HF.out
          · exact HJ.out i (by omega) q hq
        go_wp2
        refine wp_region_quiet_below (by kernel_rfl) (by kernel_rfl) ?_
        repeat (go_big_quiet_step ((go_at_call 15; exact Calls.regrown_of (refFits_any m a l g e h' n' t qa ql _ ⟨HO.out.a0, HO.out.a1⟩ ⟨HO.out.l0, HO.out.l1⟩ ⟨HO.out.g0, HO.out.g1⟩ ⟨HO.out.e0, HO.out.e1⟩ hh' hn' ht HQ.out.1 HQ.out.2 HF.out))))
        refine wpQuiet_nil ?_
        intro _ hw'
        obtain ⟨⟨dq, osq⟩, hw''⟩ := hw'
        subst hw''
        go_wp2
        go_roundw
        case rel => exact ⟨j + 1, by omega, by go_num, HJ', hB.trans ((below_regrown _ dq osq).mono (by simpa using hB.size))⟩
        case measure => simp [intOf]; omega
      · have HP : Hid ((j : Int) = i ∧ m = b) := by
          have h1 := fst_first HJ.out HE.out HF.out
          have h2 := per_some h1 HE.out
          exact ⟨h2.1.symm.trans HV.out.2, h2.2.symm.trans HV.out.1⟩
        go_wp2
        refine wp_region_quiet_below (by kernel_rfl) (by kernel_rfl) ?_
        repeat (go_big_quiet_step ((go_at_call 15; exact Calls.regrown_of (refFits_any m a l g e h' n' t qa ql _ ⟨HO.out.a0, HO.out.a1⟩ ⟨HO.out.l0, HO.out.l1⟩ ⟨HO.out.g0, HO.out.g1⟩ ⟨HO.out.e0, HO.out.e1⟩ hh' hn' ht HQ.out.1 HQ.out.2 HF.out))))
        refine wpQuiet_nil ?_
        intro _ hw'
        obtain ⟨⟨dq, osq⟩, hw''⟩ := hw'
        subst hw''
        go_wp2
        go_ret2
        rw [HP.out.1, HP.out.2]
        exact ⟨rfl, stp HB.out (below_regrown _ dq osq)⟩
    · have hlt' : ¬ (j : Int) < (n : Int) := by omega
      obtain rfl : j = n := by omega
      have HP : Hid (-1 = i ∧ false = b) := by
        have h1 := fst_never (L := L) (by rw [HN.out]; exact HJ.out)
        have h2 := per_none h1
        exact ⟨h2.1.symm.trans HV.out.2, h2.2.symm.trans HV.out.1⟩
      go_wp2
      go_ret2
      rw [← HP.out.1, ← HP.out.2]
      exact ⟨rfl, HB.out⟩
end Go.Proofs.Ytmmhnpekbfmonaa
