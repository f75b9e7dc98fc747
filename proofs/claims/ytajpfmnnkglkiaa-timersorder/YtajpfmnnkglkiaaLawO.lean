/- The law TimersOrder over what is asked of the program's timers. -/
import Derived.Test.YtajpfmnnkglkiaaLawA
import Derived.Test.YtajpfmnnkglkiaaRowP
import Derived.BigQuiet
namespace Go.Proofs.Ytajpfmnnkglkiaa
open Go.RowKit

theorem due_again {L : List Tm} (hs : SrtT L) (now : Int) : dueL now (dueR now L) = [] := by
  have h2 : SrtT (dueR now L) := List.Pairwise.sublist (List.dropWhile_sublist _) hs
  rw [List.eq_nil_iff_forall_not_mem]
  intro p hp
  have h3 := ((mem_due now h2).1 p).1 hp
  have h4 := ((mem_due now hs).2 p).1 h3.1
  omega
theorem wrap_in {x : Int} (h0 : -9223372036854775808 ≤ x) (h1 : x ≤ 9223372036854775807) : IntKind.i64.wrap x = x := by
  simp [IntKind.wrap, IntKind.signed, IntKind.bits]
  omega
theorem ops_tail {W : World} {b o : Nat} {k i a : Int} (h : P3 W b o ⟨k, i, a⟩) : W.cell? ⟨b, o, none⟩ = some (.int .i64 k) ∧ W.cell? ⟨b, o + 1, none⟩ = some (.int .i64 i) ∧ W.cell? ⟨b, o + 2, none⟩ = some (.int .i64 a) := h
section
variable {TM : World → (Nat → Prop) → Addr → List Tm → Nat → Prop}
set_option maxRecDepth 100000 in
set_option maxHeartbeats 1000000 in
theorem law_order (C : TimC TM) (ad : Option Addr) (n cap : Nat) (cs : List Op) (now : Int) (w : World) (hr : RowP w ad n cs) (hn : -9223372036854775808 ≤ now ∧ now ≤ 9223372036854775807) :
    Calls Try.prog 5 #[.slice ad n cap, .int .i64 now] w fun e w' => e = .returned (.bool true) ∧ Below w.heap.size w w' := by
  have HC : Hid (TimC TM) := C
  have HR : Hid (RowP w ad n cs) := hr
  have HN : Hid (_) := hn
  clear C hr hn
  by_cases hn : n ≤ 400
  case neg =>
    have hn' : (400 : Int) < (n : Int) := by omega
    go_enter Try.func5, Try.ntmps5
    go_wp2_with (first
      | (go_at_call 8; refine (awake_any HC.out _).mono ?_; rintro e W1 ⟨rfl, hb1⟩)
      | (go_at_call 9; refine (HC.out.new _).mono ?_; rintro e W2 ⟨p, B, rfl, T2, hB2, hb2⟩; have he : ∀ W : World, (binOp .eql 24 (.pointer (some p)) (.pointer none)).run Try.prog W = .ok (.bool false) W := run_nilP _; have he' : ∀ W : World, (binOp .neq 24 (.pointer (some p)) (.pointer none)).run Try.prog W = .ok (.bool true) W := run_nilN _))
    go_ret
    exact ⟨rfl, stp hb1 hb2⟩
  have hn' : ¬ (400 : Int) < (n : Int) := by omega
  go_enter Try.func5, Try.ntmps5
  go_wp2_with (first
    | (go_at_call 8; refine (awake_any HC.out _).mono ?_; rintro e W1 ⟨rfl, hb1⟩)
    | (go_at_call 9; refine (HC.out.new _).mono ?_; rintro e W2 ⟨p, B, rfl, T2, hB2, hb2⟩; have hO := OneK.new (w := w) T2 hB2 hb1 hb2; have he : ∀ W : World, (binOp .eql 24 (.pointer (some p)) (.pointer none)).run Try.prog W = .ok (.bool false) W := run_nilP _; clear T2 hB2 hb1 hb2))
  clear he
  go_loopw [7] (fun i_ W => ∃ (j : Nat) (L : List Tm) (B : Nat → Prop), j ≤ n ∧ i_ = .int .i64 j ∧ Hid (OneK TM w p L j B W)) (fun i_ _ => n - (intOf i_).toNat)
  case atStart => exact ⟨0, [], B, Nat.zero_le _, rfl, hO⟩
  case round =>
    clear hO
    obtain ⟨j, L, B, hj, rfl, HB⟩ := hrel
    by_cases hlt : j < n
    · have hlt' : (j : Int) < (n : Int) := by omega
      obtain ⟨⟨ck, ci, ca⟩, b, off, he, hok, rfl, q5⟩ := HR.out.at hlt
      have HOK : Hid (Tm.Ok ⟨ci, ca⟩) := ⟨hok.i0, hok.i1, hok.a0, hok.a1⟩
      have HQ : Hid (∀ W, Below w.heap.size w W → _) := fun W hb => ops_tail (q5.later (W' := W) hb)
      obtain ⟨-, d1, d2⟩ := HQ.out wr HB.out.b
      have hj400 : j ≤ 400 := by omega
      clear hok q5 he
      go_wp2
      go_region_held3 (fun w' => w'.cell? ⟨b, off + j * 3 + 1, none⟩ = some (.int .i64 ci) ∧ w'.cell? ⟨b, off + j * 3 + 2, none⟩ = some (.int .i64 ca)) (first | exact ⟨d1, d2⟩ | exact ⟨e1, e2⟩)
        ((go_at_call 10; refine (HC.out.set ci ca (HB.out.later HC.out (Below.refl _ _).drew).t (by omega) HOK.out).mono ?_; intro e W1 hd; obtain ⟨rfl, B1, hB1⟩ := (HB.out.later HC.out (Below.refl _ _).drew).step hd; obtain ⟨-, e1, e2⟩ := HQ.out W1 hB1.b))
      all_goals
        go_wp2
        go_roundw
        case rel => exact ⟨j + 1, _, B1, by omega, by go_num, hB1⟩
        case measure => simp [intOf]; omega
    · have hlt' : ¬ (j : Int) < (n : Int) := by omega
      obtain rfl : j = n := by omega
      have hj400 : j ≤ 400 := hn
      have HG : Hid (_) := HC.out.good HB.out.t
      obtain ⟨D, hD⟩ : ∃ D, dueL now L = D := ⟨_, rfl⟩
      obtain ⟨R, hRR⟩ : ∃ R, dueR now L = R := ⟨_, rfl⟩
      obtain ⟨nL, hnL⟩ : ∃ l, L.length = l := ⟨_, rfl⟩
      obtain ⟨nR, hnR⟩ : ∃ l, R.length = l := ⟨_, rfl⟩
      have HD : Hid (dueL now L = D ∧ dueR now L = R ∧ L.length = nL ∧ R.length = nR) := ⟨hD, hRR, hnL, hnR⟩
      have HS : Hid (SrtT D ∧ Tms D ∧ (∀ p ∈ D, p.a ≤ now) ∧ (∀ p ∈ R, now < p.a) ∧ D.length + nR = nL ∧ nL ≤ 400 ∧ dueL now R = []) := by
        refine ⟨?_, ?_, ?_, ?_, ?_, ?_, ?_⟩
        · rw [← hD]; exact (goodT_due HG.out.1 now).1.s
        · intro p hp; rw [← hD] at hp; exact HG.out.2.1 p (((mem_due now HG.out.1.s).1 p).1 hp).1
        · intro p hp; rw [← hD] at hp; exact (((mem_due now HG.out.1.s).1 p).1 hp).2
        · intro p hp; rw [← hRR] at hp; exact (((mem_due now HG.out.1.s).2 p).1 hp).2
        · rw [← hnL, ← hnR, ← hD, ← hRR]; exact due_len now L
        · rw [← hnL]; exact Nat.le_trans HG.out.2.2.1 hj400
        · rw [← hRR]; exact due_again HG.out.1.s now
      clear hD hRR hnL hnR
      go_wp2_with (first
        | (go_at_call 18; refine (HC.out.len HB.out.t (by omega)).mono ?_; rw [HD.out.2.2.1]; rintro e W3 ⟨rfl, hb3⟩; have hO3 := HB.out.later HC.out hb3)
        | (go_at_call 15; refine (HC.out.due now hO3.t (by omega) HN.out.1 HN.out.2).mono ?_; intro e W6 hd; obtain ⟨B6, ad', k, cap', rfl, hO6, own, -⟩ := hO3.dued hd; rw [HD.out.1] at own; rw [HD.out.2.1] at hO6))
      have HRow : Hid (RowT W6 ad' k D) := own.row HS.out.2.1
      have HO6 : Hid (_) := hO6
      have hk : D.length = k := own.len
      have hks : k + nR = nL ∧ nL ≤ 400 := by rw [← hk]; exact ⟨HS.out.2.2.2.2.1, HS.out.2.2.2.2.2.1⟩
      have HK : Hid (D.length = k) := hk
      clear own hO6 hO3 hb3 hk HB HG hd
      go_loopw [10] (fun i_ W => ∃ (e : Nat), e ≤ k ∧ i_ = .int .i64 e ∧ Below W6.heap.size W6 W) (fun i_ _ => k - (intOf i_).toNat)
      case atStart => exact ⟨0, Nat.zero_le _, rfl, Below.refl _ _⟩
      case round =>
        obtain ⟨m, hm, rfl, hBV⟩ := hrel
        have hk400 : k ≤ 400 := by omega
        by_cases hle : m < k
        · have hle' : (m : Int) < (k : Int) := by omega
          obtain ⟨⟨yi, ya⟩, g, off, hy, -, rfl, q0, q1⟩ := (HRow.out.later hBV).at hle
          have hya : ¬ now < ya := by have := HS.out.2.2.1 _ (List.mem_of_getElem? hy); simp only at this; omega
          simp only at q0 q1
          by_cases h0 : (0 : Int) < (m : Int)
          case neg =>
            have h0d : decide (0 < m) = false := decide_eq_false (by omega)
            have hyd : decide (now < ya) = false := decide_eq_false hya
            clear hy hks h0 hya
            go_wp2
            go_quiet (fail)
            go_wp2
            go_roundw
            case rel => exact ⟨m + 1, by omega, by go_num, below_drewN hBV _⟩
            case measure => simp [intOf]; omega
          case pos =>
            obtain ⟨i, hm1⟩ : ∃ i, m = i + 1 := ⟨m - 1, by omega⟩
            obtain ⟨⟨xi, xa⟩, g', off', hx, -, hg, p0, p1⟩ := (HRow.out.later hBV).at (show i < k by omega)
            simp only [Option.some.injEq, Addr.mk.injEq, and_true] at hg
            obtain ⟨rfl, rfl⟩ := hg
            have hxy : Tm.lt ⟨xi, xa⟩ ⟨yi, ya⟩ := by
              obtain ⟨l1, e1⟩ := List.getElem?_eq_some_iff.1 hx
              obtain ⟨l2, e2⟩ := List.getElem?_eq_some_iff.1 hy
              rw [← e1, ← e2]
              exact List.pairwise_iff_getElem.1 HS.out.1 i m l1 l2 (by omega)
            simp only at p0 p1
            have h0n : 0 < m := by omega
            have hi' : (i : Int) < (k : Int) := by omega
            have hw1 : IntKind.i64.wrap ((m : Int) - 1) = (i : Int) := by rw [wrap_in (by omega) (by omega)]; omega
            have hyd : decide (now < ya) = false := decide_eq_false hya
            have hcase : (decide (ya < xa) = false ∧ (xa == ya) = false) ∨ (xa = ya ∧ decide (yi ≤ xi) = false) := by
              unfold Tm.lt at hxy
              simp only at hxy
              rcases hxy with h | h
              · exact .inl ⟨decide_eq_false (by omega), by simpa using (by omega : xa ≠ ya)⟩
              · exact .inr ⟨h.1, decide_eq_false (by omega)⟩
            clear hx hy hxy hks hm1 hya
            rcases hcase with ⟨c1, c2⟩ | ⟨rfl, c2⟩
            · go_wp2
              go_quiet (fail)
              go_wp2
              go_roundw
              case rel => exact ⟨m + 1, by omega, by go_num, below_drewN hBV _⟩
              case measure => simp [intOf]; omega
            · go_wp2
              go_quiet (fail)
              go_wp2
              go_roundw
              case rel => exact ⟨m + 1, by omega, by go_num, below_drewN hBV _⟩
              case measure => simp [intOf]; omega
        · have hle' : ¬ (m : Int) < (k : Int) := by omega
          have hcur := HO6.out.later HC.out hBV
          have hs : (nL : Int) - (k : Int) = (nR : Int) := by omega
          obtain rfl : m = k := by omega
          have hDR : Hid (R.length = nR) := HD.out.2.2.2
          have HRa : Hid (∀ p ∈ R, now < p.a) := HS.out.2.2.2.1
          have HL0 : Hid (dueL now R = []) := HS.out.2.2.2.2.2.2
          clear HS HD HO6
          cases R with
          | nil =>
            have hnR : nR = 0 := hDR.out.symm
            subst hnR
            have HNx : Hid (nextT [] = 0 ∧ nextB [] = false) := ⟨rfl, rfl⟩
            go_wp2_with (first
              | (go_at_call 17; refine (HC.out.next hcur.t (by omega)).mono ?_; rw [HNx.out.1, HNx.out.2]; rintro e V ⟨rfl, hb⟩; have hcur := hcur.later HC.out hb; clear hb)
              | (go_at_call 18; refine (HC.out.len hcur.t (by omega)).mono ?_; rw [hDR.out]; rintro e V ⟨rfl, hb⟩; have hcur := hcur.later HC.out hb; clear hb)
              | (go_at_call 15; refine (HC.out.due now hcur.t (by omega) HN.out.1 HN.out.2).mono ?_; intro e V hd; obtain ⟨B7, ad7, k7, cap7, rfl, hO7, own7, -⟩ := hcur.dued hd; rw [HL0.out] at own7; obtain rfl : k7 = 0 := own7.len.symm))
            go_ret
            exact ⟨rfl, hO7.b⟩
          | cons y R =>
            obtain ⟨yi, ya⟩ := y
            have hya : now < ya := HRa.out _ (List.mem_cons_self ..)
            have hnR : 0 < nR := by rw [← hDR.out]; simp
            have hnR' : (0 : Int) < (nR : Int) := by omega
            have HNx : Hid (nextT (⟨yi, ya⟩ :: R) = ya ∧ nextB (⟨yi, ya⟩ :: R) = true) := ⟨rfl, rfl⟩
            go_wp2_with (first
              | (go_at_call 17; refine (HC.out.next hcur.t (by omega)).mono ?_; rw [HNx.out.1, HNx.out.2]; rintro e V ⟨rfl, hb⟩; have hcur := hcur.later HC.out hb; clear hb)
              | (go_at_call 18; refine (HC.out.len hcur.t (by omega)).mono ?_; rw [hDR.out]; rintro e V ⟨rfl, hb⟩; have hcur := hcur.later HC.out hb; clear hb)
              | (go_at_call 15; refine (HC.out.due now hcur.t (by omega) HN.out.1 HN.out.2).mono ?_; intro e V hd; obtain ⟨B7, ad7, k7, cap7, rfl, hO7, own7, -⟩ := hcur.dued hd; rw [HL0.out] at own7; obtain rfl : k7 = 0 := own7.len.symm))
            go_ret
            exact ⟨rfl, hO7.b⟩
end
end Go.Proofs.Ytajpfmnnkglkiaa
