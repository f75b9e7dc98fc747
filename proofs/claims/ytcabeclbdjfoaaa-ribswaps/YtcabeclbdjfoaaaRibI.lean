/- The contracts of the document's New, Same and Find. -/
import Derived.Test.YtcabeclbdjfoaaaRibH
namespace Go.Proofs.Ytcabeclbdjfoaaa
open Go.RowKit

set_option maxHeartbeats 400000 in
theorem refNewR_any (most : Int) (w : World) (_h0 : -9223372036854775808 ≤ most) (_h1 : most ≤ 9223372036854775807) :
    Calls Try.prog 16 #[.int .i64 most] w fun e w' => e = .returned (.pointer (some ⟨w.heap.size, 0, none⟩)) ∧ RefB w' w.heap.size (.slice none 0 0) (min most 64) [] 0 ∧ Below w.heap.size w w' := by
  have key : ∀ m : Int, RefB (w.alloc (.cells #[.int .i64 m, .slice none 0 0, .int .i64 0] 45)) w.heap.size (.slice none 0 0) m [] 0 := fun m =>
    ⟨by simp [go_sem], by simp [go_sem], by simp [go_sem], fun o => by simp [go_sem], ownR_nil _ _, (fun _ h => by cases h), by simp⟩
  by_cases hm : 64 < most
  · have e : min most 64 = 64 := by omega
    have HK : Hid (_) := key 64
    have HE : Hid (min most 64 = 64) := e
    clear key e
    go_enter Try.func16, Try.ntmps16
    go_wp2
    go_ret
    exact ⟨rfl, by rw [HE.out]; exact HK.out, below1 _ _⟩
  · have e : min most 64 = most := by omega
    have HK : Hid (_) := key most
    have HE : Hid (min most 64 = most) := e
    clear key e
    go_enter Try.func16, Try.ntmps16
    go_wp2
    go_ret
    exact ⟨rfl, by rw [HE.out]; exact HK.out, below1 _ _⟩
theorem run_neR (x y : Rt) (v : Bool) (h : decide (x = y) = v) (W : World) : Sem.run Try.prog (binOp .neq 27 (valR x.a x.l x.d x.s x.m x.n x.t) (valR y.a y.l y.d y.s y.m y.n y.t)) W = .ok (.bool !v) W := by
  have h1 := run_eqR x y v h W
  rw [run_eql_struct] at h1
  rw [run_neq_struct]
  cases hr : Sem.run Try.prog (Op.equalIn 10000 27 (valR x.a x.l x.d x.s x.m x.n x.t) (valR y.a y.l y.d y.s y.m y.n y.t)) W with
  | ok b w' =>
    rw [hr] at h1
    simp only [Result.andThen] at h1 ⊢
    simp only [Result.ok.injEq, Value.bool.injEq] at h1 ⊢
    exact ⟨by rw [h1.1], h1.2⟩
  | halt e w' =>
    rw [hr] at h1
    simp [Result.andThen] at h1
set_option maxHeartbeats 1000000 in
/-- Two rows that are the same. -/
theorem same_any (ad : Option Addr) (n cap : Nat) (ad' : Option Addr) (cap' : Nat) (L : List Rt) (w : World) (h : RowR w ad n L) (h' : RowR w ad' n L) (_hn : n ≤ 3000) :
    Calls Try.prog 21 #[.slice ad n cap, .slice ad' n cap'] w fun e w' => e = .returned (.bool true) ∧ Below w.heap.size w w' := by
  have HX : Hid (RowR w ad n L) := h
  have HQ : Hid (RowR w ad' n L) := h'
  clear h h'
  go_enter Try.func21, Try.ntmps21
  go_wp2
  go_loopw [5] (fun i_ W => ∃ (j : Nat), j ≤ n ∧ i_ = .int .i64 j ∧ Below w.heap.size w W) (fun i_ _ => n - (intOf i_).toNat)
  case atStart => exact ⟨0, Nat.zero_le _, rfl, Below.refl _ _⟩
  case round =>
    obtain ⟨j, hj, rfl, hB⟩ := hrel
    by_cases hlt : j < n
    · have hlt' : (j : Int) < (n : Int) := by omega
      obtain ⟨⟨pa, pl, pd, ps, pm, pn, pt⟩, b, off, he, -, rfl, q3⟩ := (HQ.out.later hB).at hlt
      obtain ⟨q, b', off', he', -, rfl, q2⟩ := (HX.out.later hB).at hlt
      rw [he] at he'
      simp only [Option.some.injEq] at he'
      subst he'
      obtain ⟨d0, d1, d2, d3, d4, d5, d6⟩ := q3
      obtain ⟨f0, f1, f2, f3, f4, f5, f6⟩ := q2
      simp only at d0 d1 d2 d3 d4 d5 d6 f0 f1 f2 f3 f4 f5 f6
      have hp := run_neR ⟨pa, pl, pd, ps, pm, pn, pt⟩ ⟨pa, pl, pd, ps, pm, pn, pt⟩ true (by simp)
      simp only [Bool.not_true] at hp
      clear he
      go_wp2
      go_quiet (fail)
      go_wp2
      go_roundw
      case rel => exact ⟨j + 1, by omega, by go_num, below_drewN hB _⟩
      case measure => simp [intOf]; omega
    · have hlt' : ¬ (j : Int) < (n : Int) := by omega
      go_wp2
      go_ret
      exact ⟨rfl, hB⟩
theorem long_snoc (x : Int) (p : Rt) : ∀ (A : List Rt) (b : Option Rt), longR x (A ++ [p]) b = longS x p (longR x A b)
  | [], b => rfl
  | q :: A, b => by rw [List.cons_append, longR, long_snoc x p A, longR]
/-- The longest so far. -/
def LongAt (x : Int) (L : List Rt) (j : Nat) (r : Int) : Prop := (r = -1 ∧ longR x (L.take j) none = none) ∨ ∃ (i : Nat) (p : Rt), i < j ∧ r = (i : Int) ∧ L[i]? = some p ∧ longR x (L.take j) none = some p
theorem long_no {x : Int} {L : List Rt} {j : Nat} {r : Int} {p : Rt} (h : LongAt x L j r) (hp : L[j]? = some p) (hb : hasB p.a p.l x = false) : LongAt x L (j + 1) r := by
  unfold LongAt
  rw [takeR_next hp, long_snoc]
  unfold longS
  rw [if_neg (by rw [hb]; simp)]
  rcases h with h | ⟨i, q, h1, h2, h3, h4⟩
  · exact .inl h
  · exact .inr ⟨i, q, by omega, h2, h3, h4⟩
theorem long_first {x : Int} {L : List Rt} {j : Nat} {p : Rt} (h : longR x (L.take j) none = none) (hp : L[j]? = some p) (hb : hasB p.a p.l x = true) : LongAt x L (j + 1) (j : Int) := by
  unfold LongAt
  rw [takeR_next hp, long_snoc]
  unfold longS
  rw [if_pos hb, h]
  exact .inr ⟨j, p, by omega, rfl, hp, rfl⟩
theorem long_turn {x : Int} {L : List Rt} {j : Nat} {p q : Rt} (h : longR x (L.take j) none = some q) (hp : L[j]? = some p) (hb : hasB p.a p.l x = true) (hl : q.l < p.l) : LongAt x L (j + 1) (j : Int) := by
  unfold LongAt
  rw [takeR_next hp, long_snoc]
  unfold longS
  rw [if_pos hb, h]
  simp only [if_pos hl]
  exact .inr ⟨j, p, by omega, rfl, hp, rfl⟩
theorem long_stay {x : Int} {L : List Rt} {i j : Nat} {p q : Rt} (h : longR x (L.take j) none = some q) (hi : i < j) (hq : L[i]? = some q) (hp : L[j]? = some p) (hb : hasB p.a p.l x = true) (hl : ¬ q.l < p.l) : LongAt x L (j + 1) (i : Int) := by
  unfold LongAt
  rw [takeR_next hp, long_snoc]
  unfold longS
  rw [if_pos hb, h]
  simp only [if_neg hl]
  exact .inr ⟨i, q, by omega, rfl, hq, rfl⟩
set_option maxHeartbeats 4000000 in
theorem refFindR_any (N : Nat) (v : Value) (most : Int) (L : List Rt) (full x : Int) (w : World) (h : RefB w N v most L full) (hL : L.length ≤ 1000) (x0 : 0 ≤ x) (x1 : x < 4294967296) :
    Calls Try.prog 26 #[.pointer (some ⟨N, 0, none⟩), .int .u32 x] w fun e w' => e = .returned (ansR (findR x L)) ∧ Below w.heap.size w w' := by
  obtain ⟨ad, cap, rfl⟩ := h.own.shape
  obtain ⟨n, hn⟩ : ∃ n, L.length = n := ⟨_, rfl⟩
  rw [hn] at h
  have HL : Hid (L.length ≤ 1000) := hL
  rw [hn] at hL
  have HT : Hid (RefB w N (.slice ad n cap) most L full) := h
  have HN : Hid (L.length = n) := hn
  have HRow : Hid (RowR w ad n L) := by unfold Hid; have := h.own; rw [hn] at this; exact this.row h.ok
  have hNw := h.lt
  clear h hn
  go_enter Try.func26, Try.ntmps26
  go_wp2
  go_loopw [6, 7] (fun r_ i_ W => ∃ (j : Nat) (r : Int), j ≤ n ∧ i_ = .int .i64 j ∧ r_ = .int .i64 r ∧ Hid (LongAt x L j r) ∧ Below (w.heap.size + 1) (w.alloc (objR 0 0 0 0 0 0 0)) W) (fun _ i_ _ => n - (intOf i_).toNat)
  case atStart => exact ⟨0, -1, Nat.zero_le _, rfl, rfl, .inl ⟨rfl, rfl⟩, Below.refl _ _⟩
  case round =>
    obtain ⟨j, r, hj, rfl, rfl, HJ, hB⟩ := hrel
    have hB' : Below (w.alloc (objR 0 0 0 0 0 0 0)).heap.size (w.alloc (objR 0 0 0 0 0 0 0)) wr := by simpa using hB
    have HBw : Hid (Below w.heap.size w wr) := out9 hB
    have sB := hB.size
    have z1 := (HT.out.later HBw.out).2.1
    by_cases hlt : j < n
    · have hlt' : (j : Int) < (n : Int) := by omega
      obtain ⟨⟨pa, pl, pd, ps, pm, pn, pt⟩, b, off, he, hok, rfl, q3⟩ := HRow.out.at hlt
      have HE : Hid (L[j]? = some ⟨pa, pl, pd, ps, pm, pn, pt⟩) := he
      have HQ3 : Hid (R7 w b (off + j * 7) ⟨pa, pl, pd, ps, pm, pn, pt⟩) := q3
      have pa0 : 0 ≤ pa := hok.a0
      have pa1 : pa < 4294967296 := hok.a1
      have pl0 : -9223372036854775808 ≤ pl := hok.l0
      have pl1 : pl ≤ 9223372036854775807 := hok.l1
      obtain ⟨d0, d1, -⟩ := q3.later HBw.out
      simp only at d0 d1
      obtain ⟨u, hu⟩ : ∃ u, hasB pa pl x = u := ⟨_, rfl⟩
      have HU : Hid (hasB pa pl x = u) := hu
      clear he hok q3 hu
      cases u
      · have HJ' : Hid (LongAt x L (j + 1) r) := long_no HJ.out HE.out HU.out
        go_wp2_with (go_at_call 44; refine (refHas_any _ _ _ _ pa0 pa1 x0 x1 pl0 pl1 HU.out).mono ?_; rintro e W1 ⟨rfl, hb1⟩; have hB1 := hB.trans (hb1.mono (by simp at sB; omega)); have z1 := (HT.out.later (out9 hB1)).2.1; obtain ⟨d0, d1, -⟩ := HQ3.out.later (out9 hB1); simp only at d0 d1)
        go_quiet (fail)
        go_wp2
        go_roundw
        case rel => exact ⟨j + 1, r, by omega, by go_num, rfl, HJ', below_drewN hB1 _⟩
        case measure => simp [intOf]; omega
      · rcases HJ.out with ⟨hr, hfn⟩ | ⟨i, q, hij, hr, hqi, hfs⟩
        · subst hr
          have HJ' : Hid (LongAt x L (j + 1) (j : Int)) := long_first hfn HE.out HU.out
          clear hfn
          go_wp2_with (go_at_call 44; refine (refHas_any _ _ _ _ pa0 pa1 x0 x1 pl0 pl1 HU.out).mono ?_; rintro e W1 ⟨rfl, hb1⟩; have hB1 := hB.trans (hb1.mono (by simp at sB; omega)); have z1 := (HT.out.later (out9 hB1)).2.1; obtain ⟨d0, d1, -⟩ := HQ3.out.later (out9 hB1); simp only at d0 d1)
          go_quiet (fail)
          go_wp2
          go_roundw
          case rel => exact ⟨j + 1, j, by omega, by go_num, rfl, HJ', below_drewN hB1 _⟩
          case measure => simp [intOf]; omega
        · subst hr
          obtain ⟨qa, ql, qd, qs, qm, qn, qt⟩ := q
          have hin : i < n := by omega
          obtain ⟨q', b', off', hq', -, e', q3'⟩ := HRow.out.at hin
          rw [hqi] at hq'
          simp only [Option.some.injEq] at hq' e'
          subst hq'
          obtain ⟨rfl, rfl⟩ : b = b' ∧ off = off' := by simp only [Addr.mk.injEq, and_true] at e'; exact e'
          have HQ3' : Hid (R7 w b (off + i * 7) ⟨qa, ql, qd, qs, qm, qn, qt⟩) := q3'
          have hi' : (i : Int) < (n : Int) := by omega
          have hi0 : ¬ (i : Int) < 0 := by omega
          cases hlb : decide (ql < pl)
          · have hlb' : ¬ ql < pl := by simpa using hlb
            have HJ' : Hid (LongAt x L (j + 1) (i : Int)) := long_stay hfs hij hqi HE.out HU.out hlb'
            clear hfs hlb q3' hqi e'
            go_wp2_with (go_at_call 44; refine (refHas_any _ _ _ _ pa0 pa1 x0 x1 pl0 pl1 HU.out).mono ?_; rintro e W1 ⟨rfl, hb1⟩; have hB1 := hB.trans (hb1.mono (by simp at sB; omega)); have z1 := (HT.out.later (out9 hB1)).2.1; obtain ⟨d0, d1, -⟩ := HQ3.out.later (out9 hB1); simp only at d0 d1; obtain ⟨f0, f1, -⟩ := HQ3'.out.later (out9 hB1); simp only at f0 f1)
            go_quiet (fail)
            go_wp2
            go_roundw
            case rel => exact ⟨j + 1, i, by omega, by go_num, rfl, HJ', below_drewN hB1 _⟩
            case measure => simp [intOf]; omega
          · have hlb' : ql < pl := by simpa using hlb
            have HJ' : Hid (LongAt x L (j + 1) (j : Int)) := long_turn hfs HE.out HU.out hlb'
            clear hfs hlb q3' hqi e'
            go_wp2_with (go_at_call 44; refine (refHas_any _ _ _ _ pa0 pa1 x0 x1 pl0 pl1 HU.out).mono ?_; rintro e W1 ⟨rfl, hb1⟩; have hB1 := hB.trans (hb1.mono (by simp at sB; omega)); have z1 := (HT.out.later (out9 hB1)).2.1; obtain ⟨d0, d1, -⟩ := HQ3.out.later (out9 hB1); simp only at d0 d1; obtain ⟨f0, f1, -⟩ := HQ3'.out.later (out9 hB1); simp only at f0 f1)
            go_quiet (fail)
            go_wp2
            go_roundw
            case rel => exact ⟨j + 1, j, by omega, by go_num, rfl, HJ', below_drewN hB1 _⟩
            case measure => simp [intOf]; omega
    · have hlt' : ¬ (j : Int) < (n : Int) := by omega
      obtain rfl : j = n := by omega
      have hfz : ∀ o, wr.frozen? ⟨w.heap.size, o, none⟩ = false := fun o => (hB.frozen (p := ⟨w.heap.size, o, none⟩) (by exact Nat.lt_succ_self _)).trans (by simp [go_sem])
      have HZ : Hid (R7 wr w.heap.size 0 ⟨0, 0, 0, 0, 0, 0, 0⟩) := (R7.new w 0 0 0 0 0 0 0).later hB'
      obtain ⟨y0, y1, y2, y3, y4, y5, y6⟩ := HZ.out.z
      rcases HJ.out with ⟨hr, hfn⟩ | ⟨i, q, hij, hr, hqi, hfs⟩
      · subst hr
        rw [show L.take j = L by rw [← HN.out]; exact List.take_length] at hfn
        have HF : Hid (ansR (findR x L) = .tuple #[valR 0 0 0 0 0 0 0, .bool false]) := by unfold Hid findR; rw [hfn]; rfl
        clear hfn
        go_wp2
        refine bodyPost_ret (v := .tuple #[valR 0 0 0 0 0 0 0, .bool false]) (by simp [results, Try.results26, go_sem, y0, y1, y2, y3, y4, y5, y6]) rfl ⟨?_, ?_⟩
        · rw [HF.out]
        · exact set7_below (b := w.heap.size) (o := 0) HBw.out (Nat.le_refl _)
      · subst hr
        rw [show L.take j = L by rw [← HN.out]; exact List.take_length] at hfs
        obtain ⟨qa, ql, qd, qs, qm, qn, qt⟩ := q
        have HF : Hid (findR x L = bestR qa ql L none) := by unfold Hid findR; rw [hfs]; rfl
        obtain ⟨⟨ra, rl, rd, rs, rm, rn, rt⟩, hrr⟩ : ∃ r, (bestR qa ql L none).getD rt0 = r := ⟨_, rfl⟩
        obtain ⟨ok, hok⟩ : ∃ b, (bestR qa ql L none).isSome = b := ⟨_, rfl⟩
        have HA : Hid (ansR (bestR qa ql L none) = .tuple #[valR ra rl rd rs rm rn rt, .bool ok]) := by unfold Hid ansR; rw [hrr, hok]; rfl
        obtain ⟨q', b, off, hq', -, rfl, q3⟩ := HRow.out.at hij
        rw [hqi] at hq'
        simp only [Option.some.injEq] at hq'
        subst hq'
        obtain ⟨d0, d1, -⟩ := q3.later HBw.out
        simp only at d0 d1
        have hi' : (i : Int) < (j : Int) := by omega
        have hi0 : ¬ (i : Int) < 0 := by omega
        have hsz : w.heap.size < wr.heap.size := by simp at sB; omega
        clear hfs hqi q3 hrr hok
        go_wp2_with (go_at_call 24; go_loud (refine (refBest_any N _ most L full qa ql _ (HT.out.later HBw.out) HL.out).mono ?_; rw [HA.out]; rintro e W1 ⟨rfl, hb1⟩; have HB1 : Hid (Below w.heap.size w W1) := stp HBw.out hb1; have hb2 := hb1.trans ((below1 W1 (objR ra rl rd rs rm rn rt)).mono hb1.size); obtain ⟨y0, y1, y2, y3, y4, y5, y6⟩ := (HZ.out.later hb2).z; have hfz : ∀ o, (W1.alloc (objR ra rl rd rs rm rn rt)).frozen? ⟨w.heap.size, o, none⟩ = false := (fun o => (hb2.frozen (p := ⟨w.heap.size, o, none⟩) hsz).trans (hfz o))))
        refine bodyPost_ret (v := .tuple #[valR ra rl rd rs rm rn rt, .bool ok]) (by simp [results, Try.results26, go_sem, y0, y1, y2, y3, y4, y5, y6]) rfl ⟨?_, ?_⟩
        · rw [HF.out, HA.out]
        · exact set7_below (b := w.heap.size) (o := 0) (stp HB1.out (below1 _ _)) (Nat.le_refl _)
end Go.Proofs.Ytcabeclbdjfoaaa
