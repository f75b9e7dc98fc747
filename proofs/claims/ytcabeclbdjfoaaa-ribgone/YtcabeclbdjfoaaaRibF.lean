/- The contract of the document's Best. -/
import Derived.Test.YtcabeclbdjfoaaaRibQ
namespace Go.Proofs.Ytcabeclbdjfoaaa
open Go.RowKit

def rt0 : Rt := ⟨0, 0, 0, 0, 0, 0, 0⟩
def valRt (x : Rt) : Value := valR x.a x.l x.d x.s x.m x.n x.t
/-- A route that is there, or noughts and false. -/
def ansR (x : Option Rt) : Value := .tuple #[valRt (x.getD rt0), .bool x.isSome]
theorem set7_below {B : Nat} {w W : World} {b o : Nat} {a l d s m n t : Int} (h : Below B w W) (hb : B ≤ b) : Below B w (set7 W b o a l d s m n t) := by
  unfold set7
  exact (((((((h.setCell (p := ⟨b, o, none⟩) hb _).setCell (p := ⟨b, o + 1, none⟩) hb _).setCell (p := ⟨b, o + 2, none⟩) hb _).setCell (p := ⟨b, o + 3, none⟩) hb _).setCell (p := ⟨b, o + 4, none⟩) hb _).setCell (p := ⟨b, o + 5, none⟩) hb _).setCell (p := ⟨b, o + 6, none⟩) hb _)
theorem best_snoc (a l : Int) (p : Rt) : ∀ (A : List Rt) (b : Option Rt), bestR a l (A ++ [p]) b = bestS a l p (bestR a l A b)
  | [], b => rfl
  | q :: A, b => by rw [List.cons_append, bestR, best_snoc a l p A, bestR]
theorem takeR_next {L : List Rt} {j : Nat} {p : Rt} (h : L[j]? = some p) : L.take (j + 1) = L.take j ++ [p] := by rw [List.take_add_one, h]; rfl
/-- The best so far. -/
def BestR (a l : Int) (L : List Rt) (j : Nat) (r : Int) : Prop := (r = -1 ∧ bestR a l (L.take j) none = none) ∨ ∃ (i : Nat) (p : Rt), i < j ∧ r = (i : Int) ∧ L[i]? = some p ∧ bestR a l (L.take j) none = some p
theorem bestR_skip {a l : Int} {L : List Rt} {j : Nat} {r : Int} {p : Rt} (h : BestR a l L j r) (hp : L[j]? = some p) (ho : ¬ p.of a l) : BestR a l L (j + 1) r := by
  unfold BestR
  rw [takeR_next hp, best_snoc]
  unfold bestS
  rw [if_neg ho]
  rcases h with h | ⟨i, q, h1, h2, h3, h4⟩
  · exact .inl h
  · exact .inr ⟨i, q, by omega, h2, h3, h4⟩
theorem bestR_first {a l : Int} {L : List Rt} {j : Nat} {p : Rt} (h : bestR a l (L.take j) none = none) (hp : L[j]? = some p) (ho : p.of a l) : BestR a l L (j + 1) (j : Int) := by
  unfold BestR
  rw [takeR_next hp, best_snoc]
  unfold bestS
  rw [if_pos ho, h]
  exact .inr ⟨j, p, by omega, rfl, hp, rfl⟩
theorem bestR_turn {a l : Int} {L : List Rt} {j : Nat} {p q : Rt} (h : bestR a l (L.take j) none = some q) (hp : L[j]? = some p) (ho : p.of a l) (hb : bet p q = true) : BestR a l L (j + 1) (j : Int) := by
  unfold BestR
  rw [takeR_next hp, best_snoc]
  unfold bestS
  rw [if_pos ho, h]
  simp only [hb, if_true]
  exact .inr ⟨j, p, by omega, rfl, hp, rfl⟩
theorem bestR_stay {a l : Int} {L : List Rt} {i j : Nat} {p q : Rt} (h : bestR a l (L.take j) none = some q) (hi : i < j) (hq : L[i]? = some q) (hp : L[j]? = some p) (ho : p.of a l) (hb : bet p q = false) : BestR a l L (j + 1) (i : Int) := by
  unfold BestR
  rw [takeR_next hp, best_snoc]
  unfold bestS
  rw [if_pos ho, h]
  simp only [hb, Bool.false_eq_true, if_false]
  exact .inr ⟨i, q, by omega, rfl, hq, rfl⟩
theorem bet_self (p : Rt) : bet p p = false := bet_false.2 (Rt.lt_irrefl p)
set_option maxHeartbeats 4000000 in
theorem refBest_any (N : Nat) (v : Value) (most : Int) (L : List Rt) (full a l : Int) (w : World) (h : RefB w N v most L full) (hL : L.length ≤ 1000) :
    Calls Try.prog 24 #[.pointer (some ⟨N, 0, none⟩), valP a l] w fun e w' => e = .returned (ansR (bestR a l L none)) ∧ Below w.heap.size w w' := by
  obtain ⟨ad, cap, rfl⟩ := h.own.shape
  obtain ⟨nn, hn⟩ : ∃ n, L.length = n := ⟨_, rfl⟩
  rw [hn] at h hL
  have HT : Hid (RefB w N (.slice ad nn cap) most L full) := h
  have HN : Hid (L.length = nn) := hn
  have HRow : Hid (RowR w ad nn L) := by unfold Hid; have := h.own; rw [hn] at this; exact this.row h.ok
  have hNw := h.lt
  clear h hn
  go_enter Try.func24, Try.ntmps24
  go_wp2
  go_loopw [6, 7] (fun r_ i_ W => ∃ (j : Nat) (r : Int), j ≤ nn ∧ i_ = .int .i64 j ∧ r_ = .int .i64 r ∧ Hid (BestR a l L j r) ∧ Below (w.heap.size + 2) ((w.alloc (objP a l)).alloc (objR 0 0 0 0 0 0 0)) W) (fun _ i_ _ => nn - (intOf i_).toNat)
  case atStart => exact ⟨0, -1, Nat.zero_le _, rfl, rfl, .inl ⟨rfl, rfl⟩, Below.refl _ _⟩
  case round =>
    obtain ⟨j, r, hj, rfl, rfl, HJ, hB⟩ := hrel
    have hB' : Below ((w.alloc (objP a l)).alloc (objR 0 0 0 0 0 0 0)).heap.size ((w.alloc (objP a l)).alloc (objR 0 0 0 0 0 0 0)) wr := by simpa using hB
    have HBw : Hid (Below w.heap.size w wr) := Below.out2 hB'
    have sB := hB.size
    have z1 := (HT.out.later HBw.out).2.1
    obtain ⟨x0, x1⟩ := newP w a l ((below1 _ _).trans (hB'.mono (by simp)))
    by_cases hlt : j < nn
    · have hlt' : (j : Int) < (nn : Int) := by omega
      obtain ⟨⟨pa, pl, pd, ps, pm, pn, pt⟩, b, off, he, hok, rfl, q3⟩ := HRow.out.at hlt
      obtain ⟨T, rfl⟩ : ∃ T : Nat, pt = (T : Int) := ⟨pt.toNat, by have := hok.t0; simp only at this; omega⟩
      have hT : T < 65536 := by have := hok.t1; simp only at this; omega
      have HE : Hid (L[j]? = some ⟨pa, pl, pd, ps, pm, pn, T⟩) := he
      have HQ3 : Hid (R7 w b (off + j * 7) ⟨pa, pl, pd, ps, pm, pn, T⟩) := q3
      obtain ⟨d0, d1, d2, d3, d4, d5, d6⟩ := q3.later HBw.out
      simp only at d0 d1 d2 d3 d4 d5 d6
      obtain ⟨u, hu⟩ : ∃ u, (!(pa == a && pl == l)) = u := ⟨_, rfl⟩
      have hp := run_neP pa pl a l u hu
      have HO : Hid (u = false ↔ (⟨pa, pl, pd, ps, pm, pn, T⟩ : Rt).of a l) := by unfold Hid Rt.of; rw [← hu]; simp
      clear he hok q3 hu
      cases u
      · have HOf := HO.out.1 rfl
        rcases HJ.out with ⟨hr, hfn⟩ | ⟨i, q, hij, hr, hqi, hfs⟩
        · subst hr
          have HJ' : Hid (BestR a l L (j + 1) (j : Int)) := bestR_first hfn HE.out HOf
          clear hfn HOf HO
          go_wp2
          go_quiet (fail)
          go_wp2
          have hB4 : Below (w.heap.size + 2) ((w.alloc (objP a l)).alloc (objR 0 0 0 0 0 0 0)) (wr.drewN nq) := below_drewN hB _
          generalize wr.drewN nq = W4 at hB4 ⊢
          have HB4 : Hid (Below w.heap.size w W4) := Below.out2 (by simpa using hB4)
          have sB4 := hB4.size
          clear z1 x0 x1 d0 d1 d2 d3 d4 d5 d6 hB hB' HBw sB
          have z1 := (HT.out.later HB4.out).2.1
          obtain ⟨d0, d1, d2, d3, d4, d5, d6⟩ := HQ3.out.later HB4.out
          simp only at d0 d1 d2 d3 d4 d5 d6
          go_region_held3 (fun w' => w'.cell? ⟨N, 1, none⟩ = some (.slice (some ⟨b, off, none⟩) nn cap) ∧ w'.cell? ⟨b, off + j * 7, none⟩ = some (.int .u32 pa) ∧ w'.cell? ⟨b, off + j * 7 + 1, none⟩ = some (.int .i64 pl) ∧ w'.cell? ⟨b, off + j * 7 + 2, none⟩ = some (.int .i64 pd) ∧ w'.cell? ⟨b, off + j * 7 + 3, none⟩ = some (.int .i64 ps) ∧ w'.cell? ⟨b, off + j * 7 + 4, none⟩ = some (.int .i64 pm) ∧ w'.cell? ⟨b, off + j * 7 + 5, none⟩ = some (.int .i64 pn) ∧ w'.cell? ⟨b, off + j * 7 + 6, none⟩ = some (.int .u16 (T : Int)) ) (first | exact ⟨z1, d0, d1, d2, d3, d4, d5, d6⟩ | exact ⟨v0, v1, v2, v3, v4, v5, v6, v7⟩)
            ((go_at_call 14; refine (refBetter_any pa pl pd ps pm pn pa pl pd ps pm pn T T _ hT hT (bet_self _)).mono ?_; rintro e W3 ⟨rfl, hb3⟩; have hb3 : Below W4.heap.size W4 W3 := ((Below.refl _ _).drew).trans hb3; have v0 := cell_later hb3 z1; have v1 := cell_later hb3 d0; have v2 := cell_later hb3 d1; have v3 := cell_later hb3 d2; have v4 := cell_later hb3 d3; have v5 := cell_later hb3 d4; have v6 := cell_later hb3 d5; have v7 := cell_later hb3 d6))
          have hB3 : Below (w.heap.size + 2) ((w.alloc (objP a l)).alloc (objR 0 0 0 0 0 0 0)) W3 := hB4.trans (hb3.mono (by simp at sB4; omega))
          go_wp2
          go_roundw
          case rel => exact ⟨j + 1, j, by omega, by go_num, rfl, HJ', hB3⟩
          case measure => simp [intOf]; omega
        · subst hr
          obtain ⟨qa, ql, qd, qs, qm, qn, qt⟩ := q
          have hin : i < nn := by omega
          obtain ⟨q', b', off', hq', hok', e', q3'⟩ := HRow.out.at hin
          rw [hqi] at hq'
          simp only [Option.some.injEq] at hq' e'
          subst hq'
          obtain ⟨rfl, rfl⟩ : b = b' ∧ off = off' := by simp only [Addr.mk.injEq, and_true] at e'; exact e'
          obtain ⟨U, rfl⟩ : ∃ U : Nat, qt = (U : Int) := ⟨qt.toNat, by have := hok'.t0; simp only at this; omega⟩
          have hU : U < 65536 := by have := hok'.t1; simp only at this; omega
          have HQ4 : Hid (R7 w b (off + i * 7) ⟨qa, ql, qd, qs, qm, qn, U⟩) := q3'
          have hi' : (i : Int) < (nn : Int) := by omega
          have hi0 : ¬ (i : Int) < 0 := by omega
          obtain ⟨u2, hu2⟩ : ∃ u, bet ⟨pa, pl, pd, ps, pm, pn, T⟩ ⟨qa, ql, qd, qs, qm, qn, U⟩ = u := ⟨_, rfl⟩
          have HBt : Hid (bet ⟨pa, pl, pd, ps, pm, pn, T⟩ ⟨qa, ql, qd, qs, qm, qn, U⟩ = u2) := hu2
          have HJa : Hid (u2 = true → BestR a l L (j + 1) (j : Int)) := fun hk => bestR_turn hfs HE.out HOf (HBt.out.trans hk)
          have HJb : Hid (u2 = false → BestR a l L (j + 1) (i : Int)) := fun hk => bestR_stay hfs hij hqi HE.out HOf (HBt.out.trans hk)
          clear hfs HOf HO hqi hok' q3' e' hu2
          cases u2
          · have HJ' : Hid (BestR a l L (j + 1) (i : Int)) := HJb.out rfl
            clear HJa HJb
            go_wp2
            go_quiet (fail)
            go_wp2
            have hB4 : Below (w.heap.size + 2) ((w.alloc (objP a l)).alloc (objR 0 0 0 0 0 0 0)) (wr.drewN nq) := below_drewN hB _
            generalize wr.drewN nq = W4 at hB4 ⊢
            have HB4 : Hid (Below w.heap.size w W4) := Below.out2 (by simpa using hB4)
            have sB4 := hB4.size
            clear z1 x0 x1 d0 d1 d2 d3 d4 d5 d6 hB hB' HBw sB
            have z1 := (HT.out.later HB4.out).2.1
            obtain ⟨d0, d1, d2, d3, d4, d5, d6⟩ := HQ3.out.later HB4.out
            simp only at d0 d1 d2 d3 d4 d5 d6
            obtain ⟨e0, e1, e2, e3, e4, e5, e6⟩ := HQ4.out.later HB4.out
            simp only at e0 e1 e2 e3 e4 e5 e6
            go_region_held3 (fun w' => w'.cell? ⟨N, 1, none⟩ = some (.slice (some ⟨b, off, none⟩) nn cap) ∧ w'.cell? ⟨b, off + j * 7, none⟩ = some (.int .u32 pa) ∧ w'.cell? ⟨b, off + j * 7 + 1, none⟩ = some (.int .i64 pl) ∧ w'.cell? ⟨b, off + j * 7 + 2, none⟩ = some (.int .i64 pd) ∧ w'.cell? ⟨b, off + j * 7 + 3, none⟩ = some (.int .i64 ps) ∧ w'.cell? ⟨b, off + j * 7 + 4, none⟩ = some (.int .i64 pm) ∧ w'.cell? ⟨b, off + j * 7 + 5, none⟩ = some (.int .i64 pn) ∧ w'.cell? ⟨b, off + j * 7 + 6, none⟩ = some (.int .u16 (T : Int)) ∧ w'.cell? ⟨b, off + i * 7, none⟩ = some (.int .u32 qa) ∧ w'.cell? ⟨b, off + i * 7 + 1, none⟩ = some (.int .i64 ql) ∧ w'.cell? ⟨b, off + i * 7 + 2, none⟩ = some (.int .i64 qd) ∧ w'.cell? ⟨b, off + i * 7 + 3, none⟩ = some (.int .i64 qs) ∧ w'.cell? ⟨b, off + i * 7 + 4, none⟩ = some (.int .i64 qm) ∧ w'.cell? ⟨b, off + i * 7 + 5, none⟩ = some (.int .i64 qn) ∧ w'.cell? ⟨b, off + i * 7 + 6, none⟩ = some (.int .u16 (U : Int))) (first | exact ⟨z1, d0, d1, d2, d3, d4, d5, d6, e0, e1, e2, e3, e4, e5, e6⟩ | exact ⟨v0, v1, v2, v3, v4, v5, v6, v7, v8, v9, v10, v11, v12, v13, v14⟩)
              ((go_at_call 14; refine (refBetter_any pa pl pd ps pm pn qa ql qd qs qm qn T U _ hT hU HBt.out).mono ?_; rintro e W3 ⟨rfl, hb3⟩; have hb3 : Below W4.heap.size W4 W3 := ((Below.refl _ _).drew).trans hb3; have v0 := cell_later hb3 z1; have v1 := cell_later hb3 d0; have v2 := cell_later hb3 d1; have v3 := cell_later hb3 d2; have v4 := cell_later hb3 d3; have v5 := cell_later hb3 d4; have v6 := cell_later hb3 d5; have v7 := cell_later hb3 d6; have v8 := cell_later hb3 e0; have v9 := cell_later hb3 e1; have v10 := cell_later hb3 e2; have v11 := cell_later hb3 e3; have v12 := cell_later hb3 e4; have v13 := cell_later hb3 e5; have v14 := cell_later hb3 e6))
            have hB3 : Below (w.heap.size + 2) ((w.alloc (objP a l)).alloc (objR 0 0 0 0 0 0 0)) W3 := hB4.trans (hb3.mono (by simp at sB4; omega))
            go_wp2
            go_roundw
            case rel => exact ⟨j + 1, i, by omega, by go_num, rfl, HJ', hB3⟩
            case measure => simp [intOf]; omega
          · have HJ' : Hid (BestR a l L (j + 1) (j : Int)) := HJa.out rfl
            clear HJa HJb
            go_wp2
            go_quiet (fail)
            go_wp2
            have hB4 : Below (w.heap.size + 2) ((w.alloc (objP a l)).alloc (objR 0 0 0 0 0 0 0)) (wr.drewN nq) := below_drewN hB _
            generalize wr.drewN nq = W4 at hB4 ⊢
            have HB4 : Hid (Below w.heap.size w W4) := Below.out2 (by simpa using hB4)
            have sB4 := hB4.size
            clear z1 x0 x1 d0 d1 d2 d3 d4 d5 d6 hB hB' HBw sB
            have z1 := (HT.out.later HB4.out).2.1
            obtain ⟨d0, d1, d2, d3, d4, d5, d6⟩ := HQ3.out.later HB4.out
            simp only at d0 d1 d2 d3 d4 d5 d6
            obtain ⟨e0, e1, e2, e3, e4, e5, e6⟩ := HQ4.out.later HB4.out
            simp only at e0 e1 e2 e3 e4 e5 e6
            go_region_held3 (fun w' => w'.cell? ⟨N, 1, none⟩ = some (.slice (some ⟨b, off, none⟩) nn cap) ∧ w'.cell? ⟨b, off + j * 7, none⟩ = some (.int .u32 pa) ∧ w'.cell? ⟨b, off + j * 7 + 1, none⟩ = some (.int .i64 pl) ∧ w'.cell? ⟨b, off + j * 7 + 2, none⟩ = some (.int .i64 pd) ∧ w'.cell? ⟨b, off + j * 7 + 3, none⟩ = some (.int .i64 ps) ∧ w'.cell? ⟨b, off + j * 7 + 4, none⟩ = some (.int .i64 pm) ∧ w'.cell? ⟨b, off + j * 7 + 5, none⟩ = some (.int .i64 pn) ∧ w'.cell? ⟨b, off + j * 7 + 6, none⟩ = some (.int .u16 (T : Int)) ∧ w'.cell? ⟨b, off + i * 7, none⟩ = some (.int .u32 qa) ∧ w'.cell? ⟨b, off + i * 7 + 1, none⟩ = some (.int .i64 ql) ∧ w'.cell? ⟨b, off + i * 7 + 2, none⟩ = some (.int .i64 qd) ∧ w'.cell? ⟨b, off + i * 7 + 3, none⟩ = some (.int .i64 qs) ∧ w'.cell? ⟨b, off + i * 7 + 4, none⟩ = some (.int .i64 qm) ∧ w'.cell? ⟨b, off + i * 7 + 5, none⟩ = some (.int .i64 qn) ∧ w'.cell? ⟨b, off + i * 7 + 6, none⟩ = some (.int .u16 (U : Int))) (first | exact ⟨z1, d0, d1, d2, d3, d4, d5, d6, e0, e1, e2, e3, e4, e5, e6⟩ | exact ⟨v0, v1, v2, v3, v4, v5, v6, v7, v8, v9, v10, v11, v12, v13, v14⟩)
              ((go_at_call 14; refine (refBetter_any pa pl pd ps pm pn qa ql qd qs qm qn T U _ hT hU HBt.out).mono ?_; rintro e W3 ⟨rfl, hb3⟩; have hb3 : Below W4.heap.size W4 W3 := ((Below.refl _ _).drew).trans hb3; have v0 := cell_later hb3 z1; have v1 := cell_later hb3 d0; have v2 := cell_later hb3 d1; have v3 := cell_later hb3 d2; have v4 := cell_later hb3 d3; have v5 := cell_later hb3 d4; have v6 := cell_later hb3 d5; have v7 := cell_later hb3 d6; have v8 := cell_later hb3 e0; have v9 := cell_later hb3 e1; have v10 := cell_later hb3 e2; have v11 := cell_later hb3 e3; have v12 := cell_later hb3 e4; have v13 := cell_later hb3 e5; have v14 := cell_later hb3 e6))
            have hB3 : Below (w.heap.size + 2) ((w.alloc (objP a l)).alloc (objR 0 0 0 0 0 0 0)) W3 := hB4.trans (hb3.mono (by simp at sB4; omega))
            go_wp2
            go_roundw
            case rel => exact ⟨j + 1, j, by omega, by go_num, rfl, HJ', hB3⟩
            case measure => simp [intOf]; omega
      · have HJ' : Hid (BestR a l L (j + 1) r) := bestR_skip HJ.out HE.out (fun hk => by have := HO.out.2 hk; cases this)
        clear HO
        go_wp2
        go_quiet (fail)
        go_wp2
        go_roundw
        case rel => exact ⟨j + 1, r, by omega, by go_num, rfl, HJ', below_drewN hB _⟩
        case measure => simp [intOf]; omega
    · have hlt' : ¬ (j : Int) < (nn : Int) := by omega
      obtain rfl : j = nn := by omega
      have hfz : ∀ o, wr.frozen? ⟨w.heap.size + 1, o, none⟩ = false := fun o => (hB.frozen (p := ⟨w.heap.size + 1, o, none⟩) (by exact Nat.lt_succ_self _)).trans (by simp [go_sem])
      obtain ⟨y0, y1, y2, y3, y4, y5, y6⟩ := ((R7.newAt (w.alloc (objP a l)) (w.heap.size + 1) (by simp) 0 0 0 0 0 0 0).later hB').z
      rcases HJ.out with ⟨hr, hfn⟩ | ⟨i, q, hij, hr, hqi, hfs⟩
      · subst hr
        rw [show L.take j = L by rw [← HN.out]; exact List.take_length] at hfn
        have HF : Hid (ansR (bestR a l L none) = .tuple #[valR 0 0 0 0 0 0 0, .bool false]) := by unfold Hid; rw [hfn]; rfl
        clear hfn
        go_wp2
        refine bodyPost_ret (v := .tuple #[valR 0 0 0 0 0 0 0, .bool false]) (by simp [results, Try.results24, go_sem, y0, y1, y2, y3, y4, y5, y6]) rfl ⟨?_, ?_⟩
        · rw [HF.out]
        · exact set7_below (b := w.heap.size + 1) (o := 0) HBw.out (Nat.le_succ _)
      · subst hr
        rw [show L.take j = L by rw [← HN.out]; exact List.take_length] at hfs
        obtain ⟨qa, ql, qd, qs, qm, qn, qt⟩ := q
        have HF : Hid (ansR (bestR a l L none) = .tuple #[valR qa ql qd qs qm qn qt, .bool true]) := by unfold Hid; rw [hfs]; rfl
        obtain ⟨q', b, off, hq', -, rfl, q3⟩ := HRow.out.at hij
        rw [hqi] at hq'
        simp only [Option.some.injEq] at hq'
        subst hq'
        have hbw : b < w.heap.size := block_lt_of_cell q3.1
        obtain ⟨d0, d1, d2, d3, d4, d5, d6⟩ := q3.later HBw.out
        simp only at d0 d1 d2 d3 d4 d5 d6
        have hi' : (i : Int) < (j : Int) := by omega
        have hi0 : ¬ (i : Int) < 0 := by omega
        clear hfs hqi q3
        go_wp2
        refine bodyPost_ret (v := .tuple #[valR qa ql qd qs qm qn qt, .bool true]) (by simp [results, Try.results24, go_sem, y0, y1, y2, y3, y4, y5, y6]) rfl ⟨?_, ?_⟩
        · rw [HF.out]
        · exact set7_below (b := w.heap.size + 1) (o := 0) HBw.out (Nat.le_succ _)
end Go.Proofs.Ytcabeclbdjfoaaa
