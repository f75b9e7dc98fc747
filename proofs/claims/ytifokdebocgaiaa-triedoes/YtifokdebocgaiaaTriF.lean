/- The contract of the document's Find. -/
import Derived.Test.YtifokdebocgaiaaTriP
namespace Go.Proofs.Ytifokdebocgaiaa
open Go.RowKit

/-- What Find answers. -/
def fndA (x : Int) (L : List Pr) : Int := ((findP x L none).map Pr.a).getD 0
def fndL (x : Int) (L : List Pr) : Int := ((findP x L none).map Pr.l).getD 0
def fndN (x : Int) (L : List Pr) : Int := ((findP x L none).map Pr.n).getD 0
def fndB (x : Int) (L : List Pr) : Bool := (findP x L none).isSome
theorem find_snoc (x : Int) (p : Pr) : ∀ (A : List Pr) (b : Option Pr), findP x (A ++ [p]) b = if better x p (findP x A b) = true then some p else findP x A b
  | [], b => rfl
  | q :: A, b => by rw [List.cons_append, findP, find_snoc x p A, findP]
theorem takeP_next {L : List Pr} {j : Nat} {p : Pr} (h : L[j]? = some p) : L.take (j + 1) = L.take j ++ [p] := by rw [List.take_add_one, h]; rfl
/-- The best so far. -/
def BestAt (x : Int) (L : List Pr) (j : Nat) (r : Int) : Prop := (r = -1 ∧ findP x (L.take j) none = none) ∨ ∃ (i : Nat) (p : Pr), i < j ∧ r = (i : Int) ∧ L[i]? = some p ∧ findP x (L.take j) none = some p
theorem best_keep {x : Int} {L : List Pr} {j : Nat} {r : Int} {p : Pr} (h : BestAt x L j r) (hp : L[j]? = some p) (hb : better x p (findP x (L.take j) none) = false) : BestAt x L (j + 1) r := by
  unfold BestAt
  rw [takeP_next hp, find_snoc, hb]
  simp only [Bool.false_eq_true, if_false]
  rcases h with h | ⟨i, q, h1, h2, h3, h4⟩
  · exact .inl h
  · exact .inr ⟨i, q, by omega, h2, h3, h4⟩
theorem best_turn {x : Int} {L : List Pr} {j : Nat} {p : Pr} (hp : L[j]? = some p) (hb : better x p (findP x (L.take j) none) = true) : BestAt x L (j + 1) (j : Int) := by
  unfold BestAt
  rw [takeP_next hp, find_snoc, hb]
  simp only [if_true]
  exact .inr ⟨j, p, by omega, rfl, hp, rfl⟩
set_option maxHeartbeats 2000000 in
theorem refFind_any (N : Nat) (v : Value) (most : Int) (L : List Pr) (x : Int) (w : World) (h : RefT w N v most L) (hL : L.length ≤ 1000) (x0 : 0 ≤ x) (x1 : x < 4294967296) :
    Calls Try.prog 18 #[.pointer (some ⟨N, 0, none⟩), .int .u32 x] w fun e w' => e = .returned (.tuple #[valX (fndA x L) (fndL x L), .int .i64 (fndN x L), .bool (fndB x L)]) ∧ Below w.heap.size w w' := by
  obtain ⟨ad, cap, rfl⟩ := h.2.2.2.1.shape
  obtain ⟨n, hn⟩ : ∃ n, L.length = n := ⟨_, rfl⟩
  rw [hn] at h hL
  have HT : Hid (RefT w N (.slice ad n cap) most L) := h
  have HN : Hid (L.length = n) := hn
  have HRow : Hid (RowQ w ad n L) := by unfold Hid; have := h.2.2.2.1; rw [hn] at this; exact this.row h.2.2.2.2.1
  have hNw := h.2.2.2.2.2
  clear h hn
  go_enter Try.func18, Try.ntmps18
  go_wp2
  go_loopw [7, 8] (fun r_ i_ W => ∃ (j : Nat) (r : Int), j ≤ n ∧ i_ = .int .i64 j ∧ r_ = .int .i64 r ∧ Hid (BestAt x L j r) ∧ Below (w.heap.size + 1) (w.alloc (objX 0 0)) W) (fun _ i_ _ => n - (intOf i_).toNat)
  case atStart => exact ⟨0, -1, Nat.zero_le _, rfl, rfl, .inl ⟨rfl, rfl⟩, Below.refl _ _⟩
  case round =>
    obtain ⟨j, r, hj, rfl, rfl, HJ, hB⟩ := hrel
    have hB' : Below (w.alloc (objX 0 0)).heap.size (w.alloc (objX 0 0)) wr := by simpa using hB
    have HBw : Hid (Below w.heap.size w wr) := out8 hB
    have sB := hB.size
    have z1 := (HT.out.later HBw.out).2.1
    by_cases hlt : j < n
    · have hlt' : (j : Int) < (n : Int) := by omega
      obtain ⟨⟨pa, pl, pn⟩, b, off, he, hok, rfl, q3⟩ := HRow.out.at hlt
      have HE : Hid (L[j]? = some ⟨pa, pl, pn⟩) := he
      have HQ3 : Hid (Q3 w b (off + j * 3) ⟨pa, pl, pn⟩) := q3
      have pa0 : 0 ≤ pa := hok.a0
      have pa1 : pa < 4294967296 := hok.a1
      have pl0 : -9223372036854775808 ≤ pl := hok.l0
      have pl1 : pl ≤ 9223372036854775807 := hok.l1
      obtain ⟨d0, d1, -⟩ := q3.later HBw.out
      simp only at d0 d1
      obtain ⟨u, hu⟩ : ∃ u, hasB pa pl x = u := ⟨_, rfl⟩
      have HU : Hid (hasB pa pl x = u) := hu
      obtain ⟨bb, hbb⟩ : ∃ bb, findP x (L.take j) none = bb := ⟨_, rfl⟩
      have HBB : Hid (findP x (L.take j) none = bb) := hbb
      clear he hok q3
      cases u
      · have HJ' : Hid (BestAt x L (j + 1) r) := best_keep HJ.out HE.out (by unfold better; simp only; rw [hu]; rfl)
        clear hu hbb
        go_wp2_with (go_at_call 33; refine (refHas_any _ _ _ _ pa0 pa1 x0 x1 pl0 pl1 HU.out).mono ?_; rintro e W1 ⟨rfl, hb1⟩; have hB1 := hB.trans (hb1.mono (by simp at sB; omega)); have z1 := (HT.out.later (out8 hB1)).2.1; obtain ⟨d0, d1, -⟩ := HQ3.out.later (out8 hB1); simp only at d0 d1)
        go_quiet (fail)
        go_wp2
        go_roundw
        case rel => exact ⟨j + 1, r, by omega, by go_num, rfl, HJ', below_drewN hB1 _⟩
        case measure => simp [intOf]; omega
      · rcases HJ.out with ⟨hr, hfn⟩ | ⟨i, q, hij, hr, hqi, hfs⟩
        · subst hr
          have HJ' : Hid (BestAt x L (j + 1) (j : Int)) := best_turn HE.out (by unfold better; rw [hfn]; simp only; rw [hu]; rfl)
          clear hu hbb hfn
          go_wp2_with (go_at_call 33; refine (refHas_any _ _ _ _ pa0 pa1 x0 x1 pl0 pl1 HU.out).mono ?_; rintro e W1 ⟨rfl, hb1⟩; have hB1 := hB.trans (hb1.mono (by simp at sB; omega)); have z1 := (HT.out.later (out8 hB1)).2.1; obtain ⟨d0, d1, -⟩ := HQ3.out.later (out8 hB1); simp only at d0 d1)
          go_quiet (fail)
          go_wp2
          go_roundw
          case rel => exact ⟨j + 1, j, by omega, by go_num, rfl, HJ', below_drewN hB1 _⟩
          case measure => simp [intOf]; omega
        · subst hr
          obtain ⟨qa, ql, qn⟩ := q
          have hin : i < n := by omega
          obtain ⟨q', b', off', hq', -, e', q3'⟩ := HRow.out.at hin
          rw [hqi] at hq'
          simp only [Option.some.injEq] at hq' e'
          subst hq'
          obtain ⟨rfl, rfl⟩ : b = b' ∧ off = off' := by simp only [Addr.mk.injEq, and_true] at e'; exact e'
          have HQ3' : Hid (Q3 w b (off + i * 3) ⟨qa, ql, qn⟩) := q3'
          have hi' : (i : Int) < (n : Int) := by omega
          have hi0 : ¬ (i : Int) < 0 := by omega
          cases hlb : decide (ql < pl)
          · have HJ' : Hid (BestAt x L (j + 1) (i : Int)) := best_keep HJ.out HE.out (by unfold better; rw [hfs]; simp only; rw [hu, hlb]; rfl)
            have hlb' : ¬ ql < pl := by simpa using hlb
            clear hu hbb hfs hlb q3' hqi e'
            go_wp2_with (go_at_call 33; refine (refHas_any _ _ _ _ pa0 pa1 x0 x1 pl0 pl1 HU.out).mono ?_; rintro e W1 ⟨rfl, hb1⟩; have hB1 := hB.trans (hb1.mono (by simp at sB; omega)); have z1 := (HT.out.later (out8 hB1)).2.1; obtain ⟨d0, d1, -⟩ := HQ3.out.later (out8 hB1); simp only at d0 d1; obtain ⟨f0, f1, -⟩ := HQ3'.out.later (out8 hB1); simp only at f0 f1)
            go_quiet (fail)
            go_wp2
            go_roundw
            case rel => exact ⟨j + 1, i, by omega, by go_num, rfl, HJ', below_drewN hB1 _⟩
            case measure => simp [intOf]; omega
          · have HJ' : Hid (BestAt x L (j + 1) (j : Int)) := best_turn HE.out (by unfold better; rw [hfs]; simp only; rw [hu, hlb]; rfl)
            have hlb' : ql < pl := by simpa using hlb
            clear hu hbb hfs hlb q3' hqi e'
            go_wp2_with (go_at_call 33; refine (refHas_any _ _ _ _ pa0 pa1 x0 x1 pl0 pl1 HU.out).mono ?_; rintro e W1 ⟨rfl, hb1⟩; have hB1 := hB.trans (hb1.mono (by simp at sB; omega)); have z1 := (HT.out.later (out8 hB1)).2.1; obtain ⟨d0, d1, -⟩ := HQ3.out.later (out8 hB1); simp only at d0 d1; obtain ⟨f0, f1, -⟩ := HQ3'.out.later (out8 hB1); simp only at f0 f1)
            go_quiet (fail)
            go_wp2
            go_roundw
            case rel => exact ⟨j + 1, j, by omega, by go_num, rfl, HJ', below_drewN hB1 _⟩
            case measure => simp [intOf]; omega
    · have hlt' : ¬ (j : Int) < (n : Int) := by omega
      obtain rfl : j = n := by omega
      have hfz : ∀ o, wr.frozen? ⟨w.heap.size, o, none⟩ = false := fun o => (hB.frozen (p := ⟨w.heap.size, o, none⟩) (by exact Nat.lt_succ_self _)).trans (by simp [go_sem])
      obtain ⟨y0, y1⟩ := ((X2.new w 0 0).later hB').z
      rcases HJ.out with ⟨hr, hfn⟩ | ⟨i, q, hij, hr, hqi, hfs⟩
      · subst hr
        rw [show L.take j = L by rw [← HN.out]; exact List.take_length] at hfn
        have HF : Hid (fndA x L = 0 ∧ fndL x L = 0 ∧ fndN x L = 0 ∧ fndB x L = false) := by unfold Hid fndA fndL fndN fndB; rw [hfn]; simp
        clear hfn
        go_wp2
        refine bodyPost_ret (v := .tuple #[valX 0 0, .int .i64 0, .bool false]) (by simp [results, Try.results18, go_sem, y0, y1]) rfl ⟨?_, (HBw.out.setCell (p := ⟨w.heap.size, 0, none⟩) (Nat.le_refl _) _).setCell (p := ⟨w.heap.size, 1, none⟩) (Nat.le_refl _) _⟩
        rw [HF.out.1, HF.out.2.1, HF.out.2.2.1, HF.out.2.2.2]
      · subst hr
        rw [show L.take j = L by rw [← HN.out]; exact List.take_length] at hfs
        obtain ⟨qa, ql, qn⟩ := q
        have HF : Hid (fndA x L = qa ∧ fndL x L = ql ∧ fndN x L = qn ∧ fndB x L = true) := by unfold Hid fndA fndL fndN fndB; rw [hfs]; simp
        obtain ⟨q', b, off, hq', -, rfl, q3⟩ := HRow.out.at hij
        rw [hqi] at hq'
        simp only [Option.some.injEq] at hq'
        subst hq'
        have hbw : b < w.heap.size := block_lt_of_cell q3.1
        have b1 : b ≠ w.heap.size := by omega
        have b2 : w.heap.size ≠ b := by omega
        have n1 : N ≠ w.heap.size := by omega
        have n2 : w.heap.size ≠ N := by omega
        obtain ⟨d0, d1, d2⟩ := q3.later HBw.out
        simp only at d0 d1 d2
        have hi' : (i : Int) < (j : Int) := by omega
        have hi0 : ¬ (i : Int) < 0 := by omega
        have kp : ∀ u0 u1, ((wr.setCell ⟨w.heap.size, 0, none⟩ u0).setCell ⟨w.heap.size, 1, none⟩ u1).cell? ⟨N, 1, none⟩ = some (.slice (some ⟨b, off, none⟩) j cap) ∧ ((wr.setCell ⟨w.heap.size, 0, none⟩ u0).setCell ⟨w.heap.size, 1, none⟩ u1).cell? ⟨b, off + i * 3, none⟩ = some (.int .u32 qa) ∧ ((wr.setCell ⟨w.heap.size, 0, none⟩ u0).setCell ⟨w.heap.size, 1, none⟩ u1).cell? ⟨b, off + i * 3 + 1, none⟩ = some (.int .i64 ql) ∧ ((wr.setCell ⟨w.heap.size, 0, none⟩ u0).setCell ⟨w.heap.size, 1, none⟩ u1).cell? ⟨b, off + i * 3 + 2, none⟩ = some (.int .i64 qn) := fun u0 u1 => by
          refine ⟨?_, ?_, ?_, ?_⟩ <;> rw [World.cell?_setCell_other _ _ _ _ (by simp <;> omega), World.cell?_setCell_other _ _ _ _ (by simp <;> omega)] <;> assumption
        clear hfs hqi q3
        go_wp2
        go_region_held3 (fun w' => w'.cell? ⟨N, 1, none⟩ = some (.slice (some ⟨b, off, none⟩) j cap) ∧ w'.cell? ⟨b, off + i * 3, none⟩ = some (.int .u32 qa) ∧ w'.cell? ⟨b, off + i * 3 + 1, none⟩ = some (.int .i64 ql) ∧ w'.cell? ⟨b, off + i * 3 + 2, none⟩ = some (.int .i64 qn)) (first | exact ⟨z1, d0, d1, d2⟩ | exact kp _ _) (fail)
        all_goals
          go_wp2
          refine bodyPost_ret (v := .tuple #[valX qa ql, .int .i64 qn, .bool true]) (by simp [results, Try.results18, go_sem, y0, y1]) rfl ⟨?_, ((HBw.out.setCell (p := ⟨w.heap.size, 0, none⟩) (Nat.le_refl _) _).setCell (p := ⟨w.heap.size, 1, none⟩) (Nat.le_refl _) _).drew⟩
          rw [HF.out.1, HF.out.2.1, HF.out.2.2.1, HF.out.2.2.2]
end Go.Proofs.Ytifokdebocgaiaa
