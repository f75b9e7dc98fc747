/- The document's rib in memory; the contracts of its at and Take. -/
import Derived.Test.YtcabeclbdjfoaaaRibB
import Derived.Test.YtcabeclbdjfoaaaKeepA
namespace Go.Proofs.Ytcabeclbdjfoaaa
open Go.RowKit

/-- The document's table in block N: how many there may be, a row of its own, how many there was no room for. -/
def RefB (W : World) (N : Nat) (v : Value) (most : Int) (L : List Rt) (full : Int) : Prop :=
  W.cell? ⟨N, 0, none⟩ = some (.int .i64 most) ∧ W.cell? ⟨N, 1, none⟩ = some v ∧ W.cell? ⟨N, 2, none⟩ = some (.int .i64 full) ∧ (∀ o, W.frozen? ⟨N, o, none⟩ = false) ∧ OwnR W (N + 1) v L.length L ∧ Rts L ∧ N < W.heap.size
/-- The blocks that are its own. -/
def fpB (N : Nat) (v : Value) (k : Nat) : Prop := k = N ∨ v.ownBlock = some k
theorem OwnR.same {W W' : World} {base : Nat} {v : Value} {n : Nat} {L : List Rt} (h : OwnR W base v n L) (hb : ∀ g, v.ownBlock = some g → W'.heap[g]? = W.heap[g]?) : OwnR W' base v n L := by
  refine ⟨h.1, ?_⟩
  rcases h.2 with hn | ⟨g, cap, cur, hv, hbg, hg, r⟩
  · exact .inl hn
  · refine .inr ⟨g, cap, cur, hv, hbg, ?_, r⟩
    rw [hb g (by rw [hv]; rfl)]
    exact hg
theorem OwnR.own_lt {W : World} {base : Nat} {v : Value} {n : Nat} {L : List Rt} (h : OwnR W base v n L) {g : Nat} (hg : v.ownBlock = some g) : g < W.heap.size := by
  rcases h.2 with ⟨rfl, _⟩ | ⟨g', cap, cur, hv, hbg, hg', r⟩
  · cases hg
  · rw [hv] at hg
    simp [Value.ownBlock] at hg
    subst hg
    exact (Array.getElem?_eq_some_iff.1 hg').1
theorem OwnR.base {w : World} {b b' : Nat} {v : Value} {n : Nat} {L : List Rt} (h : OwnR w b v n L) (hb : b' ≤ b) : OwnR w b' v n L := by
  refine ⟨h.1, ?_⟩
  rcases h.2 with hn | ⟨g, cap, cur, hv, hbg, r⟩
  · exact .inl hn
  · exact .inr ⟨g, cap, cur, hv, Nat.le_trans hb hbg, r⟩
theorem RefB.keep {W W' : World} {N : Nat} {v : Value} {most : Int} {L : List Rt} {full : Int} (h : RefB W N v most L full) {B : Nat → Prop} (hk : Keep B W W') (hd : ∀ k, fpB N v k → ¬ B k) : RefB W' N v most L full := by
  obtain ⟨h0, h1, h1', h2, h3, h4, h5⟩ := h
  have hN := hd N (.inl rfl)
  exact ⟨(hk.cell (p := ⟨N, 0, none⟩) h5 hN).trans h0, (hk.cell (p := ⟨N, 1, none⟩) h5 hN).trans h1, (hk.cell (p := ⟨N, 2, none⟩) h5 hN).trans h1', fun o => (hk.frozen (p := ⟨N, o, none⟩) h5 hN).trans (h2 o), h3.same fun g hg => hk.block g (h3.own_lt hg) (hd g (.inr hg)), h4, Nat.lt_of_lt_of_le h5 hk.size⟩
theorem RefB.later {W W' : World} {N : Nat} {v : Value} {most : Int} {L : List Rt} {full : Int} (h : RefB W N v most L full) (hk : Below W.heap.size W W') : RefB W' N v most L full := h.keep (B := fun _ => False) (keep_of hk) (fun _ _ h => h)
theorem RefB.own {W : World} {N : Nat} {v : Value} {most : Int} {L : List Rt} {full : Int} (h : RefB W N v most L full) : OwnR W (N + 1) v L.length L := h.2.2.2.2.1
theorem RefB.ok {W : World} {N : Nat} {v : Value} {most : Int} {L : List Rt} {full : Int} (h : RefB W N v most L full) : Rts L := h.2.2.2.2.2.1
theorem RefB.lt {W : World} {N : Nat} {v : Value} {most : Int} {L : List Rt} {full : Int} (h : RefB W N v most L full) : N < W.heap.size := h.2.2.2.2.2.2
theorem out9 {w W : World} {o : Obj} (h : Below (w.heap.size + 1) (w.alloc o) W) : Below w.heap.size w W := (below1 w o).trans (h.mono (by omega))
abbrev objP (a l : Int) : Obj := .cells #[.int .u32 a, .int .i64 l] 24
abbrev valP (a l : Int) : Value := .agg #[.int .u32 a, .int .i64 l]
theorem newP (w : World) (a l : Int) {W : World} (hb : Below (w.alloc (objP a l)).heap.size (w.alloc (objP a l)) W) : W.cell? ⟨w.heap.size, 0, none⟩ = some (.int .u32 a) ∧ W.cell? ⟨w.heap.size, 1, none⟩ = some (.int .i64 l) :=
  ⟨cell_later hb (by simp [go_sem]), cell_later hb (by simp [go_sem])⟩
def atR (k : Ky) (L : List Rt) : Int := match rAt k L with
  | some i => (i : Int)
  | none => -1
theorem atR_some {k : Ky} {L : List Rt} {i : Nat} (h : rAt k L = some i) : atR k L = (i : Int) := by unfold atR; rw [h]
theorem atR_none {k : Ky} {L : List Rt} (h : rAt k L = none) : atR k L = -1 := by unfold atR; rw [h]
theorem rAt_first {k : Ky} : ∀ {L : List Rt} {j : Nat} {p : Rt}, (∀ i, i < j → ∀ q, L[i]? = some q → q.k ≠ k) → L[j]? = some p → p.k = k → rAt k L = some j
  | [], j, p, _, h, _ => by simp at h
  | x :: L, 0, p, _, h, hp => by simp at h; subst h; rw [rAt, if_pos hp]
  | x :: L, j + 1, p, hn, h, hp => by
    have hx := hn 0 (by omega) x rfl
    rw [rAt, if_neg hx, rAt_first (L := L) (j := j) (p := p) (fun i hi q hq => hn (i + 1) (by omega) q (by simpa using hq)) (by simpa using h) hp]
    rfl
theorem rAt_never {k : Ky} {L : List Rt} (h : ∀ i, i < L.length → ∀ q, L[i]? = some q → q.k ≠ k) : rAt k L = none := by
  rw [rAt_none]
  intro p hp
  obtain ⟨i, hi⟩ := List.getElem?_of_mem hp
  exact h i (List.getElem?_eq_some_iff.1 hi).1 p hi
set_option maxHeartbeats 1000000 in
theorem refAtR_any (N : Nat) (v : Value) (most : Int) (L : List Rt) (full a l d : Int) (w : World) (h : RefB w N v most L full) (hL : L.length ≤ 1000) {r : Int} (hr : atR ⟨a, l, d⟩ L = r) :
    Calls Try.prog 38 #[.pointer (some ⟨N, 0, none⟩), valP a l, .int .i64 d] w fun e w' => e = .returned (.int .i64 r) ∧ Below w.heap.size w w' := by
  have HT : Hid (RefB (w.alloc (objP a l)) N v most L full) := h.later (below1 _ _)
  have HRr : Hid (atR ⟨a, l, d⟩ L = r) := hr
  obtain ⟨ad, cap, rfl⟩ := h.own.shape
  have n1 : N ≠ w.heap.size := by have := h.lt; omega
  have n2 : w.heap.size ≠ N := by have := h.lt; omega
  obtain ⟨n, hn⟩ : ∃ n, L.length = n := ⟨_, rfl⟩
  have HN : Hid (L.length = n) := hn
  have HRow : Hid (RowR (w.alloc (objP a l)) ad n L) := by unfold Hid; have := HT.out.own; rw [hn] at this; exact this.row HT.out.ok
  have z1 := h.2.1
  rw [hn] at hL z1
  clear h hr hn
  go_enter Try.func38, Try.ntmps38
  go_wp2
  go_loopw [7] (fun i_ W => ∃ (j : Nat), j ≤ n ∧ i_ = .int .i64 j ∧ Hid (∀ i, i < j → ∀ q, L[i]? = some q → q.k ≠ ⟨a, l, d⟩) ∧ Below (w.heap.size + 1) (w.alloc (objP a l)) W) (fun i_ _ => n - (intOf i_).toNat)
  case atStart => exact ⟨0, Nat.zero_le _, rfl, fun i hi => by omega, Below.refl _ _⟩
  case round =>
    obtain ⟨j, hj, rfl, HJ, hB⟩ := hrel
    have HB : Hid (Below w.heap.size w wr) := out9 hB
    have hB' : Below (w.alloc (objP a l)).heap.size (w.alloc (objP a l)) wr := by simpa using hB
    have z1 := (HT.out.later hB').2.1
    rw [HN.out] at z1
    obtain ⟨x0, x1⟩ := newP w a l hB'
    by_cases hlt : j < n
    · have hlt' : (j : Int) < (n : Int) := by omega
      obtain ⟨⟨pa, pl, pd, ps, pm, pn, pt⟩, b, off, he, -, rfl, q3⟩ := (HRow.out.later hB').at hlt
      obtain ⟨d0, d1, d2, -⟩ := q3
      simp only at d0 d1 d2
      have HE : Hid (L[j]? = some ⟨pa, pl, pd, ps, pm, pn, pt⟩) := he
      obtain ⟨c, hc⟩ : ∃ c, (pa == a && pl == l) = c := ⟨_, rfl⟩
      obtain ⟨c', hc'⟩ : ∃ c, (pd == d) = c := ⟨_, rfl⟩
      have hp := run_eqP pa pl a l c hc
      have HK : Hid ((c && c') = true ↔ (⟨pa, pl, pd, ps, pm, pn, pt⟩ : Rt).k = ⟨a, l, d⟩) := by unfold Hid; rw [← hc, ← hc', Rt.k_iff]; simp [and_assoc]
      clear he hc
      cases c <;> cases c'
      case true.true =>
        have HR' : Hid ((j : Int) = r) := by
          unfold Hid; rw [← HRr.out, atR_some (rAt_first HJ.out HE.out (HK.out.1 rfl))]
        go_wp2
        go_quiet (fail)
        go_wp2
        go_ret
        exact ⟨ret_int HR'.out, below_drewN HB.out _⟩
      all_goals
        have HJ' : Hid (∀ i, i < j + 1 → ∀ q, L[i]? = some q → q.k ≠ ⟨a, l, d⟩) := fun i hi q hq => by
          by_cases hij : i = j
          · subst hij; rw [HE.out] at hq; simp only [Option.some.injEq] at hq; subst hq; exact fun hk => by have := HK.out.2 hk; cases this
          · exact HJ.out i (by omega) q hq
        go_wp2
        go_quiet (fail)
        go_wp2
        go_roundw
        case rel => exact ⟨j + 1, by omega, by go_num, HJ', below_drewN hB _⟩
        case measure => simp [intOf]; omega
    · have hlt' : ¬ (j : Int) < (n : Int) := by omega
      obtain rfl : j = n := by omega
      have HR' : Hid (-1 = r) := by
        unfold Hid; rw [← HRr.out, atR_none (rAt_never (by rw [HN.out]; exact HJ.out))]
      go_wp2
      go_ret
      exact ⟨ret_int HR'.out, HB.out⟩
end Go.Proofs.Ytcabeclbdjfoaaa
