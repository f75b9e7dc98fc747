/- The document's trie in memory; the contracts of its at and Get. -/
import Derived.Test.YtifokdebocgaiaaRowC
import Derived.Test.YtifokdebocgaiaaKeepA
namespace Go.Proofs.Ytifokdebocgaiaa
open Go.RowKit

/-- The document's trie in block N: how many there may be, and a row of its own. -/
def RefT (W : World) (N : Nat) (v : Value) (most : Int) (L : List Pr) : Prop :=
  W.cell? ⟨N, 0, none⟩ = some (.int .i64 most) ∧ W.cell? ⟨N, 1, none⟩ = some v ∧ (∀ o, W.frozen? ⟨N, o, none⟩ = false) ∧ OwnQ W (N + 1) v L.length L ∧ Prs L ∧ N < W.heap.size
/-- The blocks that are its own. -/
def fpR (N : Nat) (v : Value) (k : Nat) : Prop := k = N ∨ v.ownBlock = some k
theorem OwnQ.same {W W' : World} {base : Nat} {v : Value} {n : Nat} {L : List Pr} (h : OwnQ W base v n L) (hb : ∀ g, v.ownBlock = some g → W'.heap[g]? = W.heap[g]?) : OwnQ W' base v n L := by
  refine ⟨h.1, ?_⟩
  rcases h.2 with hn | ⟨g, cap, cur, hv, hbg, hg, r⟩
  · exact .inl hn
  · refine .inr ⟨g, cap, cur, hv, hbg, ?_, r⟩
    rw [hb g (by rw [hv]; rfl)]
    exact hg
theorem OwnQ.own_lt {W : World} {base : Nat} {v : Value} {n : Nat} {L : List Pr} (h : OwnQ W base v n L) {g : Nat} (hg : v.ownBlock = some g) : g < W.heap.size := by
  rcases h.2 with ⟨rfl, _⟩ | ⟨g', cap, cur, hv, hbg, hg', r⟩
  · cases hg
  · rw [hv] at hg
    simp [Value.ownBlock] at hg
    subst hg
    exact (Array.getElem?_eq_some_iff.1 hg').1
theorem OwnQ.base {w : World} {b b' : Nat} {v : Value} {n : Nat} {L : List Pr} (h : OwnQ w b v n L) (hb : b' ≤ b) : OwnQ w b' v n L := by
  refine ⟨h.1, ?_⟩
  rcases h.2 with hn | ⟨g, cap, cur, hv, hbg, r⟩
  · exact .inl hn
  · exact .inr ⟨g, cap, cur, hv, Nat.le_trans hb hbg, r⟩
theorem RefT.keep {W W' : World} {N : Nat} {v : Value} {most : Int} {L : List Pr} (h : RefT W N v most L) {B : Nat → Prop} (hk : Keep B W W') (hd : ∀ k, fpR N v k → ¬ B k) : RefT W' N v most L := by
  obtain ⟨h0, h1, h2, h3, h4, h5⟩ := h
  have hN := hd N (.inl rfl)
  exact ⟨(hk.cell (p := ⟨N, 0, none⟩) h5 hN).trans h0, (hk.cell (p := ⟨N, 1, none⟩) h5 hN).trans h1, fun o => (hk.frozen (p := ⟨N, o, none⟩) h5 hN).trans (h2 o), h3.same fun g hg => hk.block g (h3.own_lt hg) (hd g (.inr hg)), h4, Nat.lt_of_lt_of_le h5 hk.size⟩
theorem RefT.later {W W' : World} {N : Nat} {v : Value} {most : Int} {L : List Pr} (h : RefT W N v most L) (hk : Below W.heap.size W W') : RefT W' N v most L := h.keep (B := fun _ => False) (keep_of hk) (fun _ _ h => h)
theorem out8 {w W : World} {o : Obj} (h : Below (w.heap.size + 1) (w.alloc o) W) : Below w.heap.size w W := (below1 w o).trans (h.mono (by omega))
def atI (a l : Int) (L : List Pr) : Int := match fAt a l L with
  | some i => (i : Int)
  | none => -1
theorem atI_some {a l : Int} {L : List Pr} {i : Nat} (h : fAt a l L = some i) : atI a l L = (i : Int) := by unfold atI; rw [h]
theorem atI_none {a l : Int} {L : List Pr} (h : fAt a l L = none) : atI a l L = -1 := by unfold atI; rw [h]
theorem fAt_first {a l : Int} : ∀ {L : List Pr} {j : Nat} {p : Pr}, (∀ i, i < j → ∀ q, L[i]? = some q → q.is a l = false) → L[j]? = some p → p.is a l = true → fAt a l L = some j
  | [], j, p, _, h, _ => by simp at h
  | x :: L, 0, p, _, h, hp => by simp at h; subst h; rw [fAt, if_pos hp]
  | x :: L, j + 1, p, hn, h, hp => by
    have hx := hn 0 (by omega) x rfl
    rw [fAt, if_neg (by rw [hx]; simp), fAt_first (L := L) (j := j) (p := p) (fun i hi q hq => hn (i + 1) (by omega) q (by simpa using hq)) (by simpa using h) hp]
    rfl
theorem fAt_never {a l : Int} {L : List Pr} (h : ∀ i, i < L.length → ∀ q, L[i]? = some q → q.is a l = false) : fAt a l L = none := by
  rw [fAt_none]
  intro p hp hk
  obtain ⟨i, hi⟩ := List.getElem?_of_mem hp
  have := h i (List.getElem?_eq_some_iff.1 hi).1 p hi
  rw [Pr.is_iff.2 hk] at this; cases this
theorem run_eqX (pa pl a l : Int) (v : Bool) (h : (pa == a && pl == l) = v) (W : World) : Sem.run Try.prog (binOp .eql 32 (.agg #[.int .u32 pa, .int .i64 pl]) (.agg #[.int .u32 a, .int .i64 l])) W = .ok (.bool v) W := by
  subst h
  by_cases h1 : pa = a
  · subst h1
    by_cases h2 : pl = l
    · subst h2; go_simp
    · have h2' : (pl == l) = false := beq_eq_false_iff_ne.2 h2
      go_simp
  · have h1' : (pa == a) = false := beq_eq_false_iff_ne.2 h1
    go_simp
theorem run_neX (pa pl a l : Int) (v : Bool) (h : (!(pa == a && pl == l)) = v) (W : World) : Sem.run Try.prog (binOp .neq 32 (.agg #[.int .u32 pa, .int .i64 pl]) (.agg #[.int .u32 a, .int .i64 l])) W = .ok (.bool v) W := by
  subst h
  by_cases h1 : pa = a
  · subst h1
    by_cases h2 : pl = l
    · subst h2; go_simp
    · have h2' : (pl == l) = false := beq_eq_false_iff_ne.2 h2
      go_simp
  · have h1' : (pa == a) = false := beq_eq_false_iff_ne.2 h1
    go_simp
set_option maxHeartbeats 1000000 in
theorem refAt_any (N : Nat) (v : Value) (most : Int) (L : List Pr) (a l : Int) (w : World) (h : RefT w N v most L) (hL : L.length ≤ 1000) {r : Int} (hr : atI a l L = r) :
    Calls Try.prog 28 #[.pointer (some ⟨N, 0, none⟩), valX a l] w fun e w' => e = .returned (.int .i64 r) ∧ Below w.heap.size w w' := by
  have HT : Hid (RefT (w.alloc (objX a l)) N v most L) := h.later (below1 _ _)
  have HRr : Hid (atI a l L = r) := hr
  obtain ⟨ad, cap, rfl⟩ := h.2.2.2.1.shape
  have n1 : N ≠ w.heap.size := by have := h.2.2.2.2.2; omega
  have n2 : w.heap.size ≠ N := by have := h.2.2.2.2.2; omega
  obtain ⟨n, hn⟩ : ∃ n, L.length = n := ⟨_, rfl⟩
  have HN : Hid (L.length = n) := hn
  have HRow : Hid (RowQ (w.alloc (objX a l)) ad n L) := by unfold Hid; have := HT.out.2.2.2.1; rw [hn] at this; exact this.row HT.out.2.2.2.2.1
  have z1 := h.2.1
  rw [hn] at hL z1
  clear h hr hn
  go_enter Try.func28, Try.ntmps28
  go_wp2
  go_loopw [5] (fun i_ W => ∃ (j : Nat), j ≤ n ∧ i_ = .int .i64 j ∧ Hid (∀ i, i < j → ∀ q, L[i]? = some q → q.is a l = false) ∧ Below (w.heap.size + 1) (w.alloc (objX a l)) W) (fun i_ _ => n - (intOf i_).toNat)
  case atStart => exact ⟨0, Nat.zero_le _, rfl, fun i hi => by omega, Below.refl _ _⟩
  case round =>
    obtain ⟨j, hj, rfl, HJ, hB⟩ := hrel
    have HB : Hid (Below w.heap.size w wr) := out8 hB
    have hB' : Below (w.alloc (objX a l)).heap.size (w.alloc (objX a l)) wr := by simpa using hB
    have z1 := (HT.out.later hB').2.1
    rw [HN.out] at z1
    obtain ⟨x0, x1⟩ := ((X2.new w a l).later hB').z
    by_cases hlt : j < n
    · have hlt' : (j : Int) < (n : Int) := by omega
      obtain ⟨⟨pa, pl, pn⟩, b, off, he, -, rfl, q3⟩ := (HRow.out.later hB').at hlt
      obtain ⟨d0, d1, -⟩ := q3
      simp only at d0 d1
      cases hp : (⟨pa, pl, pn⟩ : Pr).is a l
      · have HJ' : Hid (∀ i, i < j + 1 → ∀ q, L[i]? = some q → q.is a l = false) := fun i hi q hq => by
          by_cases hij : i = j
          · subst hij; rw [he] at hq; simp at hq; subst hq; exact hp
          · exact HJ.out i (by omega) q hq
        have hp' := run_eqX pa pl a l false hp
        clear hp he
        go_wp2
        go_quiet (fail)
        go_wp2
        go_roundw
        case rel => exact ⟨j + 1, by omega, by go_num, HJ', below_drewN hB _⟩
        case measure => simp [intOf]; omega
      · have HR' : Hid ((j : Int) = r) := by
          unfold Hid; rw [← HRr.out, atI_some (fAt_first HJ.out he hp)]
        have hp' := run_eqX pa pl a l true hp
        clear hp he
        go_wp2
        go_quiet (fail)
        go_wp2
        go_ret
        exact ⟨ret_int HR'.out, below_drewN HB.out _⟩
    · have hlt' : ¬ (j : Int) < (n : Int) := by omega
      obtain rfl : j = n := by omega
      have HR' : Hid (-1 = r) := by
        unfold Hid; rw [← HRr.out, atI_none (fAt_never (by rw [HN.out]; exact HJ.out))]
      go_wp2
      go_ret
      exact ⟨ret_int HR'.out, HB.out⟩
end Go.Proofs.Ytifokdebocgaiaa
