/- The document's journal in memory; the contracts of its Same, Sync and Put. -/
import Derived.Test.YtofmgkpghkeegaaRowO
import Derived.Test.YtofmgkpghkeegaaRowG
namespace Go.Proofs.Ytofmgkpghkeegaa
open Go.RowKit

theorem OwnF.same {W W' : World} {base : Nat} {v : Value} {n : Nat} {L : List Fc} (h : OwnF W base v n L) (hb : ∀ g, v.ownBlock = some g → W'.heap[g]? = W.heap[g]?) : OwnF W' base v n L := by
  refine ⟨h.1, ?_⟩
  rcases h.2 with hn | ⟨g, cap, cur, hv, hbg, hg, r⟩
  · exact .inl hn
  · refine .inr ⟨g, cap, cur, hv, hbg, ?_, r⟩
    rw [hb g (by rw [hv]; rfl)]
    exact hg
theorem OwnF.own_lt {W : World} {base : Nat} {v : Value} {n : Nat} {L : List Fc} (h : OwnF W base v n L) {g : Nat} (hg : v.ownBlock = some g) : g < W.heap.size := by
  rcases h.2 with ⟨rfl, _⟩ | ⟨g', cap, cur, hv, hbg, hg', r⟩
  · cases hg
  · rw [hv] at hg
    simp [Value.ownBlock] at hg
    subst hg
    exact (Array.getElem?_eq_some_iff.1 hg').1
theorem OwnF.base {w : World} {b b' : Nat} {v : Value} {n : Nat} {L : List Fc} (h : OwnF w b v n L) (hb : b' ≤ b) : OwnF w b' v n L := by
  refine ⟨h.1, ?_⟩
  rcases h.2 with hn | ⟨g, cap, cur, hv, hbg, r⟩
  · exact .inl hn
  · exact .inr ⟨g, cap, cur, hv, Nat.le_trans hb hbg, r⟩
theorem OwnF.cap_le {w : World} {base n cap : Nat} {ad : Option Addr} {L : List Fc} (h : OwnF w base (.slice ad n cap) n L) : n ≤ cap := by
  rcases h.2 with ⟨e, e'⟩ | ⟨g, c, cur, hv, _, _, hle, _⟩
  · simp only [Value.slice.injEq] at e; omega
  · simp only [Value.slice.injEq] at hv; omega
theorem OwnF.nil_or {w : World} {base n cap : Nat} {ad : Option Addr} {L : List Fc} (h : OwnF w base (.slice ad n cap) n L) : (ad = none ∧ n = 0 ∧ cap = 0) ∨ ∃ g, ad = some ⟨g, 0, none⟩ := by
  rcases h.2 with ⟨e, e'⟩ | ⟨g, c, cur, hv, _⟩
  · simp only [Value.slice.injEq] at e; exact .inl ⟨e.1, e.2.1, e.2.2⟩
  · simp only [Value.slice.injEq] at hv; exact .inr ⟨g, hv.1⟩
/-- A shorter slice of the same row. -/
theorem OwnF.cut {w : World} {base n cap : Nat} {ad : Option Addr} {L : List Fc} (h : OwnF w base (.slice ad n cap) n L) {k : Nat} (hk : k ≤ n) : OwnF w base (.slice ad k cap) k (L.take k) := by
  have hl := h.len
  refine ⟨by rw [csF_flat_len, List.length_take]; omega, ?_⟩
  rcases h.2 with ⟨e, e'⟩ | ⟨g, c, cur, hv, hb, hg, h1, h2, h3, h4⟩
  · simp only [Value.slice.injEq] at e
    obtain ⟨rfl, -, rfl⟩ := e
    obtain rfl : k = 0 := by omega
    exact .inl ⟨rfl, rfl⟩
  · simp only [Value.slice.injEq] at hv
    obtain ⟨rfl, -, rfl⟩ := hv
    refine .inr ⟨g, cap, cur, rfl, hb, hg, by omega, h2, h3, ?_⟩
    have h5 : cur.toList.take (k * 3) = (cur.toList.take (n * 3)).take (k * 3) := by rw [List.take_take]; congr 1; omega
    rw [h5, h4]
    clear h4 h5 hg h
    subst hl
    induction L generalizing k with
    | nil => simp
    | cons x L ih =>
      cases k with
      | zero => simp
      | succ k =>
        have hx : x.cs.length = 3 := rfl
        rw [List.flatMap_cons, List.take_succ_cons, List.flatMap_cons, show (k + 1) * 3 = x.cs.length + k * 3 by omega, List.take_length_add_append, ih (by simpa using hk) (by simp at h1; omega)]
theorem keep_row {a b : World} {row : Option Nat} (h : a.grownBy b row) : Keep (fun k => row = some k) a b := ⟨h.os, h.tape, h.output, h.size, fun k hk hn => h.block k hk fun e => hn e.symm⟩
theorem grown_trans {a b c : World} {row : Option Nat} (h : a.grownBy b row) (k : b.grownBy c row) : a.grownBy c row :=
  ⟨k.os.trans h.os, k.tape.trans h.tape, k.output.trans h.output, Nat.le_trans h.size k.size, fun i hi hne => (k.block i (Nat.lt_of_lt_of_le hi h.size) hne).trans (h.block i hi hne)⟩
theorem grown_draw {a b : World} {row : Option Nat} (h : a.grownBy b row) : a.grownBy b.drew row := ⟨h.os, h.tape, h.output, h.size, h.block⟩
theorem grown_alloc {a b : World} {row : Option Nat} (h : a.grownBy b row) (o : Obj) : a.grownBy (b.alloc o) row := grown_trans h (World.grownBy_alloc b o row)
theorem grown_of {a b : World} (h : Below a.heap.size a b) (row : Option Nat) : a.grownBy b row := ⟨h.os, h.tape, h.output, h.size, fun k hk _ => h.block k hk⟩
/-- The document's journal in block N. -/
structure RefJ (W : World) (N : Nat) (room : Int) (v : Value) (L : List Fc) (K : Nat) : Prop where
  c0 : W.cell? ⟨N, 0, none⟩ = some (.int .i64 room)
  c1 : W.cell? ⟨N, 1, none⟩ = some v
  c2 : W.cell? ⟨N, 2, none⟩ = some (.int .i64 (K : Int))
  fz : ∀ o, W.frozen? ⟨N, o, none⟩ = false
  own : OwnF W (N + 1) v L.length L
  ok : Fcs L
  kl : K ≤ L.length
/-- The blocks that are its own. -/
def fpJ (N : Nat) (v : Value) (k : Nat) : Prop := k = N ∨ v.ownBlock = some k
section
variable {w W W' : World} {N K : Nat} {room : Int} {v : Value} {L : List Fc}
theorem RefJ.lt (h : RefJ W N room v L K) : N < W.heap.size := block_lt_of_cell h.c0
theorem RefJ.keep (h : RefJ W N room v L K) {B : Nat → Prop} (hk : Keep B W W') (hd : ∀ k, fpJ N v k → ¬ B k) : RefJ W' N room v L K := by
  have hN := hd N (.inl rfl)
  have hc : ∀ o, W'.cell? ⟨N, o, none⟩ = W.cell? ⟨N, o, none⟩ := fun o => hk.cell (p := ⟨N, o, none⟩) h.lt hN
  exact { h with c0 := (hc 0).trans h.c0, c1 := (hc 1).trans h.c1, c2 := (hc 2).trans h.c2, fz := fun o => (hk.frozen (p := ⟨N, o, none⟩) h.lt hN).trans (h.fz o), own := h.own.same fun g hg => hk.block g (h.own.own_lt hg) (hd g (.inr hg)) }
theorem RefJ.later (h : RefJ W N room v L K) (hk : Below W.heap.size W W') : RefJ W' N room v L K := h.keep (B := fun _ => False) (keep_of hk) (fun _ _ h => h)
theorem RefJ.own_ne (h : RefJ W N room v L K) : v.ownBlock ≠ some N := fun e => by have := h.own.lt N e; omega
/-- What holds of the head behind an append to its row. -/
theorem RefJ.head (h : RefJ W N room v L K) (hg : W.grownBy W' v.ownBlock) (o : Nat) : W'.cell? ⟨N, o, none⟩ = W.cell? ⟨N, o, none⟩ ∧ W'.frozen? ⟨N, o, none⟩ = false := by
  have hb := hg.block N h.lt fun e => h.own_ne e.symm
  exact ⟨World.cell?_of_block (w := W) (a := ⟨N, o, none⟩) hb, (World.frozen?_of_block (w := W) (a := ⟨N, o, none⟩) hb).trans (h.fz o)⟩
/-- Another row is laid. -/
theorem RefJ.lay (h : RefJ w N room v L K) (hg : w.grownBy W v.ownBlock) {v' : Value} {L' : List Fc} (own : OwnF W (N + 1) v' L'.length L') (hP : Fcs L') (hK : K ≤ L'.length) : RefJ (W.setCell ⟨N, 1, none⟩ v') N room v' L' K := by
  obtain ⟨e0, f0⟩ := h.head hg 0
  obtain ⟨e1, f1⟩ := h.head hg 1
  obtain ⟨e2, f2⟩ := h.head hg 2
  rw [h.c0] at e0
  rw [h.c1] at e1
  rw [h.c2] at e2
  refine ⟨?_, ?_, ?_, fun o => ?_, ?_, hP, hK⟩
  · rw [World.cell?_setCell_other _ _ _ _ (by simp)]; exact e0
  · rw [World.cell?_setCell_same _ _ _ e1]
  · rw [World.cell?_setCell_other _ _ _ _ (by simp)]; exact e2
  · rw [World.frozen?_setCell]; exact (h.head hg o).2
  · refine own.same fun g hg' => Below.heap_setCell _ _ _ _ ?_
    have := own.lt g hg'
    show g ≠ N
    omega
/-- Another number is kept. -/
theorem RefJ.mark (h : RefJ W N room v L K) {K' : Nat} (hK : K' ≤ L.length) : RefJ (W.setCell ⟨N, 2, none⟩ (.int .i64 (K' : Int))) N room v L K' := by
  refine ⟨?_, ?_, ?_, fun o => ?_, ?_, h.ok, hK⟩
  · rw [World.cell?_setCell_other _ _ _ _ (by simp)]; exact h.c0
  · rw [World.cell?_setCell_other _ _ _ _ (by simp)]; exact h.c1
  · rw [World.cell?_setCell_same _ _ _ h.c2]
  · rw [World.frozen?_setCell]; exact h.fz o
  · refine h.own.same fun g hg' => Below.heap_setCell _ _ _ _ ?_
    have := h.own.lt g hg'
    show g ≠ N
    omega
theorem keep_fp {a b : World} (h : a.grownBy b v.ownBlock) : Keep (fpJ N v) a b := (keep_row h).mono fun _ _ hi => .inr hi
end
/-- What a call that changes the document's journal leaves. -/
def DoneR (w : World) (N : Nat) (room : Int) (v : Value) (L : List Fc) (K : Nat) (e0 : Ending) (e : Ending) (w' : World) : Prop :=
  ∃ v', e = e0 ∧ RefJ w' N room v' L K ∧ (∀ g, v'.ownBlock = some g → v.ownBlock = some g ∨ w.heap.size ≤ g) ∧ Keep (fpJ N v) w w'
theorem DoneR.none {w w' : World} {N K : Nat} {room : Int} {v : Value} {L : List Fc} {e0 : Ending} (h : RefJ w N room v L K) (hb : Below w.heap.size w w') : DoneR w N room v L K e0 e0 w' :=
  ⟨v, rfl, h.later hb, fun _ hg => .inl hg, keep_of hb⟩
theorem run_neF (x y : Fc) (v : Bool) (h : decide (x ≠ y) = v) (W : World) : Sem.run Try.prog (binOp .neq 32 (.agg #[.int .i64 x.k, .int .u32 x.y, .int .u32 x.n]) (.agg #[.int .i64 y.k, .int .u32 y.y, .int .u32 y.n])) W = .ok (.bool v) W := by
  obtain ⟨i, a, c⟩ := x
  obtain ⟨j, b, d⟩ := y
  subst h
  by_cases h1 : i = j
  · subst h1
    by_cases h2 : a = b
    · subst h2
      by_cases h3 : c = d
      · subst h3; go_simp
      · have h3' : (c == d) = false := beq_eq_false_iff_ne.2 h3
        go_simp
    · have h2' : (a == b) = false := beq_eq_false_iff_ne.2 h2
      go_simp
  · have h1' : (i == j) = false := beq_eq_false_iff_ne.2 h1
    go_simp
set_option maxHeartbeats 1000000 in
/-- Two rows that are the same. -/
theorem same_any (ad : Option Addr) (n cap : Nat) (ad' : Option Addr) (cap' : Nat) (L : List Fc) (w : World) (h : RowF w ad n L) (h' : RowF w ad' n L) (hn : n ≤ 3000) :
    Calls Try.prog 21 #[.slice ad n cap, .slice ad' n cap'] w fun e w' => e = .returned (.bool true) ∧ Below w.heap.size w w' := by
  have HX : Hid (RowF w ad n L) := h
  have HQ : Hid (RowF w ad' n L) := h'
  clear h h'
  go_enter Try.func21, Try.ntmps21
  go_wp2
  go_loopw [5] (fun i_ W => ∃ (j : Nat), j ≤ n ∧ i_ = .int .i64 j ∧ Below w.heap.size w W) (fun i_ _ => n - (intOf i_).toNat)
  case atStart => exact ⟨0, Nat.zero_le _, rfl, Below.refl _ _⟩
  case round =>
    obtain ⟨j, hj, rfl, hB⟩ := hrel
    by_cases hlt : j < n
    · have hlt' : (j : Int) < (n : Int) := by omega
      obtain ⟨⟨pi, pa, pn⟩, b, off, he, -, rfl, q3⟩ := (HQ.out.later hB).at hlt
      obtain ⟨q, b', off', he', -, rfl, q2⟩ := (HX.out.later hB).at hlt
      rw [he] at he'
      simp only [Option.some.injEq] at he'
      subst he'
      obtain ⟨d0, d1, d2⟩ := q3
      obtain ⟨f0, f1, f2⟩ := q2
      simp only at d0 d1 d2 f0 f1 f2
      have hp := run_neF ⟨pi, pa, pn⟩ ⟨pi, pa, pn⟩ false (by simp)
      simp only at hp
      clear he
      go_wp2
      go_quiet (fail)
      go_wp2
      go_roundw
      case rel => exact ⟨j + 1, by omega, by go_num, below_drewN hB _⟩
      case measure => simp [intOf]; omega
    · have hlt' : ¬ (j : Int) < (n : Int) := by omega
      go_wp2
      go_ret
      exact ⟨rfl, hB⟩
theorem refSync_any (N K : Nat) (room : Int) (v : Value) (L : List Fc) (w : World) (h : RefJ w N room v L K) :
    Calls Try.prog 14 #[.pointer (some ⟨N, 0, none⟩)] w (DoneR w N room v L L.length (.returned (.tuple #[]))) := by
  obtain ⟨ad, cap, rfl⟩ := h.own.shape
  obtain ⟨nn, hn⟩ : ∃ n, L.length = n := ⟨_, rfl⟩
  rw [hn] at h ⊢
  have HT : Hid (RefJ w N room (.slice ad nn cap) L K) := h
  have HN : Hid (L.length = nn) := hn
  have c1 := h.c1
  have c2 := h.c2
  have f2 := h.fz 2
  clear h hn
  go_enter Try.func14, Try.ntmps14
  go_wp2
  refine bodyPost_end (results_none rfl _ _ _) rfl ?_
  exact ⟨_, rfl, HT.out.mark (by rw [HN.out]; exact Nat.le_refl _), fun _ hg => .inl hg, (Keep.refl _ _).setCell (p := ⟨N, 2, none⟩) (.inl rfl) _⟩
end Go.Proofs.Ytofmgkpghkeegaa
