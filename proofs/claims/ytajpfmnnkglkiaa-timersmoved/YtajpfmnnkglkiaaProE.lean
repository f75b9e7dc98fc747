/- The program's timers: what holds while Due goes round, and what it leaves. -/
import Derived.Test.YtajpfmnnkglkiaaProA
import Derived.Test.YtajpfmnnkglkiaaProD
import Derived.Test.YtajpfmnnkglkiaaLawA
namespace Go.Proofs.Ytajpfmnnkglkiaa
open Go.RowKit Go.Maps

theorem ranges_same {w w' : World} {P : Program} {k : TypeId} {R : Value → Option (DataW Unit × List MemPlace)} {b r n : Nat} {D : DataW Unit} {left : Lit → Bool} {cnt : Nat} (h : w.ranges P k R b r n D left cnt) (hb : w'.heap[b]? = w.heap[b]?) (hr : w'.heap[r]? = w.heap[r]?) : w'.ranges P k R b r n D left cnt := by
  obtain ⟨es, clock, since, seen, c0, h1, F, hs, hD, h2, rest⟩ := h
  exact ⟨es, clock, since, seen, c0, hb.trans h1, F, hs, hD, hr.trans h2, rest⟩
theorem grown_below {a b' c : World} {row : Option Nat} {B : Nat} (h : a.grownBy b' row) (k : Below B b' c) (hB : a.heap.size ≤ B) : a.grownBy c row :=
  ⟨k.os.trans h.os, k.tape.trans h.tape, k.output.trans h.output, Nat.le_trans h.size k.size, fun i hi hne => (k.block i (Nat.lt_of_lt_of_le hi hB)).trans (h.block i hi hne)⟩
/-- While Due goes round. -/
structure DueR (w wr : World) (b : Nat) (now : Int) (L : List Tm) (left : Lit → Bool) (cnt : Nat) (D : DataW Unit) (M : List Tm) (v : Value) : Prop where
  rg : wr.ranges Try.prog 3 (plainElem Try.prog 3) b w.heap.size L.length D left cnt
  own : OwnT wr (w.heap.size + 1) v M.length M
  got : Got now left L M
  rd : Rd D (curT now left L)
  gr : w.grownBy wr (some b)
  ln : M.length + cnt ≤ L.length
section
variable {w wr w1 w2 W5 : World} {b : Nat} {now x c : Int} {L M : List Tm} {left : Lit → Bool} {cnt cnt1 cnt2 : Nat} {D : DataW Unit} {v v5 : Value}
theorem DueR.tms (h : DueR w wr b now L left cnt D M v) (hL : Tms L) : Tms M := fun p hp => hL p ((h.got.mem p).1 hp).1
theorem DueR.start (hr : wr.ranges Try.prog 3 (plainElem Try.prog 3) b w.heap.size L.length D (Maps.has D) (Maps.size D)) (hrd : Rd D L) (hg : w.grownBy wr none) : DueR w wr b now L (Maps.has D) (Maps.size D) D [] (.slice none 0 0) := by
  have hall : ∀ p ∈ L, Maps.has D (kI p.i) = true := fun p hp => (hrd.has p.i).trans (hasI_iff.2 ⟨p, hp, rfl⟩)
  exact ⟨hr, ownT_nil _ _, got_start hall, by rw [curT_start hall]; exact hrd, hg.but _, by rw [hrd.size]; simp⟩
/-- One that has come is one of them. -/
theorem DueR.entry (h : DueR w wr b now L left cnt D M v) (ha : ∀ zd, D.atKey (kI x) zd = .lit (kI c)) : (⟨x, c⟩ : Tm) ∈ L := (mem_curT.1 (h.rd.entry (Maps.has_true_of_atKey ha) ha)).1
/-- One has come: it stays. -/
theorem DueR.stay (h : DueR w wr b now L left cnt D M v) (hu : L.Pairwise fun x y => x.i ≠ y.i) (hm : (⟨x, c⟩ : Tm) ∈ L) (hc : ¬ c ≤ now) (hr : w1.ranges Try.prog 3 (plainElem Try.prog 3) b w.heap.size L.length D (fun z => left z && !z.sameKey (kI x)) cnt1) (hlt : cnt1 < cnt) (hg : wr.grownBy w1 (some w.heap.size)) :
    DueR w w1 b now L (fun z => left z && !z.sameKey (kI x)) cnt1 D M v := by
  refine ⟨hr, h.own.same fun g hg' => hg.block g (h.own.own_lt hg') fun e => ?_, h.got.stay hu hm (by omega), curT_stay hu hm (Int.not_le.1 hc) ▸ h.rd, h.gr.andThen hg (fun j hj => by cases hj; exact .inl (Nat.le_refl _)), by have := h.ln; omega⟩
  exact row_ne_iter h.own h.rg (by rw [hg']; exact e.symm)
/-- What the step leaves of the row. -/
theorem DueR.own1 (h : DueR w wr b now L left cnt D M v) (hg : wr.grownBy w1 (some w.heap.size)) : OwnT w1 (w.heap.size + 1) v M.length M :=
  h.own.same fun g hg' => hg.block g (h.own.own_lt hg') fun e => row_ne_iter h.own h.rg (by rw [hg']; exact e.symm)
theorem DueR.gr1 (h : DueR w wr b now L left cnt D M v) (hg : wr.grownBy w1 (some w.heap.size)) : w.grownBy w1 (some b) := h.gr.andThen hg (fun j hj => by cases hj; exact .inl (Nat.le_refl _))
/-- One has come, is laid, and struck. -/
theorem DueR.step {k5 : Nat} (h : DueR w wr b now L left cnt D M v) (hu : L.Pairwise fun x y => x.i ≠ y.i) (hm : (⟨x, c⟩ : Tm) ∈ L) (hl : left (kI x) = true) (hc : c ≤ now) (hlt : cnt1 < cnt) (hg5 : w.grownBy W5 (some b)) (own5 : OwnT W5 (w.heap.size + 1) v5 k5 (M ++ [⟨x, c⟩]))
    (hr : w2.ranges Try.prog 3 (plainElem Try.prog 3) b w.heap.size L.length (D.del (kI x)) (fun z => left z && !z.sameKey (kI x)) cnt2) (hle : cnt2 ≤ cnt1) (ht : W5.mapTurned w2 b) (hbw : b < w.heap.size) :
    DueR w w2 b now L (fun z => left z && !z.sameKey (kI x)) cnt2 (D.del (kI x)) (M ++ [⟨x, c⟩]) v5 := by
  obtain rfl := own5.len
  refine ⟨hr, ?_, h.got.step hu hm hl hc, ?_, hg5.andThen ht.grown (fun j hj => .inr hj), by have := h.ln; simp only [List.length_append, List.length_singleton]; omega⟩
  · have h1 := own5.same (W' := w2) fun g hg' => ht.grown.block g (own5.own_lt hg') fun e => by
      have := own5.lt g hg'
      injection e with e
      omega
    exact h1
  · rw [← curT_due hu hm hc]
    exact h.rd.del (h.rg.owns.tidy lawI) (List.Pairwise.sublist List.filter_sublist hu) x
/-- None is left; what was got is sorted. -/
theorem DueR.done {N m : Nat} {wf : World} {ad : Option Addr} {n cap : Nat} {B : Nat → Prop} (h : DueR w wr b now L left cnt D M (.slice ad n cap)) (hT : Tmr w N b L m) (hB : ∀ k, B k ↔ k = N ∨ k = b) (h0 : ∀ kl, left kl = false) (own : OwnT wf (w.heap.size + 1) (.slice ad n cap) n (srtL ltT M)) (hk : Keep (fun k => (Value.slice ad n cap).ownBlock = some k) wr wf) :
    DueK TM w B ⟨N, 0, none⟩ L (m + 1) now (.returned (.slice ad n cap)) wf := by
  have hbw := hT.mp.lt
  have hNw := hT.lt
  have hS := h.got.sorted hT.gd.s h0 (srtL_perm ltT M) (srtL_sorted ltT_is M)
  rw [hS] at own
  have hnew : ∀ g, (Value.slice ad n cap).ownBlock = some g → w.heap.size + 1 ≤ g := fun g hg => own.lt g hg
  have hgr : Keep (fun k => k = N ∨ k = b) w wf := (keep_grown h.gr).trans hk fun i hi hg => by have := hnew i hg; omega
  have hm : MapT wf b (dueR now L) := by
    have h1 := mapT_of h.rg.owns h.rd
    rw [curT_end hT.gd.s h0] at h1
    exact h1.same (hk.block b h1.lt fun e => by have := hnew b e; omega)
  have hc : wf.cell? ⟨N, 0, none⟩ = some (.map (some b)) := by
    rw [hk.cell (p := ⟨N, 0, none⟩) (Nat.lt_of_lt_of_le hNw h.gr.size) fun e => by have := hnew N e; omega]
    exact (World.cell?_of_block (w := w) (h.gr.block N hNw fun e => hT.nb (by simpa using e))).trans hT.c0
  have hlen := due_len now L
  have hlm := hT.lm
  have hll := hT.ll
  refine ⟨B, ad, n, cap, rfl, own.base (Nat.le_succ _), ⟨N, b, rfl, hB, ⟨hc, hm, hT.nb, (goodT_due hT.gd now).2, by omega, by omega⟩⟩, fun k hk => .inl hk, fun k' hk' e => ?_, hgr.mono fun i _ hi => (hB i).2 hi⟩
  have h1 := hnew k' e
  rcases (hB k').1 hk' with rfl | rfl <;> omega
end
end Go.Proofs.Ytajpfmnnkglkiaa
