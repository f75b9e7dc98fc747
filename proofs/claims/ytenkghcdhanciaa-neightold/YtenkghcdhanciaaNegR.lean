/- The document's neighbour in memory; the contracts of its New, in, Miss, Ihu, History, Rx, Cost. -/
import Derived.Test.YtenkghcdhanciaaRowB
import Derived.Test.YtenkghcdhanciaaKeepA
namespace Go.Proofs.Ytenkghcdhanciaa
open Go.RowKit

theorem infoB : (Try.prog.info? 4).map (fun i => (i.zero, i.size, i.bytes)) = some (some (.bool false), 1, 1) := by kernel_rfl
theorem ownB_one (W : World) (b : Bool) : OwnB (W.alloc (.cells #[.bool b] 4)) W.heap.size 4 (.slice (some ⟨W.heap.size, 0, none⟩) 1 1) 1 [b] :=
  ⟨rfl, .inr ⟨W.heap.size, 1, #[.bool b], rfl, Nat.le_refl _, by show (W.heap.push _)[W.heap.size]? = _; simp, Nat.le_refl _, by decide, rfl, rfl⟩⟩
theorem rowB_take {w : World} {a : Option Addr} {n : Nat} {l : List Bool} (h : RowB w a n l) (m : Nat) (hm : m ≤ n) : RowB w a m (l.take m) := by
  have hl := h.1
  refine ⟨by simp; omega, by have := h.2.1; omega, fun i hi => ?_⟩
  obtain ⟨b, off, e, hc⟩ := h.2.2 i (by omega)
  exact ⟨b, off, e, by rw [hc, List.getElem?_take, if_pos hi]⟩
theorem RowB.same {W W' : World} {b off n : Nat} {l : List Bool} (h : RowB W (some ⟨b, off, none⟩) n l) (hc : ∀ o, W'.cell? ⟨b, o, none⟩ = W.cell? ⟨b, o, none⟩) : RowB W' (some ⟨b, off, none⟩) n l :=
  ⟨h.1, h.2.1, fun i hi => by
    obtain ⟨b', off', e, h1⟩ := h.2.2 i hi
    simp only [Option.some.injEq, Addr.mk.injEq, and_true] at e
    obtain ⟨rfl, rfl⟩ := e
    exact ⟨_, _, rfl, (hc _).trans h1⟩⟩
/-- The document's neighbour in block N, its history in the row v. -/
structure RefN (W : World) (N : Nat) (v : Value) (s : Nh) : Prop where
  c0 : W.cell? ⟨N, 0, none⟩ = some v
  c1 : W.cell? ⟨N, 1, none⟩ = some (.bool s.y)
  c2 : W.cell? ⟨N, 2, none⟩ = some (.int .u16 s.x)
  c3 : W.cell? ⟨N, 3, none⟩ = some (.int .i64 s.t)
  f : ∀ o, W.frozen? ⟨N, o, none⟩ = false
  row : ∃ g off cap, v = .slice (some ⟨g, off, none⟩) 16 cap ∧ g ≠ N ∧ g < W.heap.size ∧ 16 ≤ cap ∧ RowB W (some ⟨g, off, none⟩) 16 s.h
  good : GoodN s
  lt : N < W.heap.size
/-- The blocks that it reads. -/
def fpN (N : Nat) (v : Value) (k : Nat) : Prop := k = N ∨ v.ownBlock = some k
section
variable {w W W' : World} {N : Nat} {v : Value} {s : Nh}
theorem RefN.keep (h : RefN W N v s) {B : Nat → Prop} (hk : Keep B W W') (hd : ∀ k, fpN N v k → ¬ B k) : RefN W' N v s := by
  have hN := hd N (.inl rfl)
  have hc := fun o => hk.cell (p := ⟨N, o, none⟩) h.lt hN
  obtain ⟨g, off, cap, rfl, h1, h2, h3, h4⟩ := h.row
  exact ⟨(hc _).trans h.c0, (hc _).trans h.c1, (hc _).trans h.c2, (hc _).trans h.c3, fun o => (hk.frozen (p := ⟨N, o, none⟩) h.lt hN).trans (h.f o), ⟨g, off, cap, rfl, h1, Nat.lt_of_lt_of_le h2 hk.size, h3, h4.same fun o => hk.cell (p := ⟨g, o, none⟩) h2 (hd g (.inr rfl))⟩, h.good, Nat.lt_of_lt_of_le h.lt hk.size⟩
theorem RefN.later (h : RefN W N v s) (hk : Below W.heap.size W W') : RefN W' N v s := h.keep (B := fun _ => False) (keep_of hk) (fun _ _ h => h)
/-- What a call that changes the document's neighbour leaves. -/
def DoneN (w : World) (N : Nat) (v : Value) (s : Nh) (e : Ending) (w' : World) : Prop :=
  ∃ v', e = .returned (.tuple #[]) ∧ RefN w' N v' s ∧ (∀ g, v'.ownBlock = some g → v.ownBlock = some g ∨ w.heap.size ≤ g) ∧ Keep (fun k => k = N) w w'
theorem RefN.set2 (h : RefN W N v s) (x : Int) (x0 : 0 ≤ x) (x1 : x < 65536) : RefN (W.setCell ⟨N, 2, none⟩ (.int .u16 x)) N v { s with x := x } := by
  obtain ⟨g, off, cap, rfl, h1, h2, h3, h4⟩ := h.row
  exact ⟨(World.cell?_setCell_other _ _ _ _ (by simp)).trans h.c0, (World.cell?_setCell_other _ _ _ _ (by simp)).trans h.c1, World.cell?_setCell_same _ _ _ h.c2, (World.cell?_setCell_other _ _ _ _ (by simp)).trans h.c3, fun o => by rw [World.frozen?_setCell]; exact h.f o, ⟨g, off, cap, rfl, h1, by simpa using h2, h3, h4.same fun o => World.cell?_setCell_other _ _ _ _ (by simp)⟩, ⟨h.good.l, x0, x1, h.good.t0, h.good.t1⟩, by simpa using h.lt⟩
theorem RefN.set1 (h : RefN W N v s) (y : Bool) : RefN (W.setCell ⟨N, 1, none⟩ (.bool y)) N v { s with y := y } := by
  obtain ⟨g, off, cap, rfl, h1, h2, h3, h4⟩ := h.row
  exact ⟨(World.cell?_setCell_other _ _ _ _ (by simp)).trans h.c0, World.cell?_setCell_same _ _ _ h.c1, (World.cell?_setCell_other _ _ _ _ (by simp)).trans h.c2, (World.cell?_setCell_other _ _ _ _ (by simp)).trans h.c3, fun o => by rw [World.frozen?_setCell]; exact h.f o, ⟨g, off, cap, rfl, h1, by simpa using h2, h3, h4.same fun o => World.cell?_setCell_other _ _ _ _ (by simp)⟩, ⟨h.good.l, h.good.x0, h.good.x1, h.good.t0, h.good.t1⟩, by simpa using h.lt⟩
theorem RefN.set3 (h : RefN W N v s) (t : Int) (t0 : 0 ≤ t) (t1 : t ≤ 65535) {u : Value} (hu : W.cell? ⟨N, 3, none⟩ = some u) : RefN (W.setCell ⟨N, 3, none⟩ (.int .i64 t)) N v { s with t := t } := by
  obtain ⟨g, off, cap, rfl, h1, h2, h3, h4⟩ := h.row
  exact ⟨(World.cell?_setCell_other _ _ _ _ (by simp)).trans h.c0, (World.cell?_setCell_other _ _ _ _ (by simp)).trans h.c1, (World.cell?_setCell_other _ _ _ _ (by simp)).trans h.c2, World.cell?_setCell_same _ _ _ hu, fun o => by rw [World.frozen?_setCell]; exact h.f o, ⟨g, off, cap, rfl, h1, by simpa using h2, h3, h4.same fun o => World.cell?_setCell_other _ _ _ _ (by simp)⟩, ⟨h.good.l, h.good.x0, h.good.x1, t0, t1⟩, by simpa using h.lt⟩
theorem RefN.set33 (h : RefN W N v s) (c t : Int) (t0 : 0 ≤ t) (t1 : t ≤ 65535) : RefN ((W.setCell ⟨N, 3, none⟩ (.int .i64 c)).setCell ⟨N, 3, none⟩ (.int .i64 t)) N v { s with t := t } := by
  obtain ⟨g, off, cap, rfl, h1, h2, h3, h4⟩ := h.row
  exact ⟨(World.cell?_setCell_other _ _ _ _ (by simp)).trans ((World.cell?_setCell_other _ _ _ _ (by simp)).trans h.c0), (World.cell?_setCell_other _ _ _ _ (by simp)).trans ((World.cell?_setCell_other _ _ _ _ (by simp)).trans h.c1), (World.cell?_setCell_other _ _ _ _ (by simp)).trans ((World.cell?_setCell_other _ _ _ _ (by simp)).trans h.c2), World.cell?_setCell_same _ _ _ (World.cell?_setCell_same _ _ _ h.c3), fun o => by rw [World.frozen?_setCell, World.frozen?_setCell]; exact h.f o, ⟨g, off, cap, rfl, h1, by simpa using h2, h3, h4.same fun o => (World.cell?_setCell_other _ _ _ _ (by simp)).trans (World.cell?_setCell_other _ _ _ _ (by simp))⟩, ⟨h.good.l, h.good.x0, h.good.x1, t0, t1⟩, by simpa using h.lt⟩
/-- A new row for the history. -/
theorem RefN.set0 (h : RefN W N v s) {g off cap : Nat} {l : List Bool} (hg : g ≠ N) (hs : g < W.heap.size) (hc : 16 ≤ cap) (hr : RowB W (some ⟨g, off, none⟩) 16 l) :
    RefN (W.setCell ⟨N, 0, none⟩ (.slice (some ⟨g, off, none⟩) 16 cap)) N (.slice (some ⟨g, off, none⟩) 16 cap) { s with h := l } :=
  ⟨World.cell?_setCell_same _ _ _ h.c0, (World.cell?_setCell_other _ _ _ _ (by simp)).trans h.c1, (World.cell?_setCell_other _ _ _ _ (by simp)).trans h.c2, (World.cell?_setCell_other _ _ _ _ (by simp)).trans h.c3, fun o => by rw [World.frozen?_setCell]; exact h.f o, ⟨g, off, cap, rfl, hg, by simpa using hs, hc, hr.same fun o => World.cell?_setCell_other _ _ _ _ (by simp)⟩, ⟨hr.1, h.good.x0, h.good.x1, h.good.t0, h.good.t1⟩, by simpa using h.lt⟩
end
theorem OwnB.cap_le {w : World} {base n cap : Nat} {e : TypeId} {ad : Option Addr} {l : List Bool} (h : OwnB w base e (.slice ad n cap) n l) : n ≤ cap := by
  rcases h.2 with ⟨e, e'⟩ | ⟨g, c, cur, hv, _, _, hle, _⟩
  · simp only [Value.slice.injEq] at e; omega
  · simp only [Value.slice.injEq] at hv; omega
/-- A new row is laid. -/
theorem RefN.lay {w W : World} {N : Nat} {v : Value} {s : Nh} (h : RefN w N v s) (hb : Below w.heap.size w W) {g off cap : Nat} {l : List Bool} (hg : w.heap.size ≤ g) (hs : g < W.heap.size) (hc : 16 ≤ cap) (hr : RowB W (some ⟨g, off, none⟩) 16 l) :
    RefN (W.setCell ⟨N, 0, none⟩ (.slice (some ⟨g, off, none⟩) 16 cap)) N (.slice (some ⟨g, off, none⟩) 16 cap) { s with h := l } ∧ Keep (fun k => k = N) w (W.setCell ⟨N, 0, none⟩ (.slice (some ⟨g, off, none⟩) 16 cap)) :=
  ⟨(h.later hb).set0 (by have := h.lt; omega) hs hc hr, (keep_of (B := fun k => k = N) hb).setCell (p := ⟨N, 0, none⟩) rfl _⟩
set_option maxHeartbeats 2000000 in
/-- A bit comes in. -/
theorem in_any (N : Nat) (v : Value) (s : Nh) (b : Bool) (w : World) (h : RefN w N v s) :
    Calls Try.prog 26 #[.pointer (some ⟨N, 0, none⟩), .bool b] w (DoneN w N v { s with h := inN b s.h }) := by
  obtain ⟨g, off, cap, rfl, h1, h2, h3, h4⟩ := h.row
  have HR : Hid (RefN w N _ s) := h
  have HB : Hid (RowB w (some ⟨g, off, none⟩) 16 s.h) := h4
  have HN : Hid (N < w.heap.size) := h.lt
  have z0 := h.c0
  have zf := h.f 0
  have za : ∀ o, (w.alloc o).cell? ⟨N, 0, none⟩ = some (.slice (some ⟨g, off, none⟩) 16 cap) := fun o => cell_later (below1 w o) h.c0
  have hcap : 15 ≤ cap := by omega
  have hcap' : (15 : Int) ≤ (cap : Int) := by omega
  clear h h4
  go_enter Try.func26, Try.ntmps26
  go_wp2_with (at_builtin; refine wpList_appB _ rfl (.tmp 7) (.tmp 12) 41 4 rfl w.heap.size Try.underlying41 infoB _ 1 [b] rfl (ownB_one w b) _ 15 cap (s.h.take 15) rfl ((rowB_take HB.out 15 (by omega)).later (below1 w _)) (by omega) 16 rfl (inN b s.h) rfl (by omega) (by simp) ?_; intro a2 c2 W2 own2 hb2; have HB2 : Hid (Below w.heap.size w W2) := (below1 w _).trans hb2; obtain ⟨z1, zf1⟩ := (show W2.cell? ⟨N, 0, none⟩ = some _ ∧ W2.frozen? ⟨N, 0, none⟩ = false from ⟨(HR.out.later HB2.out).c0, (HR.out.later HB2.out).f 0⟩))
  obtain ⟨g2, rfl, hg2, hs2, -⟩ := own2.cells (by omega)
  obtain ⟨k1, k2⟩ := HR.out.lay HB2.out hg2 hs2 own2.cap_le (own2.row (by omega))
  refine bodyPost_ret (v := .tuple #[]) (by simp [results, Try.results26, go_sem]) rfl ?_
  exact ⟨_, rfl, k1, fun g' hg' => by simp only [Value.ownBlock, Option.some.injEq] at hg'; omega, k2⟩
abbrev obj16 : Obj := .cells #[.bool false, .bool false, .bool false, .bool false, .bool false, .bool false, .bool false, .bool false, .bool false, .bool false, .bool false, .bool false, .bool false, .bool false, .bool false, .bool false] 4
theorem make16 (W : World) : Sem.run Try.prog (Instr.makeSlice 41 (.int .i64 16) (.int .i64 16)) W = .ok (.slice (some ⟨W.heap.size, 0, none⟩) 16 16) (W.alloc obj16) := by
  have h := run_make_row' 41 4 (.bool false) 1 Try.underlying41 infoB rfl .i64 .i64 16 (by omega) (by omega) W
  rw [show madeCells #[Value.bool false] 16 = #[.bool false, .bool false, .bool false, .bool false, .bool false, .bool false, .bool false, .bool false, .bool false, .bool false, .bool false, .bool false, .bool false, .bool false, .bool false, .bool false] from by kernel_rfl] at h
  exact h
theorem rowB_new (w : World) (l : List Bool) (t : TypeId) (hm : l.length ≤ 3000) :
    RowB (w.alloc (.cells (l.map Value.bool).toArray t)) (some ⟨w.heap.size, 0, none⟩) l.length l := by
  refine ⟨rfl, by omega, fun i hi => ⟨_, _, rfl, ?_⟩⟩
  rw [World.cell?_alloc_new]
  simp [hi]
theorem row16 (w : World) : RowB (w.alloc obj16) (some ⟨w.heap.size, 0, none⟩) 16 zeroN := rowB_new w zeroN 4 (by decide)
theorem refN_new (W : World) : RefN ((W.alloc obj16).alloc (.cells #[.slice (some ⟨W.heap.size, 0, none⟩) 16 16, .bool false, .int .u16 0, .int .i64 65535] 43)) (W.heap.size + 1) (.slice (some ⟨W.heap.size, 0, none⟩) 16 16) newN := by
  refine ⟨?_, ?_, ?_, ?_, fun o => ?_, ⟨W.heap.size, 0, 16, rfl, by omega, by simp; omega, Nat.le_refl _, (row16 W).later (below1 _ _)⟩, goodN_new, by simp⟩
  all_goals simp [go_sem, newN]
set_option maxHeartbeats 1000000 in
theorem refNew_any (w : World) : Calls Try.prog 11 #[] w fun e w' => e = .returned (.pointer (some ⟨w.heap.size + 1, 0, none⟩)) ∧ RefN w' (w.heap.size + 1) (.slice (some ⟨w.heap.size, 0, none⟩) 16 16) newN ∧ Below w.heap.size w w' := by
  have hmk := make16
  go_enter Try.func11, Try.ntmps11
  go_wp2
  go_ret
  exact ⟨rfl, refN_new w, below2 _ _ _⟩
set_option maxHeartbeats 1000000 in
theorem refMiss_any (N : Nat) (v : Value) (s : Nh) (w : World) (h : RefN w N v s) :
    Calls Try.prog 15 #[.pointer (some ⟨N, 0, none⟩)] w (DoneN w N v (missN s)) := by
  have HR : Hid (RefN w N v s) := h
  obtain ⟨l, y, x, t⟩ := s
  have z1 := h.c1
  simp only at z1
  clear h
  cases y
  · go_enter Try.func15, Try.ntmps15
    go_wp2
    refine bodyPost_ret (v := .tuple #[]) (by simp [results, Try.results15, go_sem]) rfl ?_
    exact ⟨v, rfl, HR.out, fun _ hg => .inl hg, Keep.refl _ _⟩
  · have hw : (x + 1) % 65536 = (x + 1) % 65536 := rfl
    go_enter Try.func15, Try.ntmps15
    go_wp2_with (go_at_call 26; refine (in_any N v _ false w HR.out).mono ?_; rintro e W1 ⟨v1, rfl, h1, h2, h3⟩; have z2 := h1.c2; have zf := h1.f 2; have H1 : Hid (_) := h1; clear h1; simp only at z2)
    refine bodyPost_ret (v := .tuple #[]) (by simp [results, Try.results15, go_sem]) rfl ?_
    exact ⟨v1, rfl, H1.out.set2 ((x + 1) % 65536) (by omega) (by omega), h2, h3.setCell (p := ⟨N, 2, none⟩) rfl _⟩
set_option maxHeartbeats 1000000 in
theorem refIhu_any (N : Nat) (v : Value) (s : Nh) (c : Int) (w : World) (h : RefN w N v s) :
    Calls Try.prog 17 #[.pointer (some ⟨N, 0, none⟩), .int .i64 c] w (DoneN w N v (ihuN s c)) := by
  have HR : Hid (RefN w N v s) := h
  have z3 := h.c3
  have zf := h.f 3
  clear h
  have hcase : (c < 0 ∧ ¬ 65535 < c ∧ toldN c = 0) ∨ (¬ c < 0 ∧ 65535 < c ∧ toldN c = 65535) ∨ (¬ c < 0 ∧ ¬ 65535 < c ∧ toldN c = c) := by
    unfold toldN
    by_cases h1 : c < 0
    · exact .inl ⟨h1, by omega, if_pos h1⟩
    · rw [if_neg h1]
      by_cases h2 : 65535 < c
      · exact .inr (.inl ⟨h1, h2, if_pos h2⟩)
      · exact .inr (.inr ⟨h1, h2, if_neg h2⟩)
  have HK : Hid (∀ t : Int, 0 ≤ t → t ≤ 65535 → toldN c = t → DoneN w N v (ihuN s c) (.returned (.tuple #[])) ((w.setCell ⟨N, 3, none⟩ (.int .i64 c)).setCell ⟨N, 3, none⟩ (.int .i64 t))) := fun t t0 t1 ht => by
    refine ⟨v, rfl, ?_, fun _ hg => .inl hg, ((Keep.refl (fun k => k = N) _).setCell (p := ⟨N, 3, none⟩) rfl _).setCell (p := ⟨N, 3, none⟩) rfl _⟩
    unfold ihuN
    rw [ht]
    exact HR.out.set33 c t t0 t1
  have HL : Hid (0 ≤ c → c ≤ 65535 → toldN c = c → DoneN w N v (ihuN s c) (.returned (.tuple #[])) (w.setCell ⟨N, 3, none⟩ (.int .i64 c))) := fun t0 t1 ht => by
    refine ⟨v, rfl, ?_, fun _ hg => .inl hg, (Keep.refl (fun k => k = N) _).setCell (p := ⟨N, 3, none⟩) rfl _⟩
    unfold ihuN
    rw [ht]
    exact HR.out.set3 c t0 t1 HR.out.c3
  rcases hcase with ⟨c1, c2, c3⟩ | ⟨c1, c2, c3⟩ | ⟨c1, c2, c3⟩
  · have H3 : Hid (_) := c3
    clear c3
    go_enter Try.func17, Try.ntmps17
    go_wp2
    refine bodyPost_ret (v := .tuple #[]) (by simp [results, Try.results17, go_sem]) rfl ?_
    exact HK.out 0 (by omega) (by omega) H3.out
  · have H3 : Hid (_) := c3
    clear c3
    go_enter Try.func17, Try.ntmps17
    go_wp2
    refine bodyPost_ret (v := .tuple #[]) (by simp [results, Try.results17, go_sem]) rfl ?_
    exact HK.out 65535 (by omega) (by omega) H3.out
  · have H3 : Hid (_) := c3
    clear c3
    go_enter Try.func17, Try.ntmps17
    go_wp2
    refine bodyPost_ret (v := .tuple #[]) (by simp [results, Try.results17, go_sem]) rfl ?_
    exact HL.out (by omega) (by omega) H3.out
theorem RefN.bit {W : World} {N : Nat} {s : Nh} {g off cap : Nat} (h : RefN W N (.slice (some ⟨g, off, none⟩) 16 cap) s) {j : Nat} (hj : j < 16) : ∃ b, s.h[j]? = some b ∧ W.cell? ⟨g, off + j, none⟩ = some (.bool b) := by
  obtain ⟨g', off', cap', e, -, -, -, hr⟩ := h.row
  simp only [Value.slice.injEq, Option.some.injEq, Addr.mk.injEq, and_true, true_and] at e
  obtain ⟨⟨rfl, rfl⟩, rfl⟩ := e
  have hl : j < s.h.length := by rw [hr.1]; exact hj
  obtain ⟨b', o', e, hc⟩ := hr.2.2 j hj
  simp only [Option.some.injEq, Addr.mk.injEq, and_true] at e
  obtain ⟨rfl, rfl⟩ := e
  rw [List.getElem?_eq_getElem hl] at hc
  exact ⟨_, List.getElem?_eq_getElem hl, hc⟩
set_option maxHeartbeats 2000000 in
theorem refHistory_any (N : Nat) (v : Value) (s : Nh) (w : World) (h : RefN w N v s) :
    Calls Try.prog 19 #[.pointer (some ⟨N, 0, none⟩)] w fun e w' => e = .returned (.int .u16 (numN s.h)) ∧ Below w.heap.size w w' := by
  obtain ⟨g, off, cap, rfl, -⟩ := h.row
  have HR : Hid (RefN w N _ s) := h
  clear h
  go_enter Try.func19, Try.ntmps19
  go_wp2
  go_loopw [3, 4] (fun x_ i_ W => ∃ (j : Nat), j ≤ 16 ∧ i_ = .int .i64 j ∧ x_ = .int .u16 (numN (s.h.take j)) ∧ Below w.heap.size w W) (fun _ i_ _ => 16 - (intOf i_).toNat)
  case atStart => exact ⟨0, Nat.zero_le _, rfl, rfl, Below.refl _ _⟩
  case round =>
    obtain ⟨j, hj, rfl, rfl, hB⟩ := hrel
    have hR := HR.out.later hB
    have z0 := hR.c0
    by_cases hlt : j < 16
    · have hlt' : (j : Int) < 16 := by omega
      obtain ⟨b, hb, hc⟩ := hR.bit hlt
      have HNx : Hid (_) := numN_take hb
      have hlen := hR.good.l
      have hle := numN_lt j (l := s.h) (by omega)
      have hp : (2 : Int) ^ j ≤ 2 ^ 15 := by
        have : (2 : Nat) ^ j ≤ 2 ^ 15 := Nat.pow_le_pow_right (by omega) (by omega)
        exact_mod_cast this
      obtain ⟨x, hx⟩ : ∃ x, numN (s.h.take j) = x := ⟨_, rfl⟩
      rw [hx] at HNx hle
      have hx01 : 0 ≤ x ∧ x < 32768 := by omega
      have HX : Hid (numN (s.h.take j) = x) := hx
      rw [hx]
      clear hR hb hle hp hlen hx
      cases b
      · have HNx' : Hid (numN (s.h.take (j + 1)) = x * 2) := by unfold Hid; rw [HNx.out]; simp [bitN]
        clear HNx
        go_wp2
        go_roundw
        case rel => exact ⟨j + 1, by omega, by go_num, by rw [HNx'.out], hB⟩
        case measure => simp [intOf]; omega
      · have HNx' : Hid (numN (s.h.take (j + 1)) = x * 2 + 1) := by unfold Hid; rw [HNx.out]; simp [bitN]
        clear HNx
        go_wp2
        go_roundw
        case rel => exact ⟨j + 1, by omega, by go_num, by rw [HNx'.out], hB⟩
        case measure => simp [intOf]; omega
    · have hlt' : ¬ (j : Int) < 16 := by omega
      obtain rfl : j = 16 := by omega
      rw [show s.h.take 16 = s.h by rw [← hR.good.l]; exact List.take_length]
      clear hR z0
      go_wp2
      go_ret
      exact ⟨rfl, hB⟩
theorem cnt_le : ∀ (j : Nat) {l : List Bool}, j ≤ l.length → 0 ≤ (l.take j).foldl (fun n b => n + bitN b) 0 ∧ (l.take j).foldl (fun n b => n + bitN b) 0 ≤ (j : Int)
  | 0, l, _ => by simp
  | j + 1, l, hj => by
    obtain ⟨h0, h1⟩ := cnt_le j (l := l) (by omega)
    have hb := bitN_le l[j]
    rw [firstN_take (List.getElem?_eq_getElem (by omega))]
    omega
set_option maxHeartbeats 2000000 in
theorem refRx_any (N : Nat) (v : Value) (s : Nh) (w : World) (h : RefN w N v s) :
    Calls Try.prog 21 #[.pointer (some ⟨N, 0, none⟩)] w fun e w' => e = .returned (.int .i64 (rxN s)) ∧ Below w.heap.size w w' := by
  obtain ⟨g, off, cap, rfl, -⟩ := h.row
  have HR : Hid (RefN w N _ s) := h
  clear h
  go_enter Try.func21, Try.ntmps21
  go_wp2
  go_loopw [3, 4] (fun x_ i_ W => ∃ (j : Nat), j ≤ 3 ∧ i_ = .int .i64 j ∧ x_ = .int .i64 ((s.h.take j).foldl (fun n b => n + bitN b) 0) ∧ Below w.heap.size w W) (fun _ i_ _ => 3 - (intOf i_).toNat)
  case atStart => exact ⟨0, Nat.zero_le _, rfl, rfl, Below.refl _ _⟩
  case round =>
    obtain ⟨j, hj, rfl, rfl, hB⟩ := hrel
    have hR := HR.out.later hB
    have z0 := hR.c0
    by_cases hlt : j < 3
    · have hlt' : (j : Int) < 3 := by omega
      have hlt16 : (j : Int) < 16 := by omega
      obtain ⟨b, hb, hc⟩ := hR.bit (show j < 16 by omega)
      have HNx : Hid (_) := firstN_take hb
      have hlen := hR.good.l
      have hle := cnt_le j (l := s.h) (by omega)
      obtain ⟨x, hx⟩ : ∃ x, (s.h.take j).foldl (fun n b => n + bitN b) 0 = x := ⟨_, rfl⟩
      rw [hx] at HNx hle
      rw [hx]
      clear hR hb hlen hx
      cases b
      · have HNx' : Hid ((s.h.take (j + 1)).foldl (fun n b => n + bitN b) 0 = x) := by unfold Hid; rw [HNx.out]; simp [bitN]
        clear HNx
        go_wp2
        go_roundw
        case rel => exact ⟨j + 1, by omega, by go_num, by rw [HNx'.out], hB⟩
        case measure => simp [intOf]; omega
      · have HNx' : Hid ((s.h.take (j + 1)).foldl (fun n b => n + bitN b) 0 = x + 1) := by unfold Hid; rw [HNx.out]; simp [bitN]
        clear HNx
        go_wp2
        go_roundw
        case rel => exact ⟨j + 1, by omega, by go_num, by rw [HNx'.out], hB⟩
        case measure => simp [intOf]; omega
    · have hlt' : ¬ (j : Int) < 3 := by omega
      obtain rfl : j = 3 := by omega
      obtain ⟨x, hx⟩ : ∃ x, (s.h.take 3).foldl (fun n b => n + bitN b) 0 = x := ⟨_, rfl⟩
      rw [hx]
      clear hR z0
      by_cases hx2 : x < 2
      · have HX : Hid (rxN s = 65535) := by unfold Hid rxN firstN; rw [hx, if_pos hx2]
        clear hx
        go_wp2
        go_ret
        exact ⟨by rw [HX.out]; rfl, hB⟩
      · have HX : Hid (rxN s = 96) := by unfold Hid rxN firstN; rw [hx, if_neg hx2]
        clear hx
        go_wp2
        go_ret
        exact ⟨by rw [HX.out]; rfl, hB⟩
set_option maxHeartbeats 2000000 in
theorem refCost_any (N : Nat) (v : Value) (s : Nh) (w : World) (h : RefN w N v s) :
    Calls Try.prog 23 #[.pointer (some ⟨N, 0, none⟩)] w fun e w' => e = .returned (.int .i64 (costN s)) ∧ Below w.heap.size w w' := by
  have HR : Hid (RefN w N v s) := h
  clear h
  obtain ⟨r, hr⟩ : ∃ r, rxN s = r := ⟨_, rfl⟩
  have HX : Hid (rxN s = r) := hr
  obtain ⟨l, y, x, t⟩ := s
  by_cases hc : r < t
  · have HC : Hid (costN ⟨l, y, x, t⟩ = t) := by unfold Hid costN; rw [hr]; exact if_pos hc
    clear hr
    go_enter Try.func23, Try.ntmps23
    go_wp2_with (go_at_call 21; refine (refRx_any N v _ w HR.out).mono ?_; rw [HX.out]; rintro e W1 ⟨rfl, hb1⟩; have z3 := (HR.out.later hb1).c3; simp only at z3)
    go_ret
    exact ⟨by rw [HC.out]; rfl, hb1⟩
  · have HC : Hid (costN ⟨l, y, x, t⟩ = r) := by unfold Hid costN; rw [hr]; exact if_neg hc
    clear hr
    go_enter Try.func23, Try.ntmps23
    go_wp2_with (go_at_call 21; refine (refRx_any N v _ w HR.out).mono ?_; rw [HX.out]; rintro e W1 ⟨rfl, hb1⟩; have z3 := (HR.out.later hb1).c3; simp only at z3)
    go_ret
    exact ⟨by rw [HC.out]; rfl, hb1⟩
end Go.Proofs.Ytenkghcdhanciaa
