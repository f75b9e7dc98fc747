/- Which of two timers comes first: the program's compare; a row of timers that is sorted in place. -/
import Derived.Test.YtajpfmnnkglkiaaTimR
import Derived.Sort.OwnSorted
import Derived.Shelf.GgSortFunc.InsertionK
namespace Go.Proofs.Ytajpfmnnkglkiaa
open Go.RowKit Go.Sort

instance : Inhabited Tm := ⟨⟨0, 0⟩⟩
def cmpI (x y : Int) : Int := if x < y then -1 else if y < x then 1 else 0
def cmpT (x y : Tm) : Int := if x.a = y.a then cmpI x.i y.i else cmpI x.a y.a
theorem isNaN_any (x : Int) (w : World) : Calls Try.prog 34 #[.int .i64 x] w fun e w' => e = .returned (.bool false) ∧ w' = w := by
  go_enter Try.func34, Try.ntmps34
  go_wp2
  go_ret
  exact ⟨by simp, rfl⟩
theorem cmpI_any (x y : Int) (w : World) : Calls Try.prog 23 #[.int .i64 x, .int .i64 y] w fun e w' => e = .returned (.int .i64 (cmpI x y)) ∧ w' = w := by
  unfold cmpI
  by_cases h : x < y
  · rw [if_pos h]
    go_enter Try.func23, Try.ntmps23
    go_wp2_with (go_at_call 34; refine (isNaN_any _ _).mono ?_; rintro e w' ⟨rfl, rfl⟩)
    go_ret
    exact ⟨rfl, rfl⟩
  · rw [if_neg h]
    by_cases h2 : y < x
    · rw [if_pos h2]
      go_enter Try.func23, Try.ntmps23
      go_wp2_with (go_at_call 34; refine (isNaN_any _ _).mono ?_; rintro e w' ⟨rfl, rfl⟩)
      go_ret
      exact ⟨rfl, rfl⟩
    · rw [if_neg h2]
      go_enter Try.func23, Try.ntmps23
      go_wp2_with (go_at_call 34; refine (isNaN_any _ _).mono ?_; rintro e w' ⟨rfl, rfl⟩)
      go_ret
      exact ⟨rfl, rfl⟩
theorem compare_any (x y : Tm) (W : World) : Calls Try.prog 20 #[.agg #[.int .i64 x.i, .int .i64 x.a], .agg #[.int .i64 y.i, .int .i64 y.a]] W fun e w' => e = .returned (.int .i64 (cmpT x y)) ∧ ∃ q os', w' = grow (W.drewN q) os' := by
  obtain ⟨i, a⟩ := x
  obtain ⟨j, c⟩ := y
  unfold cmpT
  show Calls Try.prog 20 #[.agg #[.int .i64 i, .int .i64 a], .agg #[.int .i64 j, .int .i64 c]] W fun e w' => e = .returned (.int .i64 (if a = c then cmpI i j else cmpI a c)) ∧ ∃ q os', w' = grow (W.drewN q) os'
  by_cases h : a = c
  · subst h
    rw [if_pos rfl]
    obtain ⟨r, hr⟩ : ∃ r, cmpI i j = r := ⟨_, rfl⟩
    have HR : Hid (cmpI i j = r) := hr
    rw [hr]
    clear hr
    go_enter Try.func20, Try.ntmps20
    go_wp2_with (go_at_call 23; refine (cmpI_any _ _ _).mono ?_; rw [HR.out]; rintro e w' ⟨rfl, rfl⟩)
    go_ret
    exact ⟨rfl, 0, _, by rw [alloc_eq_grow, alloc_eq_grow, grow_grow]; rfl⟩
  · have hb : (a == c) = false := by simpa using h
    rw [if_neg h]
    obtain ⟨r, hr⟩ : ∃ r, cmpI a c = r := ⟨_, rfl⟩
    have HR : Hid (cmpI a c = r) := hr
    rw [hr]
    clear hr h
    go_enter Try.func20, Try.ntmps20
    go_wp2_with (go_at_call 23; refine (cmpI_any _ _ _).mono ?_; rw [HR.out]; rintro e w' ⟨rfl, rfl⟩)
    go_ret
    exact ⟨rfl, 0, _, by rw [alloc_eq_grow, alloc_eq_grow, grow_grow]; rfl⟩
theorem cmpT_lt (x y : Tm) : decide (cmpT x y < 0) = decide (x.lt y) := by
  rw [decide_eq_decide]
  unfold cmpT cmpI Tm.lt
  repeat' split
  all_goals omega
theorem swoT {f : Tm → Tm → Bool} (h : ∀ x y, f x y = decide (x.lt y)) : SWO f where
  irrefl x := by rw [h]; simpa using Tm.lt_irrefl x
  trans x y z h1 h2 := by rw [h] at *; simp only [decide_eq_true_eq] at *; exact Tm.lt_trans h1 h2
  ntrans x y z h1 h2 := by rw [h] at *; simp only [decide_eq_false_iff_not] at *; unfold Tm.lt at *; omega
theorem totT {f : Tm → Tm → Bool} (h : ∀ x y, f x y = decide (x.lt y)) (x y : Tm) (h1 : f x y = false) (h2 : f y x = false) : x = y := by
  rw [h] at h1 h2
  simp only [decide_eq_false_iff_not] at h1 h2
  unfold Tm.lt at h1 h2
  exact tm_ext (by omega) (by omega)
/-- The sorted list. -/
def srtL (f : Tm → Tm → Bool) (M : List Tm) : List Tm := M.mergeSort fun x y => !f y x
theorem srtL_perm (f : Tm → Tm → Bool) (M : List Tm) : (srtL f M).Perm M := List.mergeSort_perm _ _
theorem srtL_sorted {f : Tm → Tm → Bool} (h : ∀ x y, f x y = decide (x.lt y)) (M : List Tm) : (srtL f M).Pairwise fun x y => ¬ y.lt x := by
  have h1 := List.pairwise_mergeSort (le := fun x y => !f y x) (fun a b c h1 h2 => by
    simp only [h, Bool.not_eq_true', decide_eq_false_iff_not] at *
    unfold Tm.lt at *
    omega) (fun a b => by
    simp only [h, Bool.or_eq_true, Bool.not_eq_true', decide_eq_false_iff_not]
    unfold Tm.lt
    omega) M
  exact h1.imp fun {a b} h2 => by simpa [h] using h2
theorem flat_eq (M : List Tm) : (flatK Tm.cs 2 M.toArray).toList = M.flatMap Tm.cs := by
  apply List.ext_getElem?
  intro t
  by_cases ht : t < M.length * 2
  · have hq : t / 2 < M.length := by omega
    have h1 := csT_at M (t / 2) M[t / 2] (List.getElem?_eq_getElem hq) (t % 2) (by omega)
    rw [show t / 2 * 2 + t % 2 = t from by omega] at h1
    rw [h1, Array.getElem?_toList, getElem?_pos (flatK Tm.cs 2 M.toArray) t (by simpa using ht), ← getElem!_pos (flatK Tm.cs 2 M.toArray) t (by simpa using ht), get_flatK _ _ _ t (by simpa using ht)]
    have h2 : (M.toArray)[t / 2]! = M[t / 2] := by simp [hq]
    have h3 : t % 2 < (Tm.cs M[t / 2]).length := by show t % 2 < 2; omega
    rw [h2, getElem!_pos (Tm.cs M[t / 2]) (t % 2) h3, List.getElem?_eq_getElem h3]
  · rw [List.getElem?_eq_none (by simp; omega), List.getElem?_eq_none (by rw [csT_flat_len]; omega)]
theorem holds_vals {w : World} {g : Nat} {cur F : Array Value} {e : TypeId} (hb : w.heap[g]? = some (.cells cur e (0, 0))) (ht : cur.toList.take F.size = F.toList) : Holds id w g 0 F := by
  intro j hj
  refine ⟨?_, by simp [World.frozen?, hb]⟩
  have h1 : (cur.toList.take F.size)[j]? = F.toList[j]? := by rw [ht]
  rw [List.getElem?_take_of_lt hj, Array.getElem?_toList, Array.getElem?_toList] at h1
  simp only [World.cell?, hb, Nat.zero_add, Option.isSome_none, Bool.false_eq_true, if_false, id]
  rw [h1, getElem?_pos F j hj, getElem!_pos F j hj]
theorem heap_put {w : World} {g n : Nat} {os : Array Obj} {cur : Array Value} {e : TypeId} {fr : Nat × Nat} (F : Array Value) (hb : w.heap[g]? = some (.cells cur e fr)) :
    (grow (putRow id (Sort.ahead w n) g 0 F) os).heap[g]? = some (.cells (putCells id 0 F cur) e fr) := by
  have hg : g < w.heap.size := (Array.getElem?_eq_some_iff.1 hb).1
  rw [heap_grow_old _ _ (by simpa using hg)]
  simp [putRow, mapBlock, Sort.ahead, Array.getElem?_modify, hb, onCells]
theorem grown_put {w : World} {g n : Nat} {os : Array Obj} (F : Array Value) : w.grownBy (grow (putRow id (Sort.ahead w n) g 0 F) os) (some g) := by
  refine ⟨rfl, rfl, rfl, by simp, fun k hk hne => ?_⟩
  rw [heap_grow_old _ _ (by simpa using hk)]
  have : g ≠ k := fun e => hne (by rw [e])
  simp [putRow, mapBlock, Sort.ahead, Array.getElem?_modify, this]
theorem take_put (cur F : Array Value) (h : F.size ≤ cur.size) : (putCells id 0 F cur).toList.take F.size = F.toList := by
  apply List.ext_getElem?
  intro j
  by_cases hj : j < F.size
  · rw [List.getElem?_take_of_lt hj, Array.getElem?_toList, Array.getElem?_toList, getElem?_pos F j hj]
    simp [putCells, hj, show j < cur.size by omega]
  · rw [List.getElem?_take_eq_none (by omega), List.getElem?_eq_none (by simpa using hj)]
/-- A row of one's own holds its timers as the sort reads them. -/
theorem OwnT.holds {w : World} {base g cap : Nat} {M : List Tm} (h : OwnT w base (.slice (some ⟨g, 0, none⟩) M.length cap) M.length M) : HoldsK Tm.cs 2 w g 0 M.toArray ∧ g < w.heap.size := by
  rcases h.2 with ⟨h1, _⟩ | ⟨g', cap', cur, hv, hb, hg, h1, h2, h3, h4⟩
  · cases h1
  · simp only [Value.slice.injEq, Option.some.injEq, Addr.mk.injEq, true_and, and_true] at hv
    obtain ⟨rfl, rfl⟩ := hv
    refine ⟨holds_vals hg ?_, (Array.getElem?_eq_some_iff.1 hg).1⟩
    rw [size_flatK, flat_eq]
    simpa using h4
/-- Behind the sort the same slice owns the sorted list; nothing else has turned. -/
theorem OwnT.sorted {w : World} {base g cap n : Nat} {os : Array Obj} {M S : List Tm} (h : OwnT w base (.slice (some ⟨g, 0, none⟩) M.length cap) M.length M) (hl : S.length = M.length) :
    OwnT (sortWorldK Tm.cs 2 w g 0 n S.toArray os) base (.slice (some ⟨g, 0, none⟩) M.length cap) M.length S ∧ w.grownBy (sortWorldK Tm.cs 2 w g 0 n S.toArray os) (some g) ∧ base ≤ g := by
  rcases h.2 with ⟨h1, _⟩ | ⟨g', cap', cur, hv, hb, hg, h1, h2, h3, h4⟩
  · cases h1
  · simp only [Value.slice.injEq, Option.some.injEq, Addr.mk.injEq, true_and, and_true] at hv
    obtain ⟨rfl, rfl⟩ := hv
    have hF : (flatK Tm.cs 2 S.toArray).size = M.length * 2 := by simp [hl]
    refine ⟨⟨by rw [csT_flat_len, hl], .inr ⟨g, cap, _, rfl, hb, heap_put _ hg, h1, h2, by simp [putCells, h3], ?_⟩⟩, grown_put _, hb⟩
    have h5 := take_put cur (flatK Tm.cs 2 S.toArray) (by rw [hF, h3]; omega)
    rw [hF, flat_eq] at h5
    exact h5
end Go.Proofs.Ytajpfmnnkglkiaa
