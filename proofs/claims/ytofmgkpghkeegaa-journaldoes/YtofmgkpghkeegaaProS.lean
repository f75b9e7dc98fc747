/- Which of two facts comes first: the program's compare; a row of facts that is sorted in place; what is asked of the program's sort. -/
import Derived.Test.YtofmgkpghkeegaaJouR
import Derived.Sort.OwnSorted
import Derived.Shelf.GgSortFunc.InsertionK
namespace Go.Proofs.Ytofmgkpghkeegaa
open Go.RowKit Go.Sort

instance : Inhabited Fc := ⟨⟨0, 0, 0⟩⟩
def cmpI (x y : Int) : Int := if x < y then -1 else if y < x then 1 else 0
def cmpF (x y : Fc) : Int := if x.k = y.k then cmpI x.y y.y else cmpI x.k y.k
theorem isNaN_any (x : Int) (w : World) : Calls Try.prog 50 #[.int .i64 x] w fun e w' => e = .returned (.bool false) ∧ w' = w := by
  go_enter Try.func50, Try.ntmps50
  go_wp2
  go_ret
  exact ⟨by simp, rfl⟩
theorem cmpI_any (x y : Int) (w : World) : Calls Try.prog 37 #[.int .i64 x, .int .i64 y] w fun e w' => e = .returned (.int .i64 (cmpI x y)) ∧ w' = w := by
  unfold cmpI
  by_cases h : x < y
  · rw [if_pos h]
    go_enter Try.func37, Try.ntmps37
    go_wp2_with (go_at_call 50; refine (isNaN_any _ _).mono ?_; rintro e w' ⟨rfl, rfl⟩)
    go_ret
    exact ⟨rfl, rfl⟩
  · rw [if_neg h]
    by_cases h2 : y < x
    · rw [if_pos h2]
      go_enter Try.func37, Try.ntmps37
      go_wp2_with (go_at_call 50; refine (isNaN_any _ _).mono ?_; rintro e w' ⟨rfl, rfl⟩)
      go_ret
      exact ⟨rfl, rfl⟩
    · rw [if_neg h2]
      go_enter Try.func37, Try.ntmps37
      go_wp2_with (go_at_call 50; refine (isNaN_any _ _).mono ?_; rintro e w' ⟨rfl, rfl⟩)
      go_ret
      exact ⟨rfl, rfl⟩
theorem isNaNu_any (x : Int) (w : World) : Calls Try.prog 51 #[.int .u32 x] w fun e w' => e = .returned (.bool false) ∧ w' = w := by
  go_enter Try.func51, Try.ntmps51
  go_wp2
  go_ret
  exact ⟨by simp, rfl⟩
theorem cmpU_any (x y : Int) (w : World) : Calls Try.prog 38 #[.int .u32 x, .int .u32 y] w fun e w' => e = .returned (.int .i64 (cmpI x y)) ∧ w' = w := by
  unfold cmpI
  by_cases h : x < y
  · rw [if_pos h]
    go_enter Try.func38, Try.ntmps38
    go_wp2_with (go_at_call 51; refine (isNaNu_any _ _).mono ?_; rintro e w' ⟨rfl, rfl⟩)
    go_ret
    exact ⟨rfl, rfl⟩
  · rw [if_neg h]
    by_cases h2 : y < x
    · rw [if_pos h2]
      go_enter Try.func38, Try.ntmps38
      go_wp2_with (go_at_call 51; refine (isNaNu_any _ _).mono ?_; rintro e w' ⟨rfl, rfl⟩)
      go_ret
      exact ⟨rfl, rfl⟩
    · rw [if_neg h2]
      go_enter Try.func38, Try.ntmps38
      go_wp2_with (go_at_call 51; refine (isNaNu_any _ _).mono ?_; rintro e w' ⟨rfl, rfl⟩)
      go_ret
      exact ⟨rfl, rfl⟩
theorem compare_any (x z : Fc) (W : World) : Calls Try.prog 30 #[.agg #[.int .i64 x.k, .int .u32 x.y, .int .u32 x.n], .agg #[.int .i64 z.k, .int .u32 z.y, .int .u32 z.n]] W fun e w' => e = .returned (.int .i64 (cmpF x z)) ∧ ∃ q os', w' = grow (W.drewN q) os' := by
  obtain ⟨i, a, u⟩ := x
  obtain ⟨j, c, v⟩ := z
  unfold cmpF
  show Calls Try.prog 30 #[.agg #[.int .i64 i, .int .u32 a, .int .u32 u], .agg #[.int .i64 j, .int .u32 c, .int .u32 v]] W fun e w' => e = .returned (.int .i64 (if i = j then cmpI a c else cmpI i j)) ∧ ∃ q os', w' = grow (W.drewN q) os'
  by_cases h : i = j
  · subst h
    rw [if_pos rfl]
    obtain ⟨r, hr⟩ : ∃ r, cmpI a c = r := ⟨_, rfl⟩
    have HR : Hid (cmpI a c = r) := hr
    rw [hr]
    clear hr
    go_enter Try.func30, Try.ntmps30
    go_wp2_with (go_at_call 38; refine (cmpU_any _ _ _).mono ?_; rw [HR.out]; rintro e w' ⟨rfl, rfl⟩)
    go_ret
    exact ⟨rfl, 0, _, by rw [alloc_eq_grow, alloc_eq_grow, grow_grow]; rfl⟩
  · have hb : (i == j) = false := by simpa using h
    rw [if_neg h]
    obtain ⟨r, hr⟩ : ∃ r, cmpI i j = r := ⟨_, rfl⟩
    have HR : Hid (cmpI i j = r) := hr
    rw [hr]
    clear hr h
    go_enter Try.func30, Try.ntmps30
    go_wp2_with (go_at_call 37; refine (cmpI_any _ _ _).mono ?_; rw [HR.out]; rintro e w' ⟨rfl, rfl⟩)
    go_ret
    exact ⟨rfl, 0, _, by rw [alloc_eq_grow, alloc_eq_grow, grow_grow]; rfl⟩
def ltF (x y : Fc) : Bool := decide (x.lt y)
theorem cmpF_lt (x y : Fc) : decide (cmpF x y < 0) = ltF x y := by
  unfold ltF
  rw [decide_eq_decide]
  unfold cmpF cmpI Fc.lt
  repeat' split
  all_goals omega
theorem swoF : SWO ltF where
  irrefl x := by unfold ltF; simpa using Fc.lt_irrefl x
  trans x y z h1 h2 := by unfold ltF at *; simp only [decide_eq_true_eq] at *; exact Fc.lt_trans h1 h2
  ntrans x y z h1 h2 := by unfold ltF at *; simp only [decide_eq_false_iff_not] at *; unfold Fc.lt at *; omega
theorem flat_eq (M : List Fc) : (flatK Fc.cs 3 M.toArray).toList = M.flatMap Fc.cs := by
  apply List.ext_getElem?
  intro t
  by_cases ht : t < M.length * 3
  · have hq : t / 3 < M.length := by omega
    have h1 := csF_at M (t / 3) M[t / 3] (List.getElem?_eq_getElem hq) (t % 3) (by omega)
    rw [show t / 3 * 3 + t % 3 = t from by omega] at h1
    rw [h1, Array.getElem?_toList, getElem?_pos (flatK Fc.cs 3 M.toArray) t (by simpa using ht), ← getElem!_pos (flatK Fc.cs 3 M.toArray) t (by simpa using ht), get_flatK _ _ _ t (by simpa using ht)]
    have h2 : (M.toArray)[t / 3]! = M[t / 3] := by simp [hq]
    have h3 : t % 3 < (Fc.cs M[t / 3]).length := by show t % 3 < 3; omega
    rw [h2, getElem!_pos (Fc.cs M[t / 3]) (t % 3) h3, List.getElem?_eq_getElem h3]
  · rw [List.getElem?_eq_none (by simp; omega), List.getElem?_eq_none (by rw [csF_flat_len]; omega)]
theorem holds_vals {w : World} {g : Nat} {cur F : Array Value} {e : TypeId} (hb : w.heap[g]? = some (.cells cur e (0, 0))) (ht : cur.toList.take F.size = F.toList) : Holds id w g 0 F := by
  intro j hj
  refine ⟨?_, by simp [World.frozen?, hb]⟩
  have h1 : (cur.toList.take F.size)[j]? = F.toList[j]? := by rw [ht]
  rw [List.getElem?_take_of_lt hj, Array.getElem?_toList, Array.getElem?_toList] at h1
  simp only [World.cell?, hb, Nat.zero_add, Option.isSome_none, Bool.false_eq_true, if_false, id]
  rw [h1, getElem?_pos F j hj, getElem!_pos F j hj]
theorem heap_put {w : World} {g n : Nat} {os : Array Obj} {cur : Array Value} {e : TypeId} {fr : Nat × Nat} (F : Array Value) (hb : w.heap[g]? = some (.cells cur e fr)) :
    (grow (putRow id (Sort.ahead w n) g 0 F) os).heap[g]? = some (.cells (putCells id 0 F cur) e fr) := by
  have hg : g < w.heap.size := (Array.getElem?_eq_some_iff.1 hb).1
  rw [heap_grow_old _ _ (by simpa using hg)]
  simp [putRow, mapBlock, Sort.ahead, Array.getElem?_modify, hb, onCells]
theorem grown_put {w : World} {g n : Nat} {os : Array Obj} (F : Array Value) : w.grownBy (grow (putRow id (Sort.ahead w n) g 0 F) os) (some g) := by
  refine ⟨rfl, rfl, rfl, by simp, fun k hk hne => ?_⟩
  rw [heap_grow_old _ _ (by simpa using hk)]
  have : g ≠ k := fun e => hne (by rw [e])
  simp [putRow, mapBlock, Sort.ahead, Array.getElem?_modify, this]
theorem take_put (cur F : Array Value) (h : F.size ≤ cur.size) : (putCells id 0 F cur).toList.take F.size = F.toList := by
  apply List.ext_getElem?
  intro j
  by_cases hj : j < F.size
  · rw [List.getElem?_take_of_lt hj, Array.getElem?_toList, Array.getElem?_toList, getElem?_pos F j hj]
    simp [putCells, hj, show j < cur.size by omega]
  · rw [List.getElem?_take_eq_none (by omega), List.getElem?_eq_none (by simpa using hj)]
/-- A row of one's own holds its timers as the sort reads them. -/
theorem OwnF.holds {w : World} {base g cap : Nat} {M : List Fc} (h : OwnF w base (.slice (some ⟨g, 0, none⟩) M.length cap) M.length M) : HoldsK Fc.cs 3 w g 0 M.toArray ∧ g < w.heap.size := by
  rcases h.2 with ⟨h1, _⟩ | ⟨g', cap', cur, hv, hb, hg, h1, h2, h3, h4⟩
  · cases h1
  · simp only [Value.slice.injEq, Option.some.injEq, Addr.mk.injEq, true_and, and_true] at hv
    obtain ⟨rfl, rfl⟩ := hv
    refine ⟨holds_vals hg ?_, (Array.getElem?_eq_some_iff.1 hg).1⟩
    rw [size_flatK, flat_eq]
    simpa using h4
/-- Behind the sort the same slice owns the sorted list; nothing else has turned. -/
theorem OwnF.sorted {w : World} {base g cap n : Nat} {os : Array Obj} {M S : List Fc} (h : OwnF w base (.slice (some ⟨g, 0, none⟩) M.length cap) M.length M) (hl : S.length = M.length) :
    OwnF (sortWorldK Fc.cs 3 w g 0 n S.toArray os) base (.slice (some ⟨g, 0, none⟩) M.length cap) M.length S ∧ w.grownBy (sortWorldK Fc.cs 3 w g 0 n S.toArray os) (some g) ∧ base ≤ g := by
  rcases h.2 with ⟨h1, _⟩ | ⟨g', cap', cur, hv, hb, hg, h1, h2, h3, h4⟩
  · cases h1
  · simp only [Value.slice.injEq, Option.some.injEq, Addr.mk.injEq, true_and, and_true] at hv
    obtain ⟨rfl, rfl⟩ := hv
    have hF : (flatK Fc.cs 3 S.toArray).size = M.length * 3 := by simp [hl]
    refine ⟨⟨by rw [csF_flat_len, hl], .inr ⟨g, cap, _, rfl, hb, heap_put _ hg, h1, h2, by simp [putCells, h3], ?_⟩⟩, grown_put _, hb⟩
    have h5 := take_put cur (flatK Fc.cs 3 S.toArray) (by rw [hF, h3]; omega)
    rw [hF, flat_eq] at h5
    exact h5
def SortC : Prop := ∀ (w : World) (base n cap : Nat) (ad : Option Addr) (M : List Fc), OwnF w base (.slice ad n cap) n M → n ≤ 100000 →
    Calls Try.prog 29 #[.slice ad n cap, .func (.func 30) #[] #[]] w fun e w' => e = .returned (.tuple #[]) ∧ ∃ S : List Fc, S.Perm M ∧ S.Pairwise (fun x y => ¬ y.lt x) ∧ OwnF w' base (.slice ad n cap) n S ∧ Keep (fun k => (Value.slice ad n cap).ownBlock = some k) w w'
end Go.Proofs.Ytofmgkpghkeegaa
