/- What the program's dualpkt leans on: copies into one's own bytes, numbers as bytes, bytes that are the same, clones, noughts, entries and packets that may be. -/
import Derived.Test.YtnlgdkbpolckcaaProA
import Derived.Test.YtnlgdkbpolckcaaRefD
import Derived.Laws.CopyOwn
import Derived.Lib.QuietBelow
import Derived.BigQuiet
import Derived.Deep.QuietTactic
namespace Go.Proofs.Ytnlgdkbpolckcaa
open Go.RowKit

theorem size5 : (Try.prog.info? 5).map (·.size) = some 1 := by kernel_rfl
theorem list_mid {α : Type} (A M : List α) (k m n : Nat) (hM : M.length = m) (hk : k + m ≤ n) (hn : n ≤ A.length) : (A.take k ++ M ++ A.drop (k + m)).take n = (A.take n).take k ++ M ++ (A.take n).drop (k + m) := by
  have h1 : (A.take k ++ M).length = k + m := by rw [List.length_append, List.length_take, hM]; omega
  rw [List.take_append, h1, List.take_of_length_le (by omega), List.take_take, Nat.min_eq_left (by omega), List.drop_take]
/-- What copy leaves of one's own bytes. -/
theorem Own8.copied {W : World} {base g n cap k m sc b off dl dc : Nat} {L M : List Int} (T : TypeId) (h : Own8 W base 5 (.slice (some ⟨g, 0, none⟩) n cap) n L) (hr : Row8 W (some ⟨b, off, none⟩) m M) (hm : 0 < m) (hk : k + m ≤ n) (hdl : m ≤ dl) :
    ∃ W', (Builtin.copy_ #[27, 27] T #[.slice (some ⟨g, k, none⟩) dl dc, .slice (some ⟨b, off, none⟩) m sc]).run Try.prog W = .ok (goInt m) W' ∧ Own8 W' base 5 (.slice (some ⟨g, 0, none⟩) n cap) n (L.take k ++ M ++ L.drop (k + m)) ∧ Below g W W' ∧ W'.heap.size = W.heap.size := by
  have hl := h.len
  rcases h.2 with ⟨_, h0⟩ | ⟨g', c', cur, hv, hbg, hg, hle, hmx, hsz, htk⟩
  · omega
  simp only [Value.slice.injEq, Option.some.injEq, Addr.mk.injEq, and_true, true_and] at hv
  obtain ⟨rfl, rfl⟩ := hv
  have hMl : (M.map (Value.int .u8)).length = m := by rw [List.length_map]; exact hr.1
  have hsrc : ∀ j v, (M.map (Value.int .u8))[j]? = some v → W.cell? (Addr.add ⟨b, off, none⟩ j) = some v := by
    intro j v hj
    have hjl : j < m := by
      rcases Nat.lt_or_ge j m with h | h
      · exact h
      · rw [List.getElem?_eq_none (by omega)] at hj; cases hj
    obtain ⟨b', off', e, hc⟩ := hr.2.2.2 j hjl
    simp only [Option.some.injEq, Addr.mk.injEq, and_true] at e
    obtain ⟨rfl, rfl⟩ := e
    have hjM : j < M.length := by rw [hr.1]; exact hjl
    rw [Go.WideShapes.add_plain, hc, ← hj]
    simp [hjM]
  have hrun := run_copy_row (P := Try.prog) W 27 27 T 5 g k dl dc ⟨b, off, none⟩ m sc cur 5 (M.map (Value.int .u8)) Try.underlying27 size5 hg (by rw [hMl]; show m = min m dl; omega) hsrc (by rw [hMl, hsz]; omega) (by intro v hv; obtain ⟨_, _, rfl⟩ := List.mem_map.1 hv; rfl)
  rw [hMl] at hrun
  rw [Nat.mul_one] at htk hsz
  have hcl : n ≤ cur.toList.length := by rw [Array.length_toList, hsz]; exact hle
  refine ⟨_, hrun, ⟨by simp [hr.1, hl]; omega, .inr ⟨g, cap, _, rfl, hbg, setRow_heap W g _ _ 5 (0, 0) hg, hle, hmx, ?_, ?_⟩⟩, below_setRow (Below.refl _ _) (Nat.le_refl _) _, by simp [World.setRow]⟩
  · have hc2 : cur.toList.length = cap := by rw [Array.length_toList]; exact hsz
    simp only [List.size_toArray, List.length_append, List.length_take, List.length_drop, hMl, hc2]; omega
  · rw [Nat.mul_one]
    simp only
    rw [list_mid _ _ k m n hMl hk hcl, htk]
    simp
/-- One of one's own bytes is written. -/
theorem Own8.setAt {W : World} {base g n cap i : Nat} {L : List Int} (h : Own8 W base 5 (.slice (some ⟨g, 0, none⟩) n cap) n L) (hi : i < n) (x : Int) : Own8 (W.setCell ⟨g, i, none⟩ (.int .u8 x)) base 5 (.slice (some ⟨g, 0, none⟩) n cap) n (L.set i x) := by
  have hl := h.len
  rcases h.2 with ⟨_, h0⟩ | ⟨g', c', cur, hv, hbg, hg, hle, hmx, hsz, htk⟩
  · omega
  simp only [Value.slice.injEq, Option.some.injEq, Addr.mk.injEq, and_true, true_and] at hv
  obtain ⟨rfl, rfl⟩ := hv
  rw [setCell_eq_setRow W g i cur 5 (0, 0) _ hg]
  refine ⟨by simp [hl], .inr ⟨g, cap, _, rfl, hbg, setRow_heap W g _ _ 5 (0, 0) hg, hle, hmx, by simpa using hsz, ?_⟩⟩
  rw [Array.toList_setIfInBounds, List.take_set, htk, List.map_set]
theorem Own8.cells {W : World} {base g n cap : Nat} {L : List Int} (h : Own8 W base 5 (.slice (some ⟨g, 0, none⟩) n cap) n L) (h0 : 0 < n) : base ≤ g ∧ g < W.heap.size ∧ n ≤ cap ∧ (∀ i, i < n → W.cell? ⟨g, i, none⟩ = some (.int .u8 (L[i]?.getD 0))) ∧ ∀ o, W.frozen? ⟨g, o, none⟩ = false := by
  have hl := h.len
  rcases h.2 with ⟨_, h0⟩ | ⟨g', c', cur, hv, hbg, hg, hle, hmx, hsz, htk⟩
  · omega
  simp only [Value.slice.injEq, Option.some.injEq, Addr.mk.injEq, and_true, true_and] at hv
  obtain ⟨rfl, rfl⟩ := hv
  refine ⟨hbg, (Array.getElem?_eq_some_iff.1 hg).1, hle, fun i hi => ?_, fun o => by simp [World.frozen?, hg]⟩
  have e : (cur.toList.take (n * 1))[i]? = cur[i]? := by rw [List.getElem?_take_of_lt (by omega), Array.getElem?_toList]
  have hil : i < L.length := by omega
  rw [htk] at e
  simp only [World.cell?, hg]
  rw [← e]
  simp [hil]
section
variable {ops : Array Oper} {o : Oper} {a : Act} {w : World} {K : Act → World → Prop} {Q : Exit → Act → World → Prop} {E : Prop}
theorem step_copy8 (hgd : o.guard = none) (d s : Operand) (ho : o.op = .call { callee := .builtin .copy, args := #[d, s], argTypes := #[27, 27] })
    (base g n cap : Nat) (L : List Int) (own : Own8 w base 5 (.slice (some ⟨g, 0, none⟩) n cap) n L) (k dl dc : Nat) (hd : a.eval d = .slice (some ⟨g, k, none⟩) dl dc) (b off m sc : Nat) (M : List Int) (hs : a.eval s = .slice (some ⟨b, off, none⟩) m sc) (hr : Row8 w (some ⟨b, off, none⟩) m M) (hm : 0 < m) (hk : k + m ≤ n) (hdl : m ≤ dl)
    (h : ∀ w', Own8 w' base 5 (.slice (some ⟨g, 0, none⟩) n cap) n (L.take k ++ M ++ L.drop (k + m)) → Below g w w' → w'.heap.size = w.heap.size → K (a.put o.dst (goInt m)) w') :
    if Region.wanted o (yielded ops a.tmps) = true then Oper.wp Try.prog o a w K Q else E := by
  have hw : Region.wanted o (yielded ops a.tmps) = true := by simp [Region.wanted, hgd]
  rw [if_pos hw]
  obtain ⟨w', hrun, h1, h2, h3⟩ := own.copied (sc := sc) (dc := dc) o.type hr hm hk hdl
  unfold Oper.wp
  simp [execOp, ho, resolve, invoke, builtin, hd, hs, hrun, Result.andThen]
  exact h w' h1 h2 h3
end
theorem put32_b (n : Int) (w : World) (h0 : 0 ≤ n) (h1 : n ≤ 4294967295) :
    Calls Try.prog 29 #[.int .u32 n] w fun e w' => e = .returned (.slice (some ⟨w.heap.size, 0, none⟩) 4 4) ∧ Row8 w' (some ⟨w.heap.size, 0, none⟩) 4 (b4 n) ∧ Below w.heap.size w w' :=
  (put32_any n w h0 h1).mono fun e w' h => ⟨h.1, by rw [h.2]; exact row_b4 w h0 h1 _ rfl, by rw [h.2]; exact below1 _ _⟩
theorem put16_b (n : Int) (w : World) (h0 : 0 ≤ n) (h1 : n ≤ 65535) :
    Calls Try.prog 30 #[.int .u16 n] w fun e w' => e = .returned (.slice (some ⟨w.heap.size, 0, none⟩) 2 2) ∧ Row8 w' (some ⟨w.heap.size, 0, none⟩) 2 (b2 n) ∧ Below w.heap.size w w' :=
  (put16_any n w h0 h1).mono fun e w' h => ⟨h.1, by rw [h.2]; exact row_b2 w h0 h1 _ rfl, by rw [h.2]; exact below1 _ _⟩
theorem equal_any (a : Option Addr) (n cap : Nat) (l : List Int) (a' : Option Addr) (n' cap' : Nat) (l' : List Int) (w : World) (h : Row8 w a n l) (h' : Row8 w a' n' l') {v : Bool} (hv : ((strOfNums l).toList == (strOfNums l').toList) = v) :
    Calls Try.prog 23 #[.slice a n cap, .slice a' n' cap'] w fun e w' => e = .returned (.bool v) ∧ w' = w := by
  have v1 := conv_any cap h
  have v2 := conv_any cap' h'
  clear h h'
  generalize strOfNums l = s at v1 hv
  generalize strOfNums l' = s' at v2 hv
  have HV : Hid ((s.toList == s'.toList) = v) := hv
  clear hv
  go_enter Try.func23, Try.ntmps23
  go_wp2
  go_ret
  exact ⟨ret_bool HV.out, rfl⟩
theorem clone_any (b off n cap : Nat) (l : List Int) (w : World) (h : Row8 w (some ⟨b, off, none⟩) n l) (hn : n ≤ 100000) :
    Calls Try.prog 31 #[.slice (some ⟨b, off, none⟩) n cap] w fun e w' => ∃ a c, e = .returned (.slice a n c) ∧ Own8 w' w.heap.size 5 (.slice a n c) n l ∧ Below w.heap.size w w' := by
  have HR : Hid (Row8 w (some ⟨b, off, none⟩) n l) := h
  have he : ∀ W : World, (binOp .eql 27 (.slice (some ⟨b, off, none⟩) n cap) (.slice none 0 0)).run Try.prog W = .ok (.bool false) W := fun _ => rfl
  clear h
  go_enter Try.func31, Try.ntmps31
  go_wp2_with (at_builtin; refine wpList_app8 _ rfl (.tmp 5) (.tmp 6) 27 5 rfl w.heap.size Try.underlying27 info5 _ 0 [] rfl (own8_at w w.heap.size rfl w.heap.size 5 [] (Nat.le_refl _) (by simp)) _ n cap l rfl (HR.out.later (below1 _ _)) n (Nat.zero_add _) l rfl hn (by simp) ?_; intro a1 p1 W1 own1 hb1)
  go_ret
  exact ⟨a1, p1, rfl, own1, (below1 _ _).trans hb1⟩
theorem noughts_any (a : Option Addr) (n cap : Nat) (l : List Int) (w : World) (h : Row8 w a n l) (hn : n ≤ 3000) {v : Bool} (hv : l.all (· == 0) = v) :
    Calls Try.prog 37 #[.slice a n cap] w fun e w' => e = .returned (.bool v) ∧ w' = w := by
  obtain ⟨hl, -, hB, hc⟩ := h
  go_enter Try.func37, Try.ntmps37
  go_wp2
  go_loop [7] (fun i => ∃ k : Nat, k ≤ n ∧ i = .int .i64 k ∧ Hid ((l.take k).all (· == 0) = true)) (fun i => n - (intOf i).toNat)
  case atStart => exact ⟨0, Nat.zero_le _, rfl, rfl⟩
  case round =>
    obtain ⟨k, hk, rfl, HT⟩ := hrel
    by_cases hlt : k < n
    · obtain ⟨b, off, rfl, hcell⟩ := hc k hlt
      have hlt' : (k : Int) < (n : Int) := by omega
      have hx : l[k]? = some (l[k]?.getD 0) := by rw [List.getElem?_eq_getElem (by omega)]; rfl
      obtain ⟨x, hxx⟩ : ∃ x, l[k]?.getD 0 = x := ⟨_, rfl⟩
      rw [hxx] at hx hcell
      by_cases h0 : x = 0
      · have HT' : Hid ((l.take (k + 1)).all (· == 0) = true) := by
          unfold Hid; rw [List.take_add_one, hx, List.all_append, HT.out]; simp [h0]
        subst h0
        clear hc hl hv hx hxx
        go_wp2
        go_round
        case rel => exact ⟨k + 1, by omega, by go_num, HT'⟩
        case measure => simp [intOf]; omega
      · have HV : Hid (v = false) := by
          unfold Hid; rw [← hv]
          rw [List.all_eq_false]
          exact ⟨x, List.mem_of_getElem? hx, by simpa using h0⟩
        have hne : (x != 0) = true := by simpa using h0
        clear hc hl hv hx hxx
        go_wp2
        go_ret
        exact ⟨ret_bool HV.out.symm, rfl⟩
    · obtain rfl : k = n := by omega
      have HV : Hid (v = true) := by unfold Hid; rw [← hv]; have := HT.out; rw [List.take_of_length_le (by omega)] at this; exact this
      clear hc hl hv
      go_wp2
      go_ret
      exact ⟨ret_bool HV.out.symm, rfl⟩
end Go.Proofs.Ytnlgdkbpolckcaa
