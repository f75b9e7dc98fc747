/- What is known of rules, prefixes and slices of rules that came in as arguments. -/
import Derived.Test.YtmmhnpekbfmonaaFilP
import Derived.ChangeArms
import Derived.OpenShut
import Derived.ChangeOld
import Derived.Lib.SmallJoins
import Derived.Deep.Slices
namespace Go.Proofs.Ytmmhnpekbfmonaa
open Go.RowKit Go.ChangeShapes Go.WideShapes Go.Deep

section
variable {H : Type} {enc : TypeId × Value → H} {w : World} {base : Nat} {spare : Nat → Bool} {held : Bool}
theorem cellsO0 : Try.prog.cellsOf 33 = 7 := by kernel_rfl
theorem cellsO1 : Try.prog.cellsOf 4 = 1 := by kernel_rfl
theorem cellsO2 : Try.prog.cellsOf 25 = 2 := by kernel_rfl
theorem cellsO3 : Try.prog.cellsOf 23 = 1 := by kernel_rfl
theorem cellsO4 : Try.prog.cellsOf 3 = 1 := by kernel_rfl
theorem cellsO5 : Try.prog.cellsOf 26 = 1 := by kernel_rfl
theorem open_oneU {n0 : Nat} {cs : List Value} {x : DataW H × List MemPlace} (h : DataW.trod enc Try.prog w base spare held n0 33 cs = some x) : ∃ e : Ru, e.Ok ∧ cs = e.cs := by
  obtain ⟨xs, k, -, -, hlen, hxl, hf⟩ := DataW.trod_struct Try.underlying33 h
  rw [cellsO0] at hlen
  match xs, hxl, cs, hlen with
  | [y0, y1, y2, y3, y4, y5], _, [v0, v1, v2, v3, v4, v5, v6], _ =>
    have g0 : DataW.trod enc Try.prog w base spare held k 4 [v0] = some y0 := by simpa [cellsO1, cellsO2, cellsO4, cellsO5] using hf 0 _ rfl
    have g1 : DataW.trod enc Try.prog w base spare held k 25 [v1, v2] = some y1 := by simpa [cellsO1, cellsO2, cellsO4, cellsO5] using hf 1 _ rfl
    have g2 : DataW.trod enc Try.prog w base spare held k 3 [v3] = some y2 := by simpa [cellsO1, cellsO2, cellsO4, cellsO5] using hf 2 _ rfl
    have g3 : DataW.trod enc Try.prog w base spare held k 3 [v4] = some y3 := by simpa [cellsO1, cellsO2, cellsO4, cellsO5] using hf 3 _ rfl
    have g4 : DataW.trod enc Try.prog w base spare held k 26 [v5] = some y4 := by simpa [cellsO1, cellsO2, cellsO4, cellsO5] using hf 4 _ rfl
    have g5 : DataW.trod enc Try.prog w base spare held k 26 [v6] = some y5 := by simpa [cellsO1, cellsO2, cellsO4, cellsO5] using hf 5 _ rfl
    obtain ⟨zs1, k1, -, -, -, hzl1, hg1⟩ := DataW.trod_struct Try.underlying25 g1
    match zs1, hzl1 with
    | [z1_0, z1_1], _ =>
      have p1_0 : DataW.trod enc Try.prog w base spare held k1 23 [v1] = some z1_0 := by simpa [cellsO3, cellsO4] using hg1 0 _ rfl
      have p1_1 : DataW.trod enc Try.prog w base spare held k1 3 [v2] = some z1_1 := by simpa [cellsO3, cellsO4] using hg1 1 _ rfl
      obtain ⟨m, e_m, -⟩ := DataW.trod_bool Try.underlying4 g0
      obtain ⟨a, e_a, -, w_a⟩ := DataW.trod_int Try.underlying23 p1_0
      obtain ⟨l, e_l, -, w_l⟩ := DataW.trod_int Try.underlying3 p1_1
      obtain ⟨g, e_g, -, w_g⟩ := DataW.trod_int Try.underlying3 g2
      obtain ⟨e, e_e, -, w_e⟩ := DataW.trod_int Try.underlying3 g3
      obtain ⟨hs, e_hs, -, w_hs⟩ := DataW.trod_int Try.underlying26 g4
      obtain ⟨n, e_n, -, w_n⟩ := DataW.trod_int Try.underlying26 g5
      simp only [List.cons.injEq, and_true] at e_m e_a e_l e_g e_e e_hs e_n
      subst e_m e_a e_l e_g e_e e_hs e_n
      have b_a := bounds_u32 w_a
      have b_l := bounds_i64 w_l
      have b_g := bounds_i64 w_g
      have b_e := bounds_i64 w_e
      have b_hs := bounds_u16 w_hs
      have b_n := bounds_u16 w_n
      exact ⟨⟨m, a, l, g, e, hs, n⟩, ⟨b_a.1, (by have := b_a.2; show a < 4294967296; omega), b_l.1, b_l.2, b_g.1, b_g.2, b_e.1, b_e.2, b_hs.1, (by have := b_hs.2; show hs < 65536; omega), b_n.1, (by have := b_n.2; show n < 65536; omega)⟩, rfl⟩
theorem open_rowU {n : Nat} {v : Value} {x : DataW H × List MemPlace} (h : DataW.trod enc Try.prog w base spare held n 22 [v] = some x) :
    ∃ a len cap es, v = .slice a len cap ∧ len ≤ cap ∧ cap ≤ maxLen ∧ RowU w a len es := by
  rcases open_slice Try.underlying22 h with ⟨hc, -⟩ | ⟨a, len, cap, m, n', D, Pl, hc, -, hl, hm, hmm, -, hx⟩
  · simp only [List.cons.injEq, and_true] at hc
    subst hc
    exact ⟨none, 0, 0, [], rfl, Nat.le_refl _, Nat.zero_le _, rfl, (fun _ h => by cases h), fun i e h => by simp at h⟩
  · simp only [List.cons.injEq, and_true] at hc
    subst hc
    have hlm : len ≤ m := by rw [hmm]; split <;> omega
    have each : ∀ i, i < len → ∃ e : Ru, e.Ok ∧ ∀ j u, e.cs[j]? = some u → w.cell? (a.add (i * 7 + j)) = some u := by
      intro i hi
      obtain ⟨cs', h1, h2⟩ := hx i (by omega)
      rw [cellsO0] at h1
      obtain ⟨e, hk, rfl⟩ := open_oneU h2
      obtain ⟨-, -, hcell⟩ := World.cells?_some h1
      refine ⟨e, hk, fun j u hu => ?_⟩
      have hj : j < 7 := by
        have := (List.getElem?_eq_some_iff.1 hu).1
        exact this
      have := hcell j hj
      rw [Go.Deep.add_add] at this
      rw [this]; exact hu
    obtain ⟨q, hq⟩ : ∃ q : Nat → Ru, ∀ i, i < len → (q i).Ok ∧ ∀ j u, (q i).cs[j]? = some u → w.cell? (a.add (i * 7 + j)) = some u := by
      refine ⟨fun i => if hi : i < len then (each i hi).choose else ⟨false, 0, 0, 0, 0, 0, 0⟩, fun i hi => ?_⟩
      simp only [hi, dif_pos]
      exact (each i hi).choose_spec
    refine ⟨some a, len, cap, (List.range len).map q, rfl, hl, hm, by simp, fun e he => ?_, fun i e he => ?_⟩
    · obtain ⟨i, hi, rfl⟩ := List.mem_map.1 he
      exact (hq i (List.mem_range.1 hi)).1
    · have hi : i < len := by
        have := (List.getElem?_eq_some_iff.1 he).1
        simpa using this
      have hqe : q i = e := by
        rw [List.getElem?_map, List.getElem?_range hi] at he
        simpa using he
      subst hqe
      have hc := (hq i hi).2
      obtain ⟨b, off, spot⟩ := a
      have hspot : spot = none := by
        have h0 := (hq 0 (by omega)).2 0 _ rfl
        simpa [Addr.add] using World.cell?_spot h0
      subst hspot
      refine ⟨b, off, rfl, ?_⟩
      have key : ∀ j u, (q i).cs[j]? = some u → w.cell? ⟨b, off + i * 7 + j, none⟩ = some u := fun j u hu => by
        have := hc j u hu
        rw [Go.WideShapes.add_plain] at this
        rw [Nat.add_assoc]; exact this
      exact ⟨key 0 _ rfl, key 1 _ rfl, key 2 _ rfl, key 3 _ rfl, key 4 _ rfl, key 5 _ rfl, key 6 _ rfl⟩
theorem open_slU {r : Reach} {b0 : Nat} {v : Value} {d : DataW H} {p : List MemPlace} (hv : Value.okWide Try.prog w r b0 22 v) (h : DataW.Trod enc Try.prog w base spare held 22 v d p) :
    ∃ a n cap es, v = .slice a n cap ∧ n ≤ cap ∧ RowU w a n es := by
  obtain ⟨a, n, cap, rfl⟩ := okWide_slice Try.underlying22 hv
  obtain ⟨fuel, hf⟩ := h
  obtain ⟨a', n', cap', es, e, hle, -, hr⟩ := open_rowU (v := .slice a n cap) (by simpa [Value.cells] using hf)
  simp only [Value.slice.injEq] at e
  obtain ⟨rfl, rfl, rfl⟩ := e
  exact ⟨_, _, _, es, rfl, hle, hr⟩
theorem open_stU {r : Reach} {b0 : Nat} {v : Value} {d : DataW H} {p : List MemPlace} (hv : Value.okWide Try.prog w r b0 33 v) (h : DataW.Trod enc Try.prog w base spare held 33 v d p) :
    ∃ m a l g e hs n, v = valU m a l g e hs n ∧ Ru.Ok ⟨m, a, l, g, e, hs, n⟩ := by
  obtain ⟨cs, rfl, hsz⟩ := okWide_struct Try.underlying33 hv
  obtain ⟨fuel, hf0⟩ := h
  obtain ⟨e, hk, he⟩ := open_oneU hf0
  obtain ⟨l⟩ := cs
  have he' : l = e.cs := by simpa [Value.cells] using he
  subst he'
  obtain ⟨m, a, l, g, e, hs, n⟩ := e
  exact ⟨m, a, l, g, e, hs, n, rfl, hk⟩
theorem open_stX {r : Reach} {b0 : Nat} {v : Value} {d : DataW H} {p : List MemPlace} (hv : Value.okWide Try.prog w r b0 25 v) (h : DataW.Trod enc Try.prog w base spare held 25 v d p) :
    ∃ a l, v = .agg #[.int .u32 a, .int .i64 l] ∧ 0 ≤ a ∧ a < 4294967296 ∧ -9223372036854775808 ≤ l ∧ l ≤ 9223372036854775807 := by
  obtain ⟨cs, rfl, hsz⟩ := okWide_struct Try.underlying25 hv
  obtain ⟨fuel, hf0⟩ := h
  obtain ⟨xs, k, -, -, hlen, hxl, hf⟩ := DataW.trod_struct Try.underlying25 (cs := cs.toList) (by simpa [Value.cells] using hf0)
  rw [cellsO2] at hlen
  obtain ⟨l⟩ := cs
  match xs, hxl, l, hlen with
  | [y0, y1], _, [v0, v1], _ =>
    have g0 : DataW.trod enc Try.prog w base spare held k 23 [v0] = some y0 := by simpa [cellsO3, cellsO4] using hf 0 _ rfl
    have g1 : DataW.trod enc Try.prog w base spare held k 3 [v1] = some y1 := by simpa [cellsO3, cellsO4] using hf 1 _ rfl
    obtain ⟨a, e_a, -, w_a⟩ := DataW.trod_int Try.underlying23 g0
    obtain ⟨l, e_l, -, w_l⟩ := DataW.trod_int Try.underlying3 g1
    simp only [List.cons.injEq, and_true] at e_a e_l
    subst e_a e_l
    exact ⟨a, l, rfl, (bounds_u32 w_a).1, by have := (bounds_u32 w_a).2; omega, (bounds_i64 w_l).1, (bounds_i64 w_l).2⟩
end
end Go.Proofs.Ytmmhnpekbfmonaa
