/- What is known of calls, and of prefixes, that came in as arguments. -/
import Derived.Test.YtifokdebocgaiaaRowC
import Derived.OpenShut
import Derived.ChangeOld
import Derived.Lib.SmallJoins
import Derived.Deep.Slices
namespace Go.Proofs.Ytifokdebocgaiaa
open Go.RowKit Go.ChangeShapes Go.WideShapes Go.Deep

section
variable {H : Type} {enc : TypeId × Value → H} {w : World} {base : Nat} {spare : Nat → Bool} {held : Bool}
theorem cellsO0 : Try.prog.cellsOf 32 = 2 := by kernel_rfl
theorem cellsO1 : Try.prog.cellsOf 30 = 1 := by kernel_rfl
theorem cellsO2 : Try.prog.cellsOf 3 = 1 := by kernel_rfl
theorem open_oneX {n : Nat} {cs : List Value} {x : DataW H × List MemPlace} (h : DataW.trod enc Try.prog w base spare held n 32 cs = some x) : ∃ e : Px, e.Ok ∧ cs = e.cs := by
  obtain ⟨xs, k, -, -, hlen, hxl, hf⟩ := DataW.trod_struct Try.underlying32 h
  rw [cellsO0] at hlen
  match xs, hxl, cs, hlen with
  | [y0, y1], _, [v0, v1], _ =>
    have g0 : DataW.trod enc Try.prog w base spare held k 30 [v0] = some y0 := by simpa [cellsO1, cellsO2] using hf 0 _ rfl
    have g1 : DataW.trod enc Try.prog w base spare held k 3 [v1] = some y1 := by simpa [cellsO1, cellsO2] using hf 1 _ rfl
    obtain ⟨a, e_a, -, w_a⟩ := DataW.trod_int Try.underlying30 g0
    obtain ⟨l, e_l, -, w_l⟩ := DataW.trod_int Try.underlying3 g1
    simp only [List.cons.injEq, and_true] at e_a e_l
    subst e_a e_l
    have b_a := bounds_u32 w_a
    have b_l := bounds_i64 w_l
    exact ⟨⟨a, l⟩, ⟨b_a.1, (by have := b_a.2; show a < 4294967296; omega), b_l.1, b_l.2⟩, rfl⟩
theorem open_stX {r : Reach} {b0 : Nat} {v : Value} {d : DataW H} {p : List MemPlace} (hv : Value.okWide Try.prog w r b0 32 v) (h : DataW.Trod enc Try.prog w base spare held 32 v d p) :
    ∃ a l, v = valX a l ∧ Px.Ok ⟨a, l⟩ := by
  obtain ⟨cs, rfl, hsz⟩ := okWide_struct Try.underlying32 hv
  obtain ⟨fuel, hf0⟩ := h
  obtain ⟨e, hk, he⟩ := open_oneX hf0
  obtain ⟨l⟩ := cs
  have he' : l = e.cs := by simpa [Value.cells] using he
  subst he'
  obtain ⟨a, l⟩ := e
  exact ⟨a, l, rfl, hk⟩
theorem cellsO3 : Try.prog.cellsOf 34 = 5 := by kernel_rfl
theorem open_oneC {n : Nat} {cs : List Value} {x : DataW H × List MemPlace} (h : DataW.trod enc Try.prog w base spare held n 34 cs = some x) : ∃ e : Cl, e.Ok ∧ cs = e.cs := by
  obtain ⟨xs, k, -, -, hlen, hxl, hf⟩ := DataW.trod_struct Try.underlying34 h
  rw [cellsO3] at hlen
  match xs, hxl, cs, hlen with
  | [y0, y1, y2, y3], _, [v0, v1, v2, v3, v4], _ =>
    have g0 : DataW.trod enc Try.prog w base spare held k 3 [v0] = some y0 := by simpa [cellsO0, cellsO1, cellsO2] using hf 0 _ rfl
    have g1 : DataW.trod enc Try.prog w base spare held k 32 [v1, v2] = some y1 := by simpa [cellsO0, cellsO1, cellsO2] using hf 1 _ rfl
    have g2 : DataW.trod enc Try.prog w base spare held k 3 [v3] = some y2 := by simpa [cellsO0, cellsO1, cellsO2] using hf 2 _ rfl
    have g3 : DataW.trod enc Try.prog w base spare held k 30 [v4] = some y3 := by simpa [cellsO0, cellsO1, cellsO2] using hf 3 _ rfl
    obtain ⟨zs1, k1, -, -, -, hzl1, hg1⟩ := DataW.trod_struct Try.underlying32 g1
    match zs1, hzl1 with
    | [z1_0, z1_1], _ =>
      have p1_0 : DataW.trod enc Try.prog w base spare held k1 30 [v1] = some z1_0 := by simpa [cellsO1, cellsO2] using hg1 0 _ rfl
      have p1_1 : DataW.trod enc Try.prog w base spare held k1 3 [v2] = some z1_1 := by simpa [cellsO1, cellsO2] using hg1 1 _ rfl
      obtain ⟨k, e_k, -, w_k⟩ := DataW.trod_int Try.underlying3 g0
      obtain ⟨a, e_a, -, w_a⟩ := DataW.trod_int Try.underlying30 p1_0
      obtain ⟨l, e_l, -, w_l⟩ := DataW.trod_int Try.underlying3 p1_1
      obtain ⟨n, e_n, -, w_n⟩ := DataW.trod_int Try.underlying3 g2
      obtain ⟨x, e_x, -, w_x⟩ := DataW.trod_int Try.underlying30 g3
      simp only [List.cons.injEq, and_true] at e_k e_a e_l e_n e_x
      subst e_k e_a e_l e_n e_x
      have b_k := bounds_i64 w_k
      have b_a := bounds_u32 w_a
      have b_l := bounds_i64 w_l
      have b_n := bounds_i64 w_n
      have b_x := bounds_u32 w_x
      exact ⟨⟨k, a, l, n, x⟩, ⟨b_k.1, b_k.2, b_a.1, (by have := b_a.2; show a < 4294967296; omega), b_l.1, b_l.2, b_n.1, b_n.2, b_x.1, (by have := b_x.2; show x < 4294967296; omega)⟩, rfl⟩
theorem open_rowC {n : Nat} {v : Value} {x : DataW H × List MemPlace} (h : DataW.trod enc Try.prog w base spare held n 22 [v] = some x) :
    ∃ a len cap es, v = .slice a len cap ∧ len ≤ cap ∧ cap ≤ maxLen ∧ RowC w a len es := by
  rcases open_slice Try.underlying22 h with ⟨hc, -⟩ | ⟨a, len, cap, m, n', D, Pl, hc, -, hl, hm, hmm, -, hx⟩
  · simp only [List.cons.injEq, and_true] at hc
    subst hc
    exact ⟨none, 0, 0, [], rfl, Nat.le_refl _, Nat.zero_le _, rfl, (fun _ h => by cases h), fun i e h => by simp at h⟩
  · simp only [List.cons.injEq, and_true] at hc
    subst hc
    have hlm : len ≤ m := by rw [hmm]; split <;> omega
    have each : ∀ i, i < len → ∃ e : Cl, e.Ok ∧ ∀ j u, e.cs[j]? = some u → w.cell? (a.add (i * 5 + j)) = some u := by
      intro i hi
      obtain ⟨cs', h1, h2⟩ := hx i (by omega)
      rw [cellsO3] at h1
      obtain ⟨e, hk, rfl⟩ := open_oneC h2
      obtain ⟨-, -, hcell⟩ := World.cells?_some h1
      refine ⟨e, hk, fun j u hu => ?_⟩
      have hj : j < 5 := by
        have := (List.getElem?_eq_some_iff.1 hu).1
        exact this
      have := hcell j hj
      rw [Go.Deep.add_add] at this
      rw [this]; exact hu
    obtain ⟨q, hq⟩ : ∃ q : Nat → Cl, ∀ i, i < len → (q i).Ok ∧ ∀ j u, (q i).cs[j]? = some u → w.cell? (a.add (i * 5 + j)) = some u := by
      refine ⟨fun i => if hi : i < len then (each i hi).choose else ⟨0, 0, 0, 0, 0⟩, fun i hi => ?_⟩
      simp only [hi, dif_pos]
      exact (each i hi).choose_spec
    refine ⟨some a, len, cap, (List.range len).map q, rfl, hl, hm, by simp, fun e he => ?_, fun i e he => ?_⟩
    · obtain ⟨i, hi, rfl⟩ := List.mem_map.1 he
      exact (hq i (List.mem_range.1 hi)).1
    · have hi : i < len := by
        have := (List.getElem?_eq_some_iff.1 he).1
        simpa using this
      have hqe : q i = e := by
        rw [List.getElem?_map, List.getElem?_range hi] at he
        simpa using he
      subst hqe
      have hc := (hq i hi).2
      obtain ⟨b, off, spot⟩ := a
      have hspot : spot = none := by
        have h0 := (hq 0 (by omega)).2 0 _ rfl
        simpa [Addr.add] using World.cell?_spot h0
      subst hspot
      refine ⟨b, off, rfl, ?_⟩
      have key : ∀ j u, (q i).cs[j]? = some u → w.cell? ⟨b, off + i * 5 + j, none⟩ = some u := fun j u hu => by
        have := hc j u hu
        rw [Go.WideShapes.add_plain] at this
        rw [Nat.add_assoc]; exact this
      exact ⟨key 0 _ rfl, key 1 _ rfl, key 2 _ rfl, key 3 _ rfl, key 4 _ rfl⟩
theorem open_slC {r : Reach} {b0 : Nat} {v : Value} {d : DataW H} {p : List MemPlace} (hv : Value.okWide Try.prog w r b0 22 v) (h : DataW.Trod enc Try.prog w base spare held 22 v d p) :
    ∃ a n cap es, v = .slice a n cap ∧ n ≤ cap ∧ RowC w a n es := by
  obtain ⟨a, n, cap, rfl⟩ := okWide_slice Try.underlying22 hv
  obtain ⟨fuel, hf⟩ := h
  obtain ⟨a', n', cap', es, e, hle, -, hr⟩ := open_rowC (v := .slice a n cap) (by simpa [Value.cells] using hf)
  simp only [Value.slice.injEq] at e
  obtain ⟨rfl, rfl, rfl⟩ := e
  exact ⟨_, _, _, es, rfl, hle, hr⟩
theorem open_stC {r : Reach} {b0 : Nat} {v : Value} {d : DataW H} {p : List MemPlace} (hv : Value.okWide Try.prog w r b0 34 v) (h : DataW.Trod enc Try.prog w base spare held 34 v d p) :
    ∃ k a l n x, v = valC k a l n x ∧ Cl.Ok ⟨k, a, l, n, x⟩ := by
  obtain ⟨cs, rfl, hsz⟩ := okWide_struct Try.underlying34 hv
  obtain ⟨fuel, hf0⟩ := h
  obtain ⟨e, hk, he⟩ := open_oneC hf0
  obtain ⟨l⟩ := cs
  have he' : l = e.cs := by simpa [Value.cells] using he
  subst he'
  obtain ⟨k, a, l, n, x⟩ := e
  exact ⟨k, a, l, n, x, rfl, hk⟩
end
end Go.Proofs.Ytifokdebocgaiaa
