/- What is known of facts, of calls and of slices of them that came in as arguments. -/
import Derived.Test.YtofmgkpghkeegaaRowO
import Derived.OpenShut
import Derived.ChangeOld
import Derived.Lib.SmallJoins
import Derived.Deep.Slices
namespace Go.Proofs.Ytofmgkpghkeegaa
open Go.RowKit Go.ChangeShapes Go.WideShapes Go.Deep

section
variable {H : Type} {enc : TypeId × Value → H} {w : World} {base : Nat} {spare : Nat → Bool} {held : Bool}
theorem cellsO0 : Try.prog.cellsOf 32 = 3 := by kernel_rfl
theorem cellsO1 : Try.prog.cellsOf 3 = 1 := by kernel_rfl
theorem cellsO2 : Try.prog.cellsOf 30 = 1 := by kernel_rfl
theorem open_oneF {n0 : Nat} {cs : List Value} {x : DataW H × List MemPlace} (h : DataW.trod enc Try.prog w base spare held n0 32 cs = some x) : ∃ e : Fc, e.Ok ∧ cs = e.cs := by
  obtain ⟨xs, k, -, -, hlen, hxl, hf⟩ := DataW.trod_struct Try.underlying32 h
  rw [cellsO0] at hlen
  match xs, hxl, cs, hlen with
  | [y0, y1, y2], _, [v0, v1, v2], _ =>
    have g0 : DataW.trod enc Try.prog w base spare held k 3 [v0] = some y0 := by simpa [cellsO1, cellsO2] using hf 0 _ rfl
    have g1 : DataW.trod enc Try.prog w base spare held k 30 [v1] = some y1 := by simpa [cellsO1, cellsO2] using hf 1 _ rfl
    have g2 : DataW.trod enc Try.prog w base spare held k 30 [v2] = some y2 := by simpa [cellsO1, cellsO2] using hf 2 _ rfl
    obtain ⟨k, e_k, -, w_k⟩ := DataW.trod_int Try.underlying3 g0
    obtain ⟨y, e_y, -, w_y⟩ := DataW.trod_int Try.underlying30 g1
    obtain ⟨n, e_n, -, w_n⟩ := DataW.trod_int Try.underlying30 g2
    simp only [List.cons.injEq, and_true] at e_k e_y e_n
    subst e_k e_y e_n
    have b_k := bounds_i64 w_k
    have b_y := bounds_u32 w_y
    have b_n := bounds_u32 w_n
    exact ⟨⟨k, y, n⟩, ⟨b_k.1, b_k.2, b_y.1, (by have := b_y.2; show y ≤ 4294967295; omega), b_n.1, (by have := b_n.2; show n ≤ 4294967295; omega)⟩, rfl⟩
theorem open_rowF {n : Nat} {v : Value} {x : DataW H × List MemPlace} (h : DataW.trod enc Try.prog w base spare held n 27 [v] = some x) :
    ∃ a len cap es, v = .slice a len cap ∧ len ≤ cap ∧ cap ≤ maxLen ∧ RowF w a len es := by
  rcases open_slice Try.underlying27 h with ⟨hc, -⟩ | ⟨a, len, cap, m, n', D, Pl, hc, -, hl, hm, hmm, -, hx⟩
  · simp only [List.cons.injEq, and_true] at hc
    subst hc
    exact ⟨none, 0, 0, [], rfl, Nat.le_refl _, Nat.zero_le _, rfl, (fun _ h => by cases h), fun i e h => by simp at h⟩
  · simp only [List.cons.injEq, and_true] at hc
    subst hc
    have hlm : len ≤ m := by rw [hmm]; split <;> omega
    have each : ∀ i, i < len → ∃ e : Fc, e.Ok ∧ ∀ j u, e.cs[j]? = some u → w.cell? (a.add (i * 3 + j)) = some u := by
      intro i hi
      obtain ⟨cs', h1, h2⟩ := hx i (by omega)
      rw [cellsO0] at h1
      obtain ⟨e, hk, rfl⟩ := open_oneF h2
      obtain ⟨-, -, hcell⟩ := World.cells?_some h1
      refine ⟨e, hk, fun j u hu => ?_⟩
      have hj : j < 3 := by
        have := (List.getElem?_eq_some_iff.1 hu).1
        exact this
      have := hcell j hj
      rw [Go.Deep.add_add] at this
      rw [this]; exact hu
    obtain ⟨q, hq⟩ : ∃ q : Nat → Fc, ∀ i, i < len → (q i).Ok ∧ ∀ j u, (q i).cs[j]? = some u → w.cell? (a.add (i * 3 + j)) = some u := by
      refine ⟨fun i => if hi : i < len then (each i hi).choose else ⟨0, 0, 0⟩, fun i hi => ?_⟩
      simp only [hi, dif_pos]
      exact (each i hi).choose_spec
    refine ⟨some a, len, cap, (List.range len).map q, rfl, hl, hm, by simp, fun e he => ?_, fun i e he => ?_⟩
    · obtain ⟨i, hi, rfl⟩ := List.mem_map.1 he
      exact (hq i (List.mem_range.1 hi)).1
    · have hi : i < len := by
        have := (List.getElem?_eq_some_iff.1 he).1
        simpa using this
      have hqe : q i = e := by
        rw [List.getElem?_map, List.getElem?_range hi] at he
        simpa using he
      subst hqe
      have hc := (hq i hi).2
      obtain ⟨b, off, spot⟩ := a
      have hspot : spot = none := by
        have h0 := (hq 0 (by omega)).2 0 _ rfl
        simpa [Addr.add] using World.cell?_spot h0
      subst hspot
      refine ⟨b, off, rfl, ?_⟩
      have key : ∀ j u, (q i).cs[j]? = some u → w.cell? ⟨b, off + i * 3 + j, none⟩ = some u := fun j u hu => by
        have := hc j u hu
        rw [Go.WideShapes.add_plain] at this
        rw [Nat.add_assoc]; exact this
      exact ⟨key 0 _ rfl, key 1 _ rfl, key 2 _ rfl⟩
theorem open_slF {r : Reach} {b0 : Nat} {v : Value} {d : DataW H} {p : List MemPlace} (hv : Value.okWide Try.prog w r b0 27 v) (h : DataW.Trod enc Try.prog w base spare held 27 v d p) :
    ∃ a n cap es, v = .slice a n cap ∧ n ≤ cap ∧ RowF w a n es := by
  obtain ⟨a, n, cap, rfl⟩ := okWide_slice Try.underlying27 hv
  obtain ⟨fuel, hf⟩ := h
  obtain ⟨a', n', cap', es, e, hle, -, hr⟩ := open_rowF (v := .slice a n cap) (by simpa [Value.cells] using hf)
  simp only [Value.slice.injEq] at e
  obtain ⟨rfl, rfl, rfl⟩ := e
  exact ⟨_, _, _, es, rfl, hle, hr⟩
theorem open_stF {r : Reach} {b0 : Nat} {v : Value} {d : DataW H} {p : List MemPlace} (hv : Value.okWide Try.prog w r b0 32 v) (h : DataW.Trod enc Try.prog w base spare held 32 v d p) :
    ∃ k y n, v = valF k y n ∧ Fc.Ok ⟨k, y, n⟩ := by
  obtain ⟨cs, rfl, hsz⟩ := okWide_struct Try.underlying32 hv
  obtain ⟨fuel, hf0⟩ := h
  obtain ⟨e, hk, he⟩ := open_oneF hf0
  obtain ⟨l⟩ := cs
  have he' : l = e.cs := by simpa [Value.cells] using he
  subst he'
  obtain ⟨k, y, n⟩ := e
  exact ⟨k, y, n, rfl, hk⟩
theorem cellsO3 : Try.prog.cellsOf 34 = 5 := by kernel_rfl
theorem open_oneO {n0 : Nat} {cs : List Value} {x : DataW H × List MemPlace} (h : DataW.trod enc Try.prog w base spare held n0 34 cs = some x) : ∃ e : Op, e.Ok ∧ cs = e.cs := by
  obtain ⟨xs, k, -, -, hlen, hxl, hf⟩ := DataW.trod_struct Try.underlying34 h
  rw [cellsO3] at hlen
  match xs, hxl, cs, hlen with
  | [y0, y1, y2], _, [v0, v1, v2, v3, v4], _ =>
    have g0 : DataW.trod enc Try.prog w base spare held k 3 [v0] = some y0 := by simpa [cellsO0, cellsO1] using hf 0 _ rfl
    have g1 : DataW.trod enc Try.prog w base spare held k 3 [v1] = some y1 := by simpa [cellsO0, cellsO1] using hf 1 _ rfl
    have g2 : DataW.trod enc Try.prog w base spare held k 32 [v2, v3, v4] = some y2 := by simpa [cellsO0, cellsO1] using hf 2 _ rfl
    obtain ⟨c0, e_c, -, w_c⟩ := DataW.trod_int Try.underlying3 g0
    obtain ⟨m0, e_m, -, w_m⟩ := DataW.trod_int Try.underlying3 g1
    simp only [List.cons.injEq, and_true] at e_c e_m
    subst e_c e_m
    have b_c := bounds_i64 w_c
    have b_m := bounds_i64 w_m
    obtain ⟨e, hk, he⟩ := open_oneF g2
    obtain ⟨k1, y1, n1⟩ := e
    simp only [Fc.cs, List.cons.injEq, and_true] at he
    obtain ⟨rfl, rfl, rfl⟩ := he
    exact ⟨⟨c0, m0, k1, y1, n1⟩, ⟨b_c.1, b_c.2, b_m.1, b_m.2, hk.k0, hk.k1, hk.y0, hk.y1, hk.n0, hk.n1⟩, rfl⟩
theorem open_rowO {n : Nat} {v : Value} {x : DataW H × List MemPlace} (h : DataW.trod enc Try.prog w base spare held n 22 [v] = some x) :
    ∃ a len cap es, v = .slice a len cap ∧ len ≤ cap ∧ cap ≤ maxLen ∧ RowO w a len es := by
  rcases open_slice Try.underlying22 h with ⟨hc, -⟩ | ⟨a, len, cap, m, n', D, Pl, hc, -, hl, hm, hmm, -, hx⟩
  · simp only [List.cons.injEq, and_true] at hc
    subst hc
    exact ⟨none, 0, 0, [], rfl, Nat.le_refl _, Nat.zero_le _, rfl, (fun _ h => by cases h), fun i e h => by simp at h⟩
  · simp only [List.cons.injEq, and_true] at hc
    subst hc
    have hlm : len ≤ m := by rw [hmm]; split <;> omega
    have each : ∀ i, i < len → ∃ e : Op, e.Ok ∧ ∀ j u, e.cs[j]? = some u → w.cell? (a.add (i * 5 + j)) = some u := by
      intro i hi
      obtain ⟨cs', h1, h2⟩ := hx i (by omega)
      rw [cellsO3] at h1
      obtain ⟨e, hk, rfl⟩ := open_oneO h2
      obtain ⟨-, -, hcell⟩ := World.cells?_some h1
      refine ⟨e, hk, fun j u hu => ?_⟩
      have hj : j < 5 := by
        have := (List.getElem?_eq_some_iff.1 hu).1
        exact this
      have := hcell j hj
      rw [Go.Deep.add_add] at this
      rw [this]; exact hu
    obtain ⟨q, hq⟩ : ∃ q : Nat → Op, ∀ i, i < len → (q i).Ok ∧ ∀ j u, (q i).cs[j]? = some u → w.cell? (a.add (i * 5 + j)) = some u := by
      refine ⟨fun i => if hi : i < len then (each i hi).choose else ⟨0, 0, 0, 0, 0⟩, fun i hi => ?_⟩
      simp only [hi, dif_pos]
      exact (each i hi).choose_spec
    refine ⟨some a, len, cap, (List.range len).map q, rfl, hl, hm, by simp, fun e he => ?_, fun i e he => ?_⟩
    · obtain ⟨i, hi, rfl⟩ := List.mem_map.1 he
      exact (hq i (List.mem_range.1 hi)).1
    · have hi : i < len := by
        have := (List.getElem?_eq_some_iff.1 he).1
        simpa using this
      have hqe : q i = e := by
        rw [List.getElem?_map, List.getElem?_range hi] at he
        simpa using he
      subst hqe
      have hc := (hq i hi).2
      obtain ⟨b, off, spot⟩ := a
      have hspot : spot = none := by
        have h0 := (hq 0 (by omega)).2 0 _ rfl
        simpa [Addr.add] using World.cell?_spot h0
      subst hspot
      refine ⟨b, off, rfl, ?_⟩
      have key : ∀ j u, (q i).cs[j]? = some u → w.cell? ⟨b, off + i * 5 + j, none⟩ = some u := fun j u hu => by
        have := hc j u hu
        rw [Go.WideShapes.add_plain] at this
        rw [Nat.add_assoc]; exact this
      exact ⟨key 0 _ rfl, key 1 _ rfl, key 2 _ rfl, key 3 _ rfl, key 4 _ rfl⟩
theorem open_slO {r : Reach} {b0 : Nat} {v : Value} {d : DataW H} {p : List MemPlace} (hv : Value.okWide Try.prog w r b0 22 v) (h : DataW.Trod enc Try.prog w base spare held 22 v d p) :
    ∃ a n cap es, v = .slice a n cap ∧ n ≤ cap ∧ RowO w a n es := by
  obtain ⟨a, n, cap, rfl⟩ := okWide_slice Try.underlying22 hv
  obtain ⟨fuel, hf⟩ := h
  obtain ⟨a', n', cap', es, e, hle, -, hr⟩ := open_rowO (v := .slice a n cap) (by simpa [Value.cells] using hf)
  simp only [Value.slice.injEq] at e
  obtain ⟨rfl, rfl, rfl⟩ := e
  exact ⟨_, _, _, es, rfl, hle, hr⟩
theorem open_stO {r : Reach} {b0 : Nat} {v : Value} {d : DataW H} {p : List MemPlace} (hv : Value.okWide Try.prog w r b0 34 v) (h : DataW.Trod enc Try.prog w base spare held 34 v d p) :
    ∃ c m k y n, v = valO c m k y n ∧ Op.Ok ⟨c, m, k, y, n⟩ := by
  obtain ⟨cs, rfl, hsz⟩ := okWide_struct Try.underlying34 hv
  obtain ⟨fuel, hf0⟩ := h
  obtain ⟨e, hk, he⟩ := open_oneO hf0
  obtain ⟨l⟩ := cs
  have he' : l = e.cs := by simpa [Value.cells] using he
  subst he'
  obtain ⟨c, m, k, y, n⟩ := e
  exact ⟨c, m, k, y, n, rfl, hk⟩
end
end Go.Proofs.Ytofmgkpghkeegaa
