/- What is known of routes, of calls and of slices of them that came in as arguments. -/
import Derived.Test.YtcabeclbdjfoaaaRowO
import Derived.OpenShut
import Derived.ChangeOld
import Derived.Lib.SmallJoins
import Derived.Deep.Slices
namespace Go.Proofs.Ytcabeclbdjfoaaa
open Go.RowKit Go.ChangeShapes Go.WideShapes Go.Deep

section
variable {H : Type} {enc : TypeId × Value → H} {w : World} {base : Nat} {spare : Nat → Bool} {held : Bool}
theorem cellsO0 : Try.prog.cellsOf 27 = 7 := by kernel_rfl
theorem cellsO1 : Try.prog.cellsOf 24 = 2 := by kernel_rfl
theorem cellsO2 : Try.prog.cellsOf 22 = 1 := by kernel_rfl
theorem cellsO3 : Try.prog.cellsOf 3 = 1 := by kernel_rfl
theorem cellsO4 : Try.prog.cellsOf 25 = 1 := by kernel_rfl
theorem open_oneR {n0 : Nat} {cs : List Value} {x : DataW H × List MemPlace} (h : DataW.trod enc Try.prog w base spare held n0 27 cs = some x) : ∃ e : Rt, e.Ok ∧ cs = e.cs := by
  obtain ⟨xs, k, -, -, hlen, hxl, hf⟩ := DataW.trod_struct Try.underlying27 h
  rw [cellsO0] at hlen
  match xs, hxl, cs, hlen with
  | [y0, y1, y2, y3, y4, y5], _, [v0, v1, v2, v3, v4, v5, v6], _ =>
    have g0 : DataW.trod enc Try.prog w base spare held k 24 [v0, v1] = some y0 := by simpa [cellsO1, cellsO3, cellsO4] using hf 0 _ rfl
    have g1 : DataW.trod enc Try.prog w base spare held k 3 [v2] = some y1 := by simpa [cellsO1, cellsO3, cellsO4] using hf 1 _ rfl
    have g2 : DataW.trod enc Try.prog w base spare held k 3 [v3] = some y2 := by simpa [cellsO1, cellsO3, cellsO4] using hf 2 _ rfl
    have g3 : DataW.trod enc Try.prog w base spare held k 3 [v4] = some y3 := by simpa [cellsO1, cellsO3, cellsO4] using hf 3 _ rfl
    have g4 : DataW.trod enc Try.prog w base spare held k 3 [v5] = some y4 := by simpa [cellsO1, cellsO3, cellsO4] using hf 4 _ rfl
    have g5 : DataW.trod enc Try.prog w base spare held k 25 [v6] = some y5 := by simpa [cellsO1, cellsO3, cellsO4] using hf 5 _ rfl
    obtain ⟨zs0, k0, -, -, -, hzl0, hg0⟩ := DataW.trod_struct Try.underlying24 g0
    match zs0, hzl0 with
    | [z0_0, z0_1], _ =>
      have p0_0 : DataW.trod enc Try.prog w base spare held k0 22 [v0] = some z0_0 := by simpa [cellsO2, cellsO3] using hg0 0 _ rfl
      have p0_1 : DataW.trod enc Try.prog w base spare held k0 3 [v1] = some z0_1 := by simpa [cellsO2, cellsO3] using hg0 1 _ rfl
      obtain ⟨a, e_a, -, w_a⟩ := DataW.trod_int Try.underlying22 p0_0
      obtain ⟨l, e_l, -, w_l⟩ := DataW.trod_int Try.underlying3 p0_1
      obtain ⟨d, e_d, -, w_d⟩ := DataW.trod_int Try.underlying3 g1
      obtain ⟨s, e_s, -, w_s⟩ := DataW.trod_int Try.underlying3 g2
      obtain ⟨m, e_m, -, w_m⟩ := DataW.trod_int Try.underlying3 g3
      obtain ⟨n, e_n, -, w_n⟩ := DataW.trod_int Try.underlying3 g4
      obtain ⟨t, e_t, -, w_t⟩ := DataW.trod_int Try.underlying25 g5
      simp only [List.cons.injEq, and_true] at e_a e_l e_d e_s e_m e_n e_t
      subst e_a e_l e_d e_s e_m e_n e_t
      have b_a := bounds_u32 w_a
      have b_l := bounds_i64 w_l
      have b_d := bounds_i64 w_d
      have b_s := bounds_i64 w_s
      have b_m := bounds_i64 w_m
      have b_n := bounds_i64 w_n
      have b_t := bounds_u16 w_t
      exact ⟨⟨a, l, d, s, m, n, t⟩, ⟨b_a.1, (by have := b_a.2; show a < 4294967296; omega), b_l.1, b_l.2, b_d.1, b_d.2, b_s.1, b_s.2, b_m.1, b_m.2, b_n.1, b_n.2, b_t.1, (by have := b_t.2; show t < 65536; omega)⟩, rfl⟩
theorem open_rowR {n : Nat} {v : Value} {x : DataW H × List MemPlace} (h : DataW.trod enc Try.prog w base spare held n 42 [v] = some x) :
    ∃ a len cap es, v = .slice a len cap ∧ len ≤ cap ∧ cap ≤ maxLen ∧ RowR w a len es := by
  rcases open_slice Try.underlying42 h with ⟨hc, -⟩ | ⟨a, len, cap, m, n', D, Pl, hc, -, hl, hm, hmm, -, hx⟩
  · simp only [List.cons.injEq, and_true] at hc
    subst hc
    exact ⟨none, 0, 0, [], rfl, Nat.le_refl _, Nat.zero_le _, rfl, (fun _ h => by cases h), fun i e h => by simp at h⟩
  · simp only [List.cons.injEq, and_true] at hc
    subst hc
    have hlm : len ≤ m := by rw [hmm]; split <;> omega
    have each : ∀ i, i < len → ∃ e : Rt, e.Ok ∧ ∀ j u, e.cs[j]? = some u → w.cell? (a.add (i * 7 + j)) = some u := by
      intro i hi
      obtain ⟨cs', h1, h2⟩ := hx i (by omega)
      rw [cellsO0] at h1
      obtain ⟨e, hk, rfl⟩ := open_oneR h2
      obtain ⟨-, -, hcell⟩ := World.cells?_some h1
      refine ⟨e, hk, fun j u hu => ?_⟩
      have hj : j < 7 := by
        have := (List.getElem?_eq_some_iff.1 hu).1
        exact this
      have := hcell j hj
      rw [Go.Deep.add_add] at this
      rw [this]; exact hu
    obtain ⟨q, hq⟩ : ∃ q : Nat → Rt, ∀ i, i < len → (q i).Ok ∧ ∀ j u, (q i).cs[j]? = some u → w.cell? (a.add (i * 7 + j)) = some u := by
      refine ⟨fun i => if hi : i < len then (each i hi).choose else ⟨0, 0, 0, 0, 0, 0, 0⟩, fun i hi => ?_⟩
      simp only [hi, dif_pos]
      exact (each i hi).choose_spec
    refine ⟨some a, len, cap, (List.range len).map q, rfl, hl, hm, by simp, fun e he => ?_, fun i e he => ?_⟩
    · obtain ⟨i, hi, rfl⟩ := List.mem_map.1 he
      exact (hq i (List.mem_range.1 hi)).1
    · have hi : i < len := by
        have := (List.getElem?_eq_some_iff.1 he).1
        simpa using this
      have hqe : q i = e := by
        rw [List.getElem?_map, List.getElem?_range hi] at he
        simpa using he
      subst hqe
      have hc := (hq i hi).2
      obtain ⟨b, off, spot⟩ := a
      have hspot : spot = none := by
        have h0 := (hq 0 (by omega)).2 0 _ rfl
        simpa [Addr.add] using World.cell?_spot h0
      subst hspot
      refine ⟨b, off, rfl, ?_⟩
      have key : ∀ j u, (q i).cs[j]? = some u → w.cell? ⟨b, off + i * 7 + j, none⟩ = some u := fun j u hu => by
        have := hc j u hu
        rw [Go.WideShapes.add_plain] at this
        rw [Nat.add_assoc]; exact this
      exact ⟨key 0 _ rfl, key 1 _ rfl, key 2 _ rfl, key 3 _ rfl, key 4 _ rfl, key 5 _ rfl, key 6 _ rfl⟩
theorem open_slR {r : Reach} {b0 : Nat} {v : Value} {d : DataW H} {p : List MemPlace} (hv : Value.okWide Try.prog w r b0 42 v) (h : DataW.Trod enc Try.prog w base spare held 42 v d p) :
    ∃ a n cap es, v = .slice a n cap ∧ n ≤ cap ∧ RowR w a n es := by
  obtain ⟨a, n, cap, rfl⟩ := okWide_slice Try.underlying42 hv
  obtain ⟨fuel, hf⟩ := h
  obtain ⟨a', n', cap', es, e, hle, -, hr⟩ := open_rowR (v := .slice a n cap) (by simpa [Value.cells] using hf)
  simp only [Value.slice.injEq] at e
  obtain ⟨rfl, rfl, rfl⟩ := e
  exact ⟨_, _, _, es, rfl, hle, hr⟩
theorem open_stR {r : Reach} {b0 : Nat} {v : Value} {d : DataW H} {p : List MemPlace} (hv : Value.okWide Try.prog w r b0 27 v) (h : DataW.Trod enc Try.prog w base spare held 27 v d p) :
    ∃ a l d s m n t, v = valR a l d s m n t ∧ Rt.Ok ⟨a, l, d, s, m, n, t⟩ := by
  obtain ⟨cs, rfl, hsz⟩ := okWide_struct Try.underlying27 hv
  obtain ⟨fuel, hf0⟩ := h
  obtain ⟨e, hk, he⟩ := open_oneR hf0
  obtain ⟨l⟩ := cs
  have he' : l = e.cs := by simpa [Value.cells] using he
  subst he'
  obtain ⟨a, l, d, s, m, n, t⟩ := e
  exact ⟨a, l, d, s, m, n, t, rfl, hk⟩
theorem open_stX {r : Reach} {b0 : Nat} {v : Value} {d : DataW H} {p : List MemPlace} (hv : Value.okWide Try.prog w r b0 24 v) (h : DataW.Trod enc Try.prog w base spare held 24 v d p) :
    ∃ a l, v = .agg #[.int .u32 a, .int .i64 l] ∧ 0 ≤ a ∧ a < 4294967296 ∧ -9223372036854775808 ≤ l ∧ l ≤ 9223372036854775807 := by
  obtain ⟨cs, rfl, hsz⟩ := okWide_struct Try.underlying24 hv
  obtain ⟨fuel, hf0⟩ := h
  obtain ⟨xs, k, -, -, hlen, hxl, hf⟩ := DataW.trod_struct Try.underlying24 (cs := cs.toList) (by simpa [Value.cells] using hf0)
  rw [cellsO1] at hlen
  obtain ⟨l⟩ := cs
  match xs, hxl, l, hlen with
  | [y0, y1], _, [v0, v1], _ =>
    have g0 : DataW.trod enc Try.prog w base spare held k 22 [v0] = some y0 := by simpa [cellsO2, cellsO3] using hf 0 _ rfl
    have g1 : DataW.trod enc Try.prog w base spare held k 3 [v1] = some y1 := by simpa [cellsO2, cellsO3] using hf 1 _ rfl
    obtain ⟨a, e_a, -, w_a⟩ := DataW.trod_int Try.underlying22 g0
    obtain ⟨l, e_l, -, w_l⟩ := DataW.trod_int Try.underlying3 g1
    simp only [List.cons.injEq, and_true] at e_a e_l
    subst e_a e_l
    exact ⟨a, l, rfl, (bounds_u32 w_a).1, by have := (bounds_u32 w_a).2; omega, (bounds_i64 w_l).1, (bounds_i64 w_l).2⟩
theorem cellsO5 : Try.prog.cellsOf 37 = 8 := by kernel_rfl
theorem open_oneO {n0 : Nat} {cs : List Value} {x : DataW H × List MemPlace} (h : DataW.trod enc Try.prog w base spare held n0 37 cs = some x) : ∃ e : Op, e.Ok ∧ cs = e.cs := by
  obtain ⟨xs, k, -, -, hlen, hxl, hf⟩ := DataW.trod_struct Try.underlying37 h
  rw [cellsO5] at hlen
  match xs, hxl, cs, hlen with
  | [y0, y1], _, [v0, v1, v2, v3, v4, v5, v6, v7], _ =>
    have g0 : DataW.trod enc Try.prog w base spare held k 3 [v0] = some y0 := by simpa [cellsO0, cellsO3] using hf 0 _ rfl
    have g1 : DataW.trod enc Try.prog w base spare held k 27 [v1, v2, v3, v4, v5, v6, v7] = some y1 := by simpa [cellsO0, cellsO3] using hf 1 _ rfl
    obtain ⟨k0, e_k, -, w_k⟩ := DataW.trod_int Try.underlying3 g0
    simp only [List.cons.injEq, and_true] at e_k
    subst e_k
    have b_k := bounds_i64 w_k
    obtain ⟨e, hk, he⟩ := open_oneR g1
    obtain ⟨a, l, d, s, m, n, t⟩ := e
    simp only [Rt.cs, List.cons.injEq, and_true] at he
    obtain ⟨rfl, rfl, rfl, rfl, rfl, rfl, rfl⟩ := he
    exact ⟨⟨k0, a, l, d, s, m, n, t⟩, ⟨b_k.1, b_k.2, hk.a0, hk.a1, hk.l0, hk.l1, hk.d0, hk.d1, hk.s0, hk.s1, hk.m0, hk.m1, hk.n0, hk.n1, hk.t0, hk.t1⟩, rfl⟩
theorem open_rowO {n : Nat} {v : Value} {x : DataW H × List MemPlace} (h : DataW.trod enc Try.prog w base spare held n 31 [v] = some x) :
    ∃ a len cap es, v = .slice a len cap ∧ len ≤ cap ∧ cap ≤ maxLen ∧ RowO w a len es := by
  rcases open_slice Try.underlying31 h with ⟨hc, -⟩ | ⟨a, len, cap, m, n', D, Pl, hc, -, hl, hm, hmm, -, hx⟩
  · simp only [List.cons.injEq, and_true] at hc
    subst hc
    exact ⟨none, 0, 0, [], rfl, Nat.le_refl _, Nat.zero_le _, rfl, (fun _ h => by cases h), fun i e h => by simp at h⟩
  · simp only [List.cons.injEq, and_true] at hc
    subst hc
    have hlm : len ≤ m := by rw [hmm]; split <;> omega
    have each : ∀ i, i < len → ∃ e : Op, e.Ok ∧ ∀ j u, e.cs[j]? = some u → w.cell? (a.add (i * 8 + j)) = some u := by
      intro i hi
      obtain ⟨cs', h1, h2⟩ := hx i (by omega)
      rw [cellsO5] at h1
      obtain ⟨e, hk, rfl⟩ := open_oneO h2
      obtain ⟨-, -, hcell⟩ := World.cells?_some h1
      refine ⟨e, hk, fun j u hu => ?_⟩
      have hj : j < 8 := by
        have := (List.getElem?_eq_some_iff.1 hu).1
        exact this
      have := hcell j hj
      rw [Go.Deep.add_add] at this
      rw [this]; exact hu
    obtain ⟨q, hq⟩ : ∃ q : Nat → Op, ∀ i, i < len → (q i).Ok ∧ ∀ j u, (q i).cs[j]? = some u → w.cell? (a.add (i * 8 + j)) = some u := by
      refine ⟨fun i => if hi : i < len then (each i hi).choose else ⟨0, 0, 0, 0, 0, 0, 0, 0⟩, fun i hi => ?_⟩
      simp only [hi, dif_pos]
      exact (each i hi).choose_spec
    refine ⟨some a, len, cap, (List.range len).map q, rfl, hl, hm, by simp, fun e he => ?_, fun i e he => ?_⟩
    · obtain ⟨i, hi, rfl⟩ := List.mem_map.1 he
      exact (hq i (List.mem_range.1 hi)).1
    · have hi : i < len := by
        have := (List.getElem?_eq_some_iff.1 he).1
        simpa using this
      have hqe : q i = e := by
        rw [List.getElem?_map, List.getElem?_range hi] at he
        simpa using he
      subst hqe
      have hc := (hq i hi).2
      obtain ⟨b, off, spot⟩ := a
      have hspot : spot = none := by
        have h0 := (hq 0 (by omega)).2 0 _ rfl
        simpa [Addr.add] using World.cell?_spot h0
      subst hspot
      refine ⟨b, off, rfl, ?_⟩
      have key : ∀ j u, (q i).cs[j]? = some u → w.cell? ⟨b, off + i * 8 + j, none⟩ = some u := fun j u hu => by
        have := hc j u hu
        rw [Go.WideShapes.add_plain] at this
        rw [Nat.add_assoc]; exact this
      exact ⟨key 0 _ rfl, key 1 _ rfl, key 2 _ rfl, key 3 _ rfl, key 4 _ rfl, key 5 _ rfl, key 6 _ rfl, key 7 _ rfl⟩
theorem open_slO {r : Reach} {b0 : Nat} {v : Value} {d : DataW H} {p : List MemPlace} (hv : Value.okWide Try.prog w r b0 31 v) (h : DataW.Trod enc Try.prog w base spare held 31 v d p) :
    ∃ a n cap es, v = .slice a n cap ∧ n ≤ cap ∧ RowO w a n es := by
  obtain ⟨a, n, cap, rfl⟩ := okWide_slice Try.underlying31 hv
  obtain ⟨fuel, hf⟩ := h
  obtain ⟨a', n', cap', es, e, hle, -, hr⟩ := open_rowO (v := .slice a n cap) (by simpa [Value.cells] using hf)
  simp only [Value.slice.injEq] at e
  obtain ⟨rfl, rfl, rfl⟩ := e
  exact ⟨_, _, _, es, rfl, hle, hr⟩
theorem open_stO {r : Reach} {b0 : Nat} {v : Value} {d : DataW H} {p : List MemPlace} (hv : Value.okWide Try.prog w r b0 37 v) (h : DataW.Trod enc Try.prog w base spare held 37 v d p) :
    ∃ k a l d s m n t, v = valO k a l d s m n t ∧ Op.Ok ⟨k, a, l, d, s, m, n, t⟩ := by
  obtain ⟨cs, rfl, hsz⟩ := okWide_struct Try.underlying37 hv
  obtain ⟨fuel, hf0⟩ := h
  obtain ⟨e, hk, he⟩ := open_oneO hf0
  obtain ⟨l⟩ := cs
  have he' : l = e.cs := by simpa [Value.cells] using he
  subst he'
  obtain ⟨k, a, l, d, s, m, n, t⟩ := e
  exact ⟨k, a, l, d, s, m, n, t, rfl, hk⟩
end
end Go.Proofs.Ytcabeclbdjfoaaa
