/- What is known of packets, and of bytes, that came in as arguments. -/
import Derived.Test.YtnlgdkbpolckcaaRefC
import Derived.OpenShut
import Derived.ChangeOld
import Derived.Lib.SmallJoins
import Derived.Deep.Slices
namespace Go.Proofs.Ytnlgdkbpolckcaa
open Go.RowKit Go.ChangeShapes Go.WideShapes Go.Deep

section
variable {H : Type} {enc : TypeId × Value → H} {w : World} {base : Nat} {spare : Nat → Bool} {held : Bool}

theorem cellsE : Try.prog.cellsOf 44 = 6 := by kernel_rfl
theorem cellsPfx : Try.prog.cellsOf 39 = 2 := by kernel_rfl
theorem cellsVec : Try.prog.cellsOf 41 = 3 := by kernel_rfl
theorem cells16 : Try.prog.cellsOf 42 = 1 := by kernel_rfl
theorem cells32 : Try.prog.cellsOf 22 = 1 := by kernel_rfl
theorem cells64 : Try.prog.cellsOf 3 = 1 := by kernel_rfl
theorem cellsBool : Try.prog.cellsOf 4 = 1 := by kernel_rfl
theorem cellsSl : Try.prog.cellsOf 23 = 1 := by kernel_rfl
theorem cellsP : Try.prog.cellsOf 25 = 5 := by kernel_rfl

theorem open_ent {n : Nat} {cs : List Value} {x : DataW H × List MemPlace} (h : DataW.trod enc Try.prog w base spare held n 44 cs = some x) : ∃ e : Ent, e.Ok ∧ cs = e.cs := by
  obtain ⟨xs, k, -, -, hlen, hxl, hf⟩ := DataW.trod_struct Try.underlying44 h
  rw [cellsE] at hlen
  match xs, hxl, cs, hlen with
  | [y0, y1, y2], _, [v0, v1, v2, v3, v4, v5], _ =>
    have g0 : DataW.trod enc Try.prog w base spare held k 39 [v0, v1] = some y0 := by simpa [cellsPfx] using hf 0 _ rfl
    have g1 : DataW.trod enc Try.prog w base spare held k 41 [v2, v3, v4] = some y1 := by simpa [cellsVec] using hf 1 _ rfl
    have g2 : DataW.trod enc Try.prog w base spare held k 42 [v5] = some y2 := by simpa [cells16] using hf 2 _ rfl
    obtain ⟨zs, k', -, -, -, hzl, hg⟩ := DataW.trod_struct Try.underlying39 g0
    obtain ⟨us, k2, -, -, -, hul, hu⟩ := DataW.trod_struct Try.underlying41 g1
    match zs, hzl, us, hul with
    | [z0, z1], _, [u0, u1, u2], _ =>
      have p0 : DataW.trod enc Try.prog w base spare held k' 22 [v0] = some z0 := by simpa [cells32] using hg 0 _ rfl
      have p1 : DataW.trod enc Try.prog w base spare held k' 3 [v1] = some z1 := by simpa [cells64] using hg 1 _ rfl
      have q0 : DataW.trod enc Try.prog w base spare held k2 3 [v2] = some u0 := by simpa [cells64] using hu 0 _ rfl
      have q1 : DataW.trod enc Try.prog w base spare held k2 3 [v3] = some u1 := by simpa [cells64] using hu 1 _ rfl
      have q2 : DataW.trod enc Try.prog w base spare held k2 3 [v4] = some u2 := by simpa [cells64] using hu 2 _ rfl
      obtain ⟨a, ea, -, wa⟩ := DataW.trod_int Try.underlying22 p0
      obtain ⟨l, el, -, wl⟩ := DataW.trod_int Try.underlying3 p1
      obtain ⟨b, eb, -, wb⟩ := DataW.trod_int Try.underlying3 q0
      obtain ⟨d, ed, -, wd⟩ := DataW.trod_int Try.underlying3 q1
      obtain ⟨hh, eh, -, wh⟩ := DataW.trod_int Try.underlying3 q2
      obtain ⟨t, et, -, wt⟩ := DataW.trod_int Try.underlying42 g2
      simp only [List.cons.injEq, and_true] at ea el eb ed eh et
      subst ea el eb ed eh et
      have ba := bounds_u32 wa
      have bl := bounds_i64 wl
      have bb := bounds_i64 wb
      have bd := bounds_i64 wd
      have bh := bounds_i64 wh
      have bt := bounds_u16 wt
      exact ⟨⟨a, l, b, d, hh, t⟩, ⟨ba.1, by have := ba.2; show a < 4294967296; omega, bl.1, bl.2, bt.1, bt.2, bh.1, bh.2, bb.1, bb.2, bd.1, bd.2⟩, rfl⟩

theorem open_ents {n : Nat} {v : Value} {x : DataW H × List MemPlace} (h : DataW.trod enc Try.prog w base spare held n 23 [v] = some x) :
    ∃ a len cap es, v = .slice a len cap ∧ len ≤ cap ∧ cap ≤ maxLen ∧ RowE w a len es := by
  rcases open_slice Try.underlying23 h with ⟨hc, -⟩ | ⟨a, len, cap, m, n', D, Pl, hc, -, hl, hm, hmm, -, hx⟩
  · simp only [List.cons.injEq, and_true] at hc
    subst hc
    exact ⟨none, 0, 0, [], rfl, Nat.le_refl _, Nat.zero_le _, rfl, (fun _ h => by cases h), fun i e h => by simp at h⟩
  · simp only [List.cons.injEq, and_true] at hc
    subst hc
    have hlm : len ≤ m := by rw [hmm]; split <;> omega
    have each : ∀ i, i < len → ∃ e : Ent, e.Ok ∧ ∀ j u, e.cs[j]? = some u → w.cell? (a.add (i * 6 + j)) = some u := by
      intro i hi
      obtain ⟨cs', h1, h2⟩ := hx i (by omega)
      rw [cellsE] at h1
      obtain ⟨e, hk, rfl⟩ := open_ent h2
      obtain ⟨-, -, hcell⟩ := World.cells?_some h1
      refine ⟨e, hk, fun j u hu => ?_⟩
      have hj : j < 6 := by
        have := (List.getElem?_eq_some_iff.1 hu).1
        exact this
      have := hcell j hj
      rw [Go.Deep.add_add] at this
      rw [this]; exact hu
    obtain ⟨q, hq⟩ : ∃ q : Nat → Ent, ∀ i, i < len → (q i).Ok ∧ ∀ j u, (q i).cs[j]? = some u → w.cell? (a.add (i * 6 + j)) = some u := by
      refine ⟨fun i => if hi : i < len then (each i hi).choose else ⟨0, 0, 0, 0, 0, 0⟩, fun i hi => ?_⟩
      simp only [hi, dif_pos]
      exact (each i hi).choose_spec
    refine ⟨some a, len, cap, (List.range len).map q, rfl, hl, hm, by simp, fun e he => ?_, fun i e he => ?_⟩
    · obtain ⟨i, hi, rfl⟩ := List.mem_map.1 he
      exact (hq i (List.mem_range.1 hi)).1
    · have hi : i < len := by
        have := (List.getElem?_eq_some_iff.1 he).1
        simpa using this
      have hqe : q i = e := by
        rw [List.getElem?_map, List.getElem?_range hi] at he
        simpa using he
      subst hqe
      have hc := (hq i hi).2
      obtain ⟨b, off, spot⟩ := a
      have hspot : spot = none := by
        have h0 := (hq 0 (by omega)).2 0 _ rfl
        simpa [Addr.add] using World.cell?_spot h0
      subst hspot
      refine ⟨b, off, rfl, ?_⟩
      have key : ∀ j u, (q i).cs[j]? = some u → w.cell? ⟨b, off + i * 6 + j, none⟩ = some u := fun j u hu => by
        have := hc j u hu
        rw [Go.WideShapes.add_plain] at this
        rw [Nat.add_assoc]; exact this
      exact ⟨key 0 _ rfl, key 1 _ rfl, key 2 _ rfl, key 3 _ rfl, key 4 _ rfl, key 5 _ rfl⟩
/-- A packet that came in. -/
theorem open_pkt {r : Reach} {b0 : Nat} {v : Value} {d : DataW H} {p : List MemPlace} (hv : Value.okWide Try.prog w r b0 25 v) (h : DataW.Trod enc Try.prog w base spare held 25 v d p) :
    ∃ c i s k a n cap es, v = valP c i s k a n cap ∧ RowE w a n es ∧ Pk.Ok ⟨c, i, s, k, es⟩ := by
  obtain ⟨cs, rfl, hsz⟩ := okWide_struct Try.underlying25 hv
  obtain ⟨fuel, hf0⟩ := h
  obtain ⟨xs, k', -, -, hlen, hxl, hf⟩ := DataW.trod_struct Try.underlying25 hf0
  rw [cellsP] at hlen
  obtain ⟨l⟩ := cs
  have hlen' : l.length = 5 := by simpa [Value.cells] using hlen
  match xs, hxl, l, hlen' with
  | [y0, y1, y2, y3, y4], _, [v0, v1, v2, v3, v4], _ =>
    have g0 : DataW.trod enc Try.prog w base spare held k' 3 [v0] = some y0 := by simpa [Value.cells, cells64] using hf 0 _ rfl
    have g1 : DataW.trod enc Try.prog w base spare held k' 4 [v1] = some y1 := by simpa [Value.cells, cellsBool] using hf 1 _ rfl
    have g2 : DataW.trod enc Try.prog w base spare held k' 22 [v2] = some y2 := by simpa [Value.cells, cells32] using hf 2 _ rfl
    have g3 : DataW.trod enc Try.prog w base spare held k' 22 [v3] = some y3 := by simpa [Value.cells, cells32] using hf 3 _ rfl
    have g4 : DataW.trod enc Try.prog w base spare held k' 23 [v4] = some y4 := by simpa [Value.cells, cellsSl] using hf 4 _ rfl
    obtain ⟨c, e0, -, wc⟩ := DataW.trod_int Try.underlying3 g0
    obtain ⟨i, e1, -⟩ := DataW.trod_bool Try.underlying4 g1
    obtain ⟨s, e2, -, ws⟩ := DataW.trod_int Try.underlying22 g2
    obtain ⟨k, e3, -, wk⟩ := DataW.trod_int Try.underlying22 g3
    obtain ⟨a, n, cap, es, rfl, -, -, R⟩ := open_ents g4
    simp only [List.cons.injEq, and_true] at e0 e1 e2 e3
    subst e0 e1 e2 e3
    exact ⟨c, i, s, k, a, n, cap, es, rfl, R, (bounds_i64 wc).1, (bounds_i64 wc).2, (bounds_u32 ws).1, (bounds_u32 ws).2, (bounds_u32 wk).1, (bounds_u32 wk).2, R.2.1⟩
/-- Bytes that came in. -/
theorem open_bytes {r : Reach} {b0 : Nat} {v : Value} {d : DataW H} {p : List MemPlace} (hv : Value.okWide Try.prog w r b0 27 v) (h : DataW.Trod enc Try.prog w base spare held 27 v d p) :
    ∃ a n cap l, v = .slice a n cap ∧ n ≤ cap ∧ (n ≤ 3000 → Row8 w a n l) := by
  obtain ⟨a, n, cap, rfl⟩ := okWide_slice Try.underlying27 hv
  obtain ⟨fuel, hf⟩ := h
  rcases open_ints Try.underlying27 Try.underlying5 (by kernel_rfl) hf with ⟨hcs, -⟩ | ⟨x, l, c, zs, hcs, -, hl, hm, hz, hsp, hcell, hwz⟩
  · simp [Value.cells] at hcs
    obtain ⟨rfl, rfl, rfl⟩ := hcs
    exact ⟨none, 0, 0, [], rfl, Nat.le_refl _, fun _ => ⟨rfl, by omega, by unfold Bytes; simp, fun i hi => by omega⟩⟩
  · simp [Value.cells] at hcs
    obtain ⟨rfl, rfl, rfl⟩ := hcs
    have hzl : n ≤ zs.length := by rw [hz]; split <;> omega
    refine ⟨_, n, cap, zs.take n, rfl, hl, fun hn => ⟨by rw [List.length_take]; omega, by omega, fun q hq => bounds_u8 (hwz q (List.mem_of_mem_take hq)), fun i hi => ?_⟩⟩
    obtain ⟨b, off, rfl, hc'⟩ := ints_at hcell (by omega)
    refine ⟨b, off, rfl, ?_⟩
    rw [hc' i (by omega)]
    simp [hi]
end
end Go.Proofs.Ytnlgdkbpolckcaa
