/- What is known of parts, and of bytes, that came in as arguments. -/
import Derived.Test.YtakikkigkmcffaaCon9
import Derived.OpenShut
import Derived.ChangeOld
import Derived.Lib.SmallJoins
import Derived.Deep.Slices
namespace Go.Proofs.Ytakikkigkmcffaa
open Go.RowKit Go.ChangeShapes Go.WideShapes Go.Deep

section
variable {H : Type} {enc : TypeId × Value → H} {w : World} {base : Nat} {spare : Nat → Bool} {held : Bool}

theorem cells44 : Try.prog.cellsOf 44 = 9 := by kernel_rfl
theorem cells41 : Try.prog.cellsOf 41 = 2 := by kernel_rfl
theorem cells39 : Try.prog.cellsOf 39 = 1 := by kernel_rfl
theorem cells42 : Try.prog.cellsOf 42 = 1 := by kernel_rfl
theorem cells23 : Try.prog.cellsOf 23 = 1 := by kernel_rfl
theorem cells3 : Try.prog.cellsOf 3 = 1 := by kernel_rfl

theorem open_tlv {n : Nat} {cs : List Value} {x : DataW H × List MemPlace} (h : DataW.trod enc Try.prog w base spare held n 44 cs = some x) : ∃ e : Tlv, e.Ok ∧ cs = e.cs := by
  obtain ⟨xs, k, -, -, hlen, hxl, hf⟩ := DataW.trod_struct Try.underlying44 h
  rw [cells44] at hlen
  match xs, hxl, cs, hlen with
  | [y0, y1, y2, y3, y4, y5, y6, y7], _, [v0, v1, v2, v3, v4, v5, v6, v7, v8], _ =>
    have g0 : DataW.trod enc Try.prog w base spare held k 3 [v0] = some y0 := by simpa [cells3] using hf 0 _ rfl
    have g1 : DataW.trod enc Try.prog w base spare held k 39 [v1] = some y1 := by simpa [cells3, cells39] using hf 1 _ rfl
    have g2 : DataW.trod enc Try.prog w base spare held k 3 [v2] = some y2 := by simpa [cells3, cells39] using hf 2 _ rfl
    have g3 : DataW.trod enc Try.prog w base spare held k 3 [v3] = some y3 := by simpa [cells3, cells39] using hf 3 _ rfl
    have g4 : DataW.trod enc Try.prog w base spare held k 41 [v4, v5] = some y4 := by simpa [cells3, cells39, cells41] using hf 4 _ rfl
    have g5 : DataW.trod enc Try.prog w base spare held k 42 [v6] = some y5 := by simpa [cells3, cells39, cells41, cells42] using hf 5 _ rfl
    have g6 : DataW.trod enc Try.prog w base spare held k 39 [v7] = some y6 := by simpa [cells3, cells39, cells41, cells42] using hf 6 _ rfl
    have g7 : DataW.trod enc Try.prog w base spare held k 3 [v8] = some y7 := by simpa [cells3, cells39, cells41, cells42] using hf 7 _ rfl
    obtain ⟨zs, k', -, -, -, hzl, hg⟩ := DataW.trod_struct Try.underlying41 g4
    match zs, hzl with
    | [z0, z1], _ =>
      have p0 : DataW.trod enc Try.prog w base spare held k' 23 [v4] = some z0 := by simpa [cells23] using hg 0 _ rfl
      have p1 : DataW.trod enc Try.prog w base spare held k' 3 [v5] = some z1 := by simpa [cells23, cells3] using hg 1 _ rfl
      obtain ⟨a, ea, -, wa⟩ := DataW.trod_int Try.underlying23 p0
      obtain ⟨l, el, -, wl⟩ := DataW.trod_int Try.underlying3 p1
      obtain ⟨kk, ek, -, wk⟩ := DataW.trod_int Try.underlying3 g0
      obtain ⟨s, es, -, ws⟩ := DataW.trod_int Try.underlying39 g1
      obtain ⟨i, ei, -, wi⟩ := DataW.trod_int Try.underlying3 g2
      obtain ⟨c, ec, -, wc⟩ := DataW.trod_int Try.underlying3 g3
      obtain ⟨r, er, -, wr'⟩ := DataW.trod_int Try.underlying42 g5
      obtain ⟨t, et, -, wt⟩ := DataW.trod_int Try.underlying39 g6
      obtain ⟨hh, eh, -, wh⟩ := DataW.trod_int Try.underlying3 g7
      simp only [List.cons.injEq, and_true] at ea el ek es ei ec er et eh
      subst ea el ek es ei ec er et eh
      have ba := bounds_u32 wa
      have bl := bounds_i64 wl
      have bk := bounds_i64 wk
      have bs := bounds_u16 ws
      have bi := bounds_i64 wi
      have bc := bounds_i64 wc
      have br := bounds_u64 wr'
      have bt := bounds_u16 wt
      have bh := bounds_i64 wh
      exact ⟨⟨kk, s, i, c, a, l, r, t, hh⟩, ⟨bk.1, bk.2, bs.1, bs.2, bi.1, bi.2, bc.1, bc.2, by simpa using ba.1, by have := ba.2; show a < 4294967296; omega, bl.1, bl.2, br.1, br.2, bt.1, bt.2, bh.1, bh.2⟩, rfl⟩

theorem open_tlvs {n : Nat} {v : Value} {x : DataW H × List MemPlace} (h : DataW.trod enc Try.prog w base spare held n 22 [v] = some x) :
    ∃ a len cap es, v = .slice a len cap ∧ len ≤ cap ∧ cap ≤ maxLen ∧ RowT w a len es := by
  rcases open_slice Try.underlying22 h with ⟨hc, -⟩ | ⟨a, len, cap, m, n', D, Pl, hc, -, hl, hm, hmm, -, hx⟩
  · simp only [List.cons.injEq, and_true] at hc
    subst hc
    exact ⟨none, 0, 0, [], rfl, Nat.le_refl _, Nat.zero_le _, rowT_none w⟩
  · simp only [List.cons.injEq, and_true] at hc
    subst hc
    have hlm : len ≤ m := by rw [hmm]; split <;> omega
    have each : ∀ i, i < len → ∃ e : Tlv, e.Ok ∧ ∀ j u, e.cs[j]? = some u → w.cell? (a.add (i * 9 + j)) = some u := by
      intro i hi
      obtain ⟨cs', h1, h2⟩ := hx i (by omega)
      rw [cells44] at h1
      obtain ⟨e, hk, rfl⟩ := open_tlv h2
      obtain ⟨-, -, hcell⟩ := World.cells?_some h1
      refine ⟨e, hk, fun j u hu => ?_⟩
      have hj : j < 9 := by
        have := (List.getElem?_eq_some_iff.1 hu).1
        exact this
      have := hcell j hj
      rw [Go.Deep.add_add] at this
      rw [this]; exact hu
    obtain ⟨q, hq⟩ : ∃ q : Nat → Tlv, ∀ i, i < len → (q i).Ok ∧ ∀ j u, (q i).cs[j]? = some u → w.cell? (a.add (i * 9 + j)) = some u := by
      refine ⟨fun i => if hi : i < len then (each i hi).choose else ⟨0, 0, 0, 0, 0, 0, 0, 0, 0⟩, fun i hi => ?_⟩
      simp only [hi, dif_pos]
      exact (each i hi).choose_spec
    refine ⟨some a, len, cap, (List.range len).map q, rfl, hl, hm, by simp, fun e he => ?_, fun i e he => ?_⟩
    · obtain ⟨i, hi, rfl⟩ := List.mem_map.1 he
      exact (hq i (List.mem_range.1 hi)).1
    · have hi : i < len := by
        have := (List.getElem?_eq_some_iff.1 he).1
        simpa using this
      have hqe : q i = e := by
        rw [List.getElem?_map, List.getElem?_range hi] at he
        simpa using he
      subst hqe
      have hc := (hq i hi).2
      obtain ⟨b, off, spot⟩ := a
      have hspot : spot = none := by
        have h0 := (hq 0 (by omega)).2 0 _ rfl
        simpa [Addr.add] using World.cell?_spot h0
      subst hspot
      refine ⟨b, off, rfl, ?_⟩
      have key : ∀ j u, (q i).cs[j]? = some u → w.cell? ⟨b, off + i * 9 + j, none⟩ = some u := fun j u hu => by
        have := hc j u hu
        rw [Go.WideShapes.add_plain] at this
        rw [Nat.add_assoc]; exact this
      exact ⟨key 0 _ rfl, key 1 _ rfl, key 2 _ rfl, key 3 _ rfl, key 4 _ rfl, key 5 _ rfl, key 6 _ rfl, key 7 _ rfl, key 8 _ rfl⟩
/-- Parts that came in. -/
theorem open_parts {r : Reach} {b0 : Nat} {v : Value} {d : DataW H} {p : List MemPlace} (hv : Value.okWide Try.prog w r b0 22 v) (h : DataW.Trod enc Try.prog w base spare held 22 v d p) :
    ∃ a n cap ts, v = .slice a n cap ∧ n ≤ cap ∧ RowT w a n ts := by
  obtain ⟨a, n, cap, rfl⟩ := okWide_slice Try.underlying22 hv
  obtain ⟨fuel, hf⟩ := h
  obtain ⟨a', n', cap', ts, he, hl, -, R⟩ := open_tlvs (by simpa [Value.cells] using hf)
  exact ⟨a', n', cap', ts, he, hl, R⟩
/-- A part that came in. -/
theorem open_part {r : Reach} {b0 : Nat} {v : Value} {d : DataW H} {p : List MemPlace} (hv : Value.okWide Try.prog w r b0 44 v) (h : DataW.Trod enc Try.prog w base spare held 44 v d p) :
    ∃ k s i c a l r t hh, v = valT k s i c a l r t hh ∧ Tlv.Ok ⟨k, s, i, c, a, l, r, t, hh⟩ := by
  obtain ⟨cs, rfl, hsz⟩ := okWide_struct Try.underlying44 hv
  obtain ⟨fuel, hf⟩ := h
  obtain ⟨⟨k, s, i, c, a, l, r, t, hh⟩, hk, he⟩ := open_tlv hf
  refine ⟨k, s, i, c, a, l, r, t, hh, ?_, hk⟩
  have : cs.toList = _ := he
  rw [← Array.toArray_toList (xs := cs), this]
  rfl
/-- Bytes that came in. -/
theorem open_bytes {r : Reach} {b0 : Nat} {v : Value} {d : DataW H} {p : List MemPlace} (hv : Value.okWide Try.prog w r b0 25 v) (h : DataW.Trod enc Try.prog w base spare held 25 v d p) :
    ∃ a n cap l, v = .slice a n cap ∧ n ≤ cap ∧ (n ≤ 3000 → Row8 w a n l) := by
  obtain ⟨a, n, cap, rfl⟩ := okWide_slice Try.underlying25 hv
  obtain ⟨fuel, hf⟩ := h
  rcases open_ints Try.underlying25 Try.underlying5 (by kernel_rfl) hf with ⟨hcs, -⟩ | ⟨x, l, c, zs, hcs, -, hl, hm, hz, hsp, hcell, hwz⟩
  · simp [Value.cells] at hcs
    obtain ⟨rfl, rfl, rfl⟩ := hcs
    exact ⟨none, 0, 0, [], rfl, Nat.le_refl _, fun _ => Row8.none0 w none⟩
  · simp [Value.cells] at hcs
    obtain ⟨rfl, rfl, rfl⟩ := hcs
    have hzl : n ≤ zs.length := by rw [hz]; split <;> omega
    refine ⟨_, n, cap, zs.take n, rfl, hl, fun hn => ⟨by rw [List.length_take]; omega, by omega, fun q hq => bounds_u8 (hwz q (List.mem_of_mem_take hq)), fun i hi => ?_⟩⟩
    obtain ⟨b, off, rfl, hc'⟩ := ints_at hcell (by omega)
    refine ⟨b, off, rfl, ?_⟩
    rw [hc' i (by omega)]
    simp [hi]
end
end Go.Proofs.Ytakikkigkmcffaa
