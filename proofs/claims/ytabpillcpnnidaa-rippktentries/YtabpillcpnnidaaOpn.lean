/- What is known of a packet, and of bytes, that came in as arguments. -/
import Derived.Test.YtabpillcpnnidaaMat6
import Derived.OpenShut
import Derived.ChangeOld
import Derived.Lib.SmallJoins
import Derived.Deep.Slices
namespace Go.Proofs.Ytabpillcpnnidaa
open Go.RowKit Go.ChangeShapes Go.WideShapes Go.Deep

section
variable {H : Type} {enc : TypeId × Value → H} {w : World} {base : Nat} {spare : Nat → Bool} {held : Bool}

theorem cells43 : Try.prog.cellsOf 43 = 5 := by kernel_rfl
theorem cells40 : Try.prog.cellsOf 40 = 2 := by kernel_rfl
theorem cells41 : Try.prog.cellsOf 41 = 1 := by kernel_rfl
theorem cells38 : Try.prog.cellsOf 38 = 1 := by kernel_rfl
theorem cells3 : Try.prog.cellsOf 3 = 1 := by kernel_rfl

theorem open_ent {n : Nat} {cs : List Value} {x : DataW H × List MemPlace} (h : DataW.trod enc Try.prog w base spare held n 43 cs = some x) : ∃ e : Ent, e.Ok ∧ cs = e.cs := by
  obtain ⟨xs, k, -, -, hlen, hxl, hf⟩ := DataW.trod_struct Try.underlying43 h
  rw [cells43] at hlen
  match xs, hxl, cs, hlen with
  | [y0, y1, y2, y3], _, [v0, v1, v2, v3, v4], _ =>
    have g0 : DataW.trod enc Try.prog w base spare held k 40 [v0, v1] = some y0 := by simpa [cells40] using hf 0 _ rfl
    have g1 : DataW.trod enc Try.prog w base spare held k 41 [v2] = some y1 := by simpa [cells41] using hf 1 _ rfl
    have g2 : DataW.trod enc Try.prog w base spare held k 38 [v3] = some y2 := by simpa [cells38] using hf 2 _ rfl
    have g3 : DataW.trod enc Try.prog w base spare held k 3 [v4] = some y3 := by simpa [cells3] using hf 3 _ rfl
    obtain ⟨zs, k', -, -, -, hzl, hg⟩ := DataW.trod_struct Try.underlying40 g0
    match zs, hzl with
    | [z0, z1], _ =>
      have p0 : DataW.trod enc Try.prog w base spare held k' 38 [v0] = some z0 := by simpa [cells38] using hg 0 _ rfl
      have p1 : DataW.trod enc Try.prog w base spare held k' 3 [v1] = some z1 := by simpa [cells3] using hg 1 _ rfl
      obtain ⟨a, ea, -, wa⟩ := DataW.trod_int Try.underlying38 p0
      obtain ⟨l, el, -, wl⟩ := DataW.trod_int Try.underlying3 p1
      obtain ⟨t, et, -, wt⟩ := DataW.trod_int Try.underlying41 g1
      obtain ⟨xx, ex, -, wx⟩ := DataW.trod_int Try.underlying38 g2
      obtain ⟨m, em, -, wm⟩ := DataW.trod_int Try.underlying3 g3
      simp only [List.cons.injEq, and_true] at ea el et ex em
      subst ea el et ex em
      have ba := bounds_u32 wa
      have bl := bounds_i64 wl
      have bt := bounds_u16 wt
      have bx := bounds_u32 wx
      have bm := bounds_i64 wm
      exact ⟨⟨a, l, t, xx, m⟩, ⟨by simpa using ba.1, by have := ba.2; show a < 4294967296; omega, bl.1, bl.2, bt.1, bt.2, bx.1, bx.2, bm.1, bm.2⟩, rfl⟩

theorem open_ents {n : Nat} {v : Value} {x : DataW H × List MemPlace} (h : DataW.trod enc Try.prog w base spare held n 22 [v] = some x) :
    ∃ a len cap es, v = .slice a len cap ∧ len ≤ cap ∧ cap ≤ maxLen ∧ RowE w a len es := by
  rcases open_slice Try.underlying22 h with ⟨hc, -⟩ | ⟨a, len, cap, m, n', D, Pl, hc, -, hl, hm, hmm, -, hx⟩
  · simp only [List.cons.injEq, and_true] at hc
    subst hc
    exact ⟨none, 0, 0, [], rfl, Nat.le_refl _, Nat.zero_le _, rfl, (fun _ h => by cases h), fun i e h => by simp at h⟩
  · simp only [List.cons.injEq, and_true] at hc
    subst hc
    have hlm : len ≤ m := by rw [hmm]; split <;> omega
    have each : ∀ i, i < len → ∃ e : Ent, e.Ok ∧ ∀ j u, e.cs[j]? = some u → w.cell? (a.add (i * 5 + j)) = some u := by
      intro i hi
      obtain ⟨cs', h1, h2⟩ := hx i (by omega)
      rw [cells43] at h1
      obtain ⟨e, hk, rfl⟩ := open_ent h2
      obtain ⟨-, -, hcell⟩ := World.cells?_some h1
      refine ⟨e, hk, fun j u hu => ?_⟩
      have hj : j < 5 := by
        have := (List.getElem?_eq_some_iff.1 hu).1
        exact this
      have := hcell j hj
      rw [Go.Deep.add_add] at this
      rw [this]; exact hu
    obtain ⟨q, hq⟩ : ∃ q : Nat → Ent, ∀ i, i < len → (q i).Ok ∧ ∀ j u, (q i).cs[j]? = some u → w.cell? (a.add (i * 5 + j)) = some u := by
      refine ⟨fun i => if hi : i < len then (each i hi).choose else ⟨0, 0, 0, 0, 0⟩, fun i hi => ?_⟩
      simp only [hi, dif_pos]
      exact (each i hi).choose_spec
    refine ⟨some a, len, cap, (List.range len).map q, rfl, hl, hm, by simp, fun e he => ?_, fun i e he => ?_⟩
    · obtain ⟨i, hi, rfl⟩ := List.mem_map.1 he
      exact (hq i (List.mem_range.1 hi)).1
    · have hi : i < len := by
        have := (List.getElem?_eq_some_iff.1 he).1
        simpa using this
      have hqe : q i = e := by
        rw [List.getElem?_map, List.getElem?_range hi] at he
        simpa using he
      subst hqe
      have hc := (hq i hi).2
      obtain ⟨b, off, spot⟩ := a
      have hspot : spot = none := by
        have h0 := (hq 0 (by omega)).2 0 _ rfl
        simpa [Addr.add] using World.cell?_spot h0
      subst hspot
      refine ⟨b, off, rfl, ?_⟩
      have key : ∀ j u, (q i).cs[j]? = some u → w.cell? ⟨b, off + i * 5 + j, none⟩ = some u := fun j u hu => by
        have := hc j u hu
        rw [Go.WideShapes.add_plain] at this
        rw [Nat.add_assoc]; exact this
      exact ⟨key 0 _ rfl, key 1 _ rfl, key 2 _ rfl, key 3 _ rfl, key 4 _ rfl⟩
theorem cells24 : Try.prog.cellsOf 24 = 3 := by kernel_rfl
/-- A packet that came in. -/
theorem open_pkt {r : Reach} {b0 : Nat} {v : Value} {d : DataW H} {p : List MemPlace} (hv : Value.okWide Try.prog w r b0 24 v) (h : DataW.Trod enc Try.prog w base spare held 24 v d p) :
    ∃ c wh a n cap es, v = .agg #[.int .i64 c, .bool wh, .slice a n cap] ∧ RowE w a n es := by
  obtain ⟨v0, v1, v2, y0, y1, y2, m, rfl, -, -, h0, h1, h2⟩ := Go.Joins.open_agg3 Try.underlying24 (by kernel_rfl) cells24 hv h
  obtain ⟨c, e0, -, -⟩ := DataW.trod_int Try.underlying3 h0
  obtain ⟨wh, e1, -⟩ := DataW.trod_bool Try.underlying4 h1
  obtain ⟨a, n, cap, es, rfl, -, -, R⟩ := open_ents h2
  simp only [List.cons.injEq, and_true] at e0 e1
  subst e0 e1
  exact ⟨c, wh, a, n, cap, es, rfl, R⟩
/-- Bytes that came in. -/
theorem open_bytes {r : Reach} {b0 : Nat} {v : Value} {d : DataW H} {p : List MemPlace} (hv : Value.okWide Try.prog w r b0 26 v) (h : DataW.Trod enc Try.prog w base spare held 26 v d p) :
    ∃ a n cap l, v = .slice a n cap ∧ n ≤ cap ∧ (n ≤ 3000 → Row8 w a n l) := by
  obtain ⟨a, n, cap, rfl⟩ := okWide_slice Try.underlying26 hv
  obtain ⟨fuel, hf⟩ := h
  rcases open_ints Try.underlying26 Try.underlying5 (by kernel_rfl) hf with ⟨hcs, -⟩ | ⟨x, l, c, zs, hcs, -, hl, hm, hz, hsp, hcell, hwz⟩
  · simp [Value.cells] at hcs
    obtain ⟨rfl, rfl, rfl⟩ := hcs
    exact ⟨none, 0, 0, [], rfl, Nat.le_refl _, fun _ => ⟨rfl, by omega, by unfold Bytes; simp, fun i hi => by omega⟩⟩
  · simp [Value.cells] at hcs
    obtain ⟨rfl, rfl, rfl⟩ := hcs
    have hzl : n ≤ zs.length := by rw [hz]; split <;> omega
    refine ⟨_, n, cap, zs.take n, rfl, hl, fun hn => ⟨by rw [List.length_take]; omega, by omega, fun q hq => bounds_u8 (hwz q (List.mem_of_mem_take hq)), fun i hi => ?_⟩⟩
    obtain ⟨b, off, rfl, hc'⟩ := ints_at hcell (by omega)
    refine ⟨b, off, rfl, ?_⟩
    rw [hc' i (by omega)]
    simp [hi]
end
end Go.Proofs.Ytabpillcpnnidaa
