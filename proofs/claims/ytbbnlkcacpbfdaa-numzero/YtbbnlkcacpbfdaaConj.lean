/- The walk of NumZero where its length is within what it asks. -/
import Derived.Test.YtbbnlkcacpbfdaaCong
import Derived.Test.YtbbnlkcacpbfdaaMatd
import Derived.Deep.RegionWith
namespace Go.Proofs.Ytbbnlkcacpbfdaa
open Go.RowKit

/-- A row of bytes of one's own that may be written. -/
structure Wr8 (W : World) (g n : Nat) (l : List Int) : Prop where
  len : l.length = n
  cell : ∀ j, j < n → W.cell? ⟨g, j, none⟩ = some (.int .u8 (l[j]?.getD 0))
  free : ∀ j, W.frozen? ⟨g, j, none⟩ = false

theorem Wr8.set {W : World} {g n : Nat} {l : List Int} (h : Wr8 W g n l) (j : Nat) (hj : j < n) (v : Int) : Wr8 (W.setCell ⟨g, j, none⟩ (.int .u8 v)) g n (l.set j v) := by
  refine ⟨by rw [List.length_set]; exact h.len, fun i hi => ?_, fun i => by rw [World.frozen?_setCell]; exact h.free i⟩
  by_cases e : j = i
  · subst e
    rw [World.cell?_setCell_same W _ _ (h.cell j hj), List.getElem?_set_self (by rw [h.len]; exact hj), Option.getD_some]
  · rw [World.cell?_setCell_other W _ _ _ (fun e' => e (congrArg Addr.off e')), List.getElem?_set_ne e]
    exact h.cell i hi

theorem Wr8.row {W : World} {g n : Nat} {l : List Int} (h : Wr8 W g n l) (hB : Bytes l) (hn : n ≤ 100000) : Row8 W (some ⟨g, 0, none⟩) n l :=
  ⟨h.len, by omega, hB, fun i hi => ⟨g, 0, rfl, by rw [Nat.zero_add]; exact h.cell i hi⟩⟩

theorem Own8.shown {W : World} {base : Nat} {e : TypeId} {ad : Option Addr} {n c : Nat} {l : List Int} (h : Own8 W base e (.slice ad n c) n l) (hn : 0 < n) : ∃ g, ad = some ⟨g, 0, none⟩ ∧ base ≤ g ∧ Wr8 W g n l := by
  have hl : l.length = n := by have := h.1; simpa using this
  rcases h.2 with ⟨_, h0⟩ | ⟨g, cap, cur, hv, hb, hg, _⟩
  · omega
  · have hc := World.ownsRow.cells h (g := g) (by rw [hv]; rfl)
    simp only [Value.slice.injEq] at hv
    refine ⟨g, hv.1, hb, hl, fun j hj => ?_, fun j => ?_⟩
    · have := hc j (.int .u8 (l[j]?.getD 0)) (by simp [hl, hj])
      rw [Go.WideShapes.add_plain, Nat.zero_add] at this
      exact this
    · simp [World.frozen?, hg]

theorem far8 {W : World} {g j b o : Nat} {v x : Value} (h : b < g) (hc : W.cell? ⟨b, o, none⟩ = some x) : (W.setCell ⟨g, j, none⟩ v).cell? ⟨b, o, none⟩ = some x := by
  rw [World.cell?_setCell_other W _ _ _ (fun e' => by have e2 : g = b := congrArg Addr.block e'; omega)]; exact hc

theorem zero_main (b off : Nat) (len0 cap0 : Nat) (l0 : List Int) (i k : Nat) (w : World) (hr : Row8 w (some ⟨b, off, none⟩) len0 l0) (h1 : len0 ≤ 3000) (h2 : len0 % 2 = 0) (hi : 2 * i + 1 < len0) (hk : 2 * k + 1 < len0)
    (x1 x2 x3 x4 : Int) (c1 : w.cell? ⟨b, off + 2 * k, none⟩ = some (.int .u8 x1)) (c2 : w.cell? ⟨b, off + (2 * k + 1), none⟩ = some (.int .u8 x2)) (c3 : w.cell? ⟨b, off + 2 * i, none⟩ = some (.int .u8 x3)) (c4 : w.cell? ⟨b, off + (2 * i + 1), none⟩ = some (.int .u8 x4))
    (HS : Hid (sumI ((((l0.set (2 * i) x1).set (2 * i + 1) x2).set (2 * k) x3).set (2 * k + 1) x4) = sumI l0)) (hBs : Bytes ((((l0.set (2 * i) x1).set (2 * i + 1) x2).set (2 * k) x3).set (2 * k + 1) x4)) :
    Calls Try.prog 8 #[.slice (some ⟨b, off, none⟩) len0 cap0, .int .i64 i, .int .i64 k] w fun e w' => e = .returned (.bool true) ∧ Below w.heap.size w w' := by
  have h2' : (((len0 : Int) % 2) != 0) = false := by simp; omega
  have HR : Hid (Row8 w (some ⟨b, off, none⟩) len0 l0) := hr
  have hs := sumI_bd hr.2.2.1
  have HZ : Hid (sumI (l0 ++ [sumI l0 / 256, sumI l0 % 256]) = 0) := sum_zero l0 hr.2.2.1 (by rw [hr.1]; exact h2)
  have hB2 : Bytes [sumI l0 / 256, sumI l0 % 256] := by unfold Bytes; simp; omega
  have hB : Bytes (l0 ++ [sumI l0 / 256, sumI l0 % 256]) := hr.2.2.1.append hB2
  have hq : ¬ (len0 : Int) / 2 ≤ i := by omega
  have hq2 : ¬ (len0 : Int) / 2 ≤ k := by omega
  have C1 : Hid (w.cell? ⟨b, off + 2 * k, none⟩ = some (.int .u8 x1)) := c1
  have C2 : Hid (w.cell? ⟨b, off + (2 * k + 1), none⟩ = some (.int .u8 x2)) := c2
  have C3 : Hid (w.cell? ⟨b, off + 2 * i, none⟩ = some (.int .u8 x3)) := c3
  have C4 : Hid (w.cell? ⟨b, off + (2 * i + 1), none⟩ = some (.int .u8 x4)) := c4
  have hbw := World.block_lt_of_cell? w _ c1
  obtain ⟨hs0, hs1⟩ := hs
  clear hr h2 c1 c2 c3 c4
  have B0 := below_ups w
  go_enter Try.func8, Try.ntmps8
  go_wp2_with (first
    | (go_at_call 12; refine (awake_any _).mono ?_; rintro e w' ⟨rfl, rfl⟩)
    | (at_builtin; refine wpList_app8 _ rfl (.const (.slice none 0 0)) (.tmp 21) 23 5 rfl w.heap.size Try.underlying23 info5 _ 0 [] rfl (own8_nil _ _ _) _ _ _ l0 rfl (HR.out.later B0) len0 (by omega) l0 rfl (by omega) B0.size ?_; intro ad1 c1 W1 own1 hb1; have B1 := B0.trans hb1; have R1 := HR.out.later B1)
    | (go_at_call 18; refine (put16_any _ _ hs0 hs1).mono ?_; rintro e w' ⟨rfl, rfl⟩)
    | (at_builtin; refine wpList_app8 _ rfl (.tmp 22) (.tmp 25) 23 5 rfl w.heap.size Try.underlying23 info5 _ _ _ rfl (own1.alloc _) _ _ _ _ rfl (row8_at _ _ rfl [sumI l0 / 256, sumI l0 % 256] 5 2 rfl hB2 (by simp)) (len0 + 2) rfl _ rfl (by omega) (by have := B1.size; simp; omega) ?_; intro ad2 c2 W2 own2 hb2; have B2 := (B1.trans ((below_alloc _ _).mono B1.size)).trans hb2; have R2 := own2.row hB (by omega))
    | (go_at_call_of 23 ad2; refine (sum_any _ _ _ _ _ R2).mono ?_; rintro e w' ⟨rfl, rfl⟩; rw [HZ.out])
    | (go_at_call_of 23 cap0; first | (refine (sum_any _ _ _ _ _ P4).mono ?_; rintro e w' ⟨rfl, rfl⟩) | (refine (sum_any _ _ _ _ _ R1).mono ?_; rintro e w' ⟨rfl, rfl⟩))
    | (at_builtin; refine wpList_app8 _ rfl (.const (.slice none 0 0)) (.tmp 51) 23 5 rfl _ Try.underlying23 info5 _ 0 [] rfl (own8_nil _ _ _) _ _ _ l0 rfl (HR.out.later B2) len0 (by omega) l0 rfl (by omega) (Nat.le_refl _) ?_; intro ad3 c3 W3 own3 hb3; go_must (obtain ⟨g, rfl, hg, wr0⟩ := own3.shown (by omega); have B3 := B2.trans (hb3.mono B2.size); have hbg : b < g := Nat.lt_of_lt_of_le hbw (Nat.le_trans B2.size hg); have q1 := cell_later B3 C1.out; have s1 := wr0.cell (2 * i) (by omega); have f1 := wr0.free; have wr1 := wr0.set (2 * i) (by omega) x1; have q2 := far8 (j := 2 * i) (v := .int .u8 x1) hbg (cell_later B3 C2.out); have s2 := wr1.cell (2 * i + 1) (by omega); have wr2 := wr1.set (2 * i + 1) (by omega) x2; have q3 := far8 (j := 2 * i + 1) (v := .int .u8 x2) hbg (far8 (j := 2 * i) (v := .int .u8 x1) hbg (cell_later B3 C3.out)); have s3 := wr2.cell (2 * k) (by omega); have wr3 := wr2.set (2 * k) (by omega) x3; have q4 := far8 (j := 2 * k) (v := .int .u8 x3) hbg (far8 (j := 2 * i + 1) (v := .int .u8 x2) hbg (far8 (j := 2 * i) (v := .int .u8 x1) hbg (cell_later B3 C4.out))); have s4 := wr3.cell (2 * k + 1) (by omega); have wr4 := wr3.set (2 * k + 1) (by omega) x4; have R4 := wr4.row hBs (by omega); have hgw : w.heap.size ≤ g := Nat.le_trans B2.size hg; have B4 := (((B3.setCell (p := ⟨g, 2 * i, none⟩) hgw (.int .u8 x1)).setCell (p := ⟨g, 2 * i + 1, none⟩) hgw (.int .u8 x2)).setCell (p := ⟨g, 2 * k, none⟩) hgw (.int .u8 x3)).setCell (p := ⟨g, 2 * k + 1, none⟩) hgw (.int .u8 x4); have P4 := HR.out.later B4))
    | (go_at_call_of 23 g; refine (sum_any _ _ _ _ _ R4).mono ?_; rintro e w' ⟨rfl, rfl⟩; rw [HS.out]))
  go_ret
  exact ⟨rfl, B4⟩

theorem zero_out (a0 : Option Addr) (len0 cap0 : Nat) (l0 : List Int) (i k : Int) (w : World) (hr : Row8 w a0 len0 l0) (h1 : len0 ≤ 3000) (h2 : len0 % 2 = 0)
    (h : i < 0 ∨ (0 ≤ i ∧ k < 0) ∨ (0 ≤ i ∧ 0 ≤ k ∧ (len0 : Int) / 2 ≤ i) ∨ (0 ≤ i ∧ 0 ≤ k ∧ i < (len0 : Int) / 2 ∧ (len0 : Int) / 2 ≤ k)) :
    Calls Try.prog 8 #[.slice a0 len0 cap0, .int .i64 i, .int .i64 k] w fun e w' => e = .returned (.bool true) ∧ Below w.heap.size w w' := by
  have h2' : (((len0 : Int) % 2) != 0) = false := by simp; omega
  have HR : Hid (Row8 w a0 len0 l0) := hr
  have hs := sumI_bd hr.2.2.1
  have HZ : Hid (sumI (l0 ++ [sumI l0 / 256, sumI l0 % 256]) = 0) := sum_zero l0 hr.2.2.1 (by rw [hr.1]; exact h2)
  have hB2 : Bytes [sumI l0 / 256, sumI l0 % 256] := by unfold Bytes; simp; omega
  have hB : Bytes (l0 ++ [sumI l0 / 256, sumI l0 % 256]) := hr.2.2.1.append hB2
  obtain ⟨hs0, hs1⟩ := hs
  clear hr h2
  have B0 := below_ups w
  rcases h with h3 | ⟨h3, h4⟩ | ⟨h3, h4, h5⟩ | ⟨h3, h4, h5, h6⟩
  all_goals
    go_enter Try.func8, Try.ntmps8
    go_wp2_with (first
      | (go_at_call 12; refine (awake_any _).mono ?_; rintro e w' ⟨rfl, rfl⟩)
      | (at_builtin; refine wpList_app8 _ rfl (.const (.slice none 0 0)) (.tmp 21) 23 5 rfl w.heap.size Try.underlying23 info5 _ 0 [] rfl (own8_nil _ _ _) _ _ _ l0 rfl (HR.out.later B0) len0 (by omega) l0 rfl (by omega) B0.size ?_; intro ad1 c1 W1 own1 hb1; have B1 := B0.trans hb1; have R1 := HR.out.later B1)
      | (go_at_call 18; refine (put16_any _ _ hs0 hs1).mono ?_; rintro e w' ⟨rfl, rfl⟩)
      | (at_builtin; refine wpList_app8 _ rfl (.tmp 22) (.tmp 25) 23 5 rfl w.heap.size Try.underlying23 info5 _ _ _ rfl (own1.alloc _) _ _ _ _ rfl (row8_at _ _ rfl [sumI l0 / 256, sumI l0 % 256] 5 2 rfl hB2 (by simp)) (len0 + 2) rfl _ rfl (by omega) (by have := B1.size; simp; omega) ?_; intro ad2 c2 W2 own2 hb2; have B2 := (B1.trans ((below_alloc _ _).mono B1.size)).trans hb2; have R2 := own2.row hB (by omega))
      | (go_at_call_of 23 ad2; refine (sum_any _ _ _ _ _ R2).mono ?_; rintro e w' ⟨rfl, rfl⟩; rw [HZ.out])
      | (go_at_call_of 23 cap0; refine (sum_any _ _ _ _ _ R1).mono ?_; rintro e w' ⟨rfl, rfl⟩))
    go_ret
    exact ⟨rfl, B2⟩
end Go.Proofs.Ytbbnlkcacpbfdaa
