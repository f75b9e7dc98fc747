/- The program's neighbour in memory: four cells; the contracts of its plain functions. -/
import Derived.Test.YtenkghcdhanciaaMatH
import Derived.Test.YtenkghcdhanciaaLawA
import Derived.Laws.BitsAllLaws
namespace Go.Proofs.Ytenkghcdhanciaa
open Go.RowKit

theorem ret_boolN {a b : Bool} (h : a = b) : Ending.returned (.bool a) = .returned (.bool b) := by rw [h]
def newerB (a b : Int) : Bool := decide (0 < (a - b) % 65536 ∧ (a - b) % 65536 < 32768)
theorem newer_any (a b : Int) (w : World) :
    Calls Try.prog 25 #[.int .u16 a, .int .u16 b] w fun e w' => e = .returned (.bool (newerB a b)) ∧ w' = w := by
  go_enter Try.func25, Try.ntmps25
  go_wp2
  all_goals
    go_ret
    refine ⟨ret_boolN ?_, rfl⟩
    simp only [newerB, IntKind.wrap_u16] at *
    rw [Bool.eq_iff_iff]
    simp; try omega
def nearB (a b : Int) : Bool := decide ((a - b) % 65536 ≤ 16 ∨ (b - a) % 65536 ≤ 16)
theorem near_any (a b : Int) (w : World) :
    Calls Try.prog 24 #[.int .u16 a, .int .u16 b] w fun e w' => e = .returned (.bool (nearB a b)) ∧ w' = w := by
  go_enter Try.func24, Try.ntmps24
  go_wp2
  all_goals
    go_ret
    refine ⟨ret_boolN ?_, rfl⟩
    simp only [nearB, IntKind.wrap_u16] at *
    rw [Bool.eq_iff_iff]
    simp; try omega
/-- How many ones. -/
def onesN (q : Int) : Int := if q = 0 then 0 else if q = 1 ∨ q = 2 ∨ q = 4 then 1 else if q = 7 then 3 else 2
set_option maxRecDepth 100000 in
set_option maxHeartbeats 1000000 in
theorem ones_any (q : Int) (h0 : 0 ≤ q) (h1 : q < 8) (w : World) :
    Calls Try.prog 27 #[.int .u16 q] w fun e w' => e = .returned (.int .i64 (onesN q)) ∧ Below w.heap.size w w' := by
  have hq : q = 0 ∨ q = 1 ∨ q = 2 ∨ q = 3 ∨ q = 4 ∨ q = 5 ∨ q = 6 ∨ q = 7 := by omega
  clear h0 h1
  have ea : bits .and .u16 q 255 = q := by rcases hq with rfl | rfl | rfl | rfl | rfl | rfl | rfl | rfl <;> decide
  rcases hq with rfl | rfl | rfl | rfl | rfl | rfl | rfl | rfl
  all_goals
    go_enter Try.func27, Try.ntmps27
    go_wp2_with fail
    go_quiet (fail)
    go_wp2
    go_ret
    exact ⟨rfl, below_drewN (Below.refl _ _) _⟩
/-- The program's neighbour in block N: its four cells. -/
structure RawN (W : World) (N : Nat) (h x : Int) (y : Bool) (t : Int) : Prop where
  c0 : W.cell? ⟨N, 0, none⟩ = some (.int .u16 h)
  c1 : W.cell? ⟨N, 1, none⟩ = some (.int .u16 x)
  c2 : W.cell? ⟨N, 2, none⟩ = some (.bool y)
  c3 : W.cell? ⟨N, 3, none⟩ = some (.int .i64 t)
  f : ∀ o, W.frozen? ⟨N, o, none⟩ = false
section
variable {w W W' : World} {N : Nat} {h x h' x' t t' : Int} {y y' : Bool}
theorem RawN.lt (r : RawN W N h x y t) : N < W.heap.size := block_lt_of_cell r.c0
theorem RawN.keep (r : RawN W N h x y t) {C : Nat → Prop} (hk : Keep C W W') (hN : ¬ C N) : RawN W' N h x y t := by
  have hc := fun o => hk.cell (p := ⟨N, o, none⟩) r.lt hN
  exact ⟨(hc _).trans r.c0, (hc _).trans r.c1, (hc _).trans r.c2, (hc _).trans r.c3, fun o => (hk.frozen (p := ⟨N, o, none⟩) r.lt hN).trans (r.f o)⟩
theorem RawN.later (r : RawN W N h x y t) (hb : Below W.heap.size W W') : RawN W' N h x y t := r.keep (C := fun _ => False) (keep_of hb) id
theorem RawN.set0 (r : RawN W N h x y t) (h' : Int) : RawN (W.setCell ⟨N, 0, none⟩ (.int .u16 h')) N h' x y t :=
  ⟨World.cell?_setCell_same _ _ _ r.c0, (World.cell?_setCell_other _ _ _ _ (by simp)).trans r.c1, (World.cell?_setCell_other _ _ _ _ (by simp)).trans r.c2, (World.cell?_setCell_other _ _ _ _ (by simp)).trans r.c3, fun o => by rw [World.frozen?_setCell]; exact r.f o⟩
theorem RawN.set1 (r : RawN W N h x y t) (x' : Int) : RawN (W.setCell ⟨N, 1, none⟩ (.int .u16 x')) N h x' y t :=
  ⟨(World.cell?_setCell_other _ _ _ _ (by simp)).trans r.c0, World.cell?_setCell_same _ _ _ r.c1, (World.cell?_setCell_other _ _ _ _ (by simp)).trans r.c2, (World.cell?_setCell_other _ _ _ _ (by simp)).trans r.c3, fun o => by rw [World.frozen?_setCell]; exact r.f o⟩
theorem RawN.set2 (r : RawN W N h x y t) (y' : Bool) : RawN (W.setCell ⟨N, 2, none⟩ (.bool y')) N h x y' t :=
  ⟨(World.cell?_setCell_other _ _ _ _ (by simp)).trans r.c0, (World.cell?_setCell_other _ _ _ _ (by simp)).trans r.c1, World.cell?_setCell_same _ _ _ r.c2, (World.cell?_setCell_other _ _ _ _ (by simp)).trans r.c3, fun o => by rw [World.frozen?_setCell]; exact r.f o⟩
theorem RawN.set3 (r : RawN W N h x y t) (t' : Int) : RawN (W.setCell ⟨N, 3, none⟩ (.int .i64 t')) N h x y t' :=
  ⟨(World.cell?_setCell_other _ _ _ _ (by simp)).trans r.c0, (World.cell?_setCell_other _ _ _ _ (by simp)).trans r.c1, (World.cell?_setCell_other _ _ _ _ (by simp)).trans r.c2, World.cell?_setCell_same _ _ _ r.c3, fun o => by rw [World.frozen?_setCell]; exact r.f o⟩
theorem RawN.drew (r : RawN W N h x y t) : RawN W.drew N h x y t := ⟨r.c0, r.c1, r.c2, r.c3, r.f⟩
/-- The program's neighbour in block N is s. -/
def MemN (W : World) (N : Nat) (s : Nh) : Prop := RawN W N (numN s.h) s.x s.y s.t ∧ GoodN s
/-- At p, with its block. -/
def TM (W : World) (B : Nat → Prop) (p : Addr) (s : Nh) : Prop := ∃ N, p = ⟨N, 0, none⟩ ∧ (∀ k, B k ↔ k = N) ∧ MemN W N s
/-- What a call leaves. -/
def DoneM (w : World) (N : Nat) (s : Nh) (e : Ending) (w' : World) : Prop := e = .returned (.tuple #[]) ∧ MemN w' N s ∧ Keep (fun k => k = N) w w'
end
theorem pnew_any (w : World) : Calls Try.prog 10 #[] w fun e w' => ∃ p B, e = .returned (.pointer (some p)) ∧ TM w' B p newN ∧ (∀ k, B k → w.heap.size ≤ k) ∧ Below w.heap.size w w' := by
  go_enter Try.func10, Try.ntmps10
  go_wp2
  go_ret
  refine ⟨_, fun k => k = w.heap.size, rfl, ⟨w.heap.size, rfl, fun k => Iff.rfl, ⟨?_, ?_, ?_, ?_, fun o => ?_⟩, goodN_new⟩, fun k hk => by omega, below1 _ _⟩
  all_goals simp [go_sem, newN, zeroN, numN, bitN]
section
variable {N : Nat} {s : Nh}
theorem phist_any (w : World) (h : MemN w N s) : Calls Try.prog 18 #[.pointer (some ⟨N, 0, none⟩)] w fun e w' => e = .returned (.int .u16 (numN s.h)) ∧ Below w.heap.size w w' := by
  have c0 := h.1.c0
  clear h
  go_enter Try.func18, Try.ntmps18
  go_wp2
  go_ret
  exact ⟨rfl, Below.refl _ _⟩
theorem prx_any (w : World) (h : MemN w N s) : Calls Try.prog 20 #[.pointer (some ⟨N, 0, none⟩)] w fun e w' => e = .returned (.int .i64 (rxN s)) ∧ Below w.heap.size w w' := by
  have c0 := h.1.c0
  obtain ⟨q, hq, q0, q1, hqt⟩ := top3 h.2.l
  have h16 := numN16 h.2.l
  obtain ⟨n, hn⟩ : ∃ n, numN s.h = n := ⟨_, rfl⟩
  rw [hn] at c0 hq h16
  have HQ : Hid (0 ≤ q ∧ q < 8) := ⟨q0, q1⟩
  have HT : Hid (firstN s.h < 2 ↔ q = 0 ∨ q = 1 ∨ q = 2 ∨ q = 4) := hqt
  clear h hqt q0 q1 hn
  by_cases hlt : q = 0 ∨ q = 1 ∨ q = 2 ∨ q = 4
  · have HX : Hid (rxN s = 65535) := by unfold Hid rxN; rw [if_pos (HT.out.2 hlt)]
    have HO : Hid (onesN q < 2) := by unfold Hid onesN; rcases hlt with rfl | rfl | rfl | rfl <;> decide
    clear hlt
    go_enter Try.func20, Try.ntmps20
    go_wp2_with (go_at_call 27; refine (ones_any q HQ.out.1 HQ.out.2 _).mono ?_; rintro e W1 ⟨rfl, hb1⟩; have ho := HO.out)
    go_ret
    exact ⟨by rw [HX.out]; rfl, hb1⟩
  · have HX : Hid (rxN s = 96) := by unfold Hid rxN; rw [if_neg (fun e => hlt (HT.out.1 e))]
    have HO : Hid (¬ onesN q < 2) := by
      unfold Hid onesN
      have := HQ.out
      rcases (by omega : q = 3 ∨ q = 5 ∨ q = 6 ∨ q = 7) with rfl | rfl | rfl | rfl <;> decide
    clear hlt
    go_enter Try.func20, Try.ntmps20
    go_wp2_with (go_at_call 27; refine (ones_any q HQ.out.1 HQ.out.2 _).mono ?_; rintro e W1 ⟨rfl, hb1⟩; have ho := HO.out)
    go_ret
    exact ⟨by rw [HX.out]; rfl, hb1⟩
end
end Go.Proofs.Ytenkghcdhanciaa
