/- Contracts of putTag and the document's Squeeze. -/
import Derived.Test.YtakikkigkmcffaaCon4
namespace Go.Proofs.Ytakikkigkmcffaa
open Go.RowKit

/-- A slice value that reads some bytes. -/
def Is8 (W : World) (v : Value) (L : List Int) : Prop := ∃ ad c, v = .slice ad L.length c ∧ Row8 W ad L.length L
theorem Is8.later {W W' : World} {v : Value} {L : List Int} (h : Is8 W v L) (hb : Below W.heap.size W W') : Is8 W' v L := by
  obtain ⟨ad, c, e, r⟩ := h; exact ⟨ad, c, e, r.later hb⟩
theorem is8 {W : World} {ad : Option Addr} {m c : Nat} {L : List Int} (hr : Row8 W ad m L) : Is8 W (.slice ad m c) L := by obtain rfl := hr.1; exact ⟨ad, c, rfl, hr⟩
def RowsOf (W : World) : List Value → List (List Int) → Prop
  | [], [] => True
  | v :: vs, L :: Ls => Is8 W v L ∧ RowsOf W vs Ls
  | _, _ => False
theorem RowsOf.at {W : World} : ∀ {vs : List Value} {Ls : List (List Int)}, RowsOf W vs Ls → ∀ (i : Nat) (L : List Int), Ls[i]? = some L → ∃ v, vs[i]? = some v ∧ Is8 W v L
  | [], [], _, i, L, hi => by simp at hi
  | v :: vs, L :: Ls, h, 0, M, hi => by simp at hi; subst hi; exact ⟨v, rfl, h.1⟩
  | v :: vs, L :: Ls, h, i + 1, M, hi => by simpa using RowsOf.at h.2 i M (by simpa using hi)
theorem rowL_new (W : World) (k : Nat) (hk : k = W.heap.size) (T : TypeId) (vs : List Value) (Ls : List (List Int)) (n : Nat) (hn : Ls.length = n) (h : RowsOf W vs Ls) : RowL (W.alloc (.cells vs.toArray T)) (some ⟨k, 0, none⟩) n Ls := by
  subst hk
  refine ⟨hn, fun i L hi => ?_⟩
  obtain ⟨v, hv, ad, c, rfl, hr⟩ := h.at i L hi
  refine ⟨_, 0, ad, c, rfl, ?_, hr.later (below1 _ _)⟩
  rw [World.cell?_alloc_new]
  simpa using hv
set_option maxHeartbeats 400000 in
theorem putTag_any (t : Int) (w : World) (h0 : 0 ≤ t) (h1 : t ≤ 65535) : Calls Try.prog 57 #[.int .u16 t] w (New8 w (tagB t).length (tagB t)) := by
  by_cases hz : t = 0
  · subst hz
    go_enter Try.func57, Try.ntmps57
    go_wp2
    go_ret
    exact ⟨none, 0, rfl, own8_nil _ _ _, Below.refl _ _⟩
  · have HL : Hid (tagB t = tlvB 200 (b2 t)) := by unfold Hid tagB tlvB; rw [if_neg hz]; rfl
    have hz' : (t == 0) = false := by simpa using hz
    clear hz
    go_enter Try.func57, Try.ntmps57
    go_wp2_with (first
      | (go_at_call 42; refine (put16_any _ _ h0 h1).mono ?_; rintro e w' ⟨rfl, rfl⟩)
      | (go_at_call 40; refine (tlv_any _ _ _ _ [b2 t] 2 (b2 t) _ (rowL_new (w.alloc (ob2 t)) _ (by first | rfl | simp) 25 [_] [b2 t] 1 rfl ⟨is8 (row_b2 w h0 h1 w.heap.size rfl), trivial⟩) (by omega) (by simp) rfl (by omega)).mono ?_; rintro e w' ⟨ad, c, rfl, own, hb⟩))
    go_ret
    rw [HL.out]
    exact ⟨ad, c, rfl, own.base (by simp; omega), Below.out2 hb⟩

theorem cm_0 (x y : Int) : 0 < cm x y ↔ x / 16777216 = y / 16777216 := by
  unfold cm; constructor
  · intro h; (repeat' split at h) <;> omega
  · intro h; (repeat' split) <;> omega
theorem cm_1 {x y : Int} (hk : 1 ≤ cm x y) : 1 < cm x y ↔ x / 65536 % 256 = y / 65536 % 256 := by
  unfold cm at hk ⊢; constructor
  · intro h; (repeat' split at h) <;> omega
  · intro h; (repeat' split at hk) <;> (repeat' split) <;> omega
theorem cm_2 {x y : Int} (hk : 2 ≤ cm x y) : 2 < cm x y ↔ x / 256 % 256 = y / 256 % 256 := by
  unfold cm at hk ⊢; constructor
  · intro h; (repeat' split at h) <;> omega
  · intro h; (repeat' split at hk) <;> (repeat' split) <;> omega
theorem cm_3 {x y : Int} (hk : 3 ≤ cm x y) : 3 < cm x y ↔ x % 256 = y % 256 := by
  unfold cm at hk ⊢; constructor
  · intro h; (repeat' split at h) <;> omega
  · intro h; (repeat' split at hk) <;> (repeat' split) <;> omega
theorem sq_next {x y : Int} {h k : Nat} (hk : k < sq x y h) : k < h ∧ k < cm x y := by unfold sq at hk; omega
theorem sq_stop {x y : Int} {h k : Nat} (hk : k = sq x y h) : k < h → ¬ k < cm x y := by unfold sq at hk; omega
set_option maxHeartbeats 1000000 in
theorem refSqueeze_in (x y : Int) (h : Nat) (w : World) (hx0 : 0 ≤ x) (hx1 : x < 4294967296) (hy0 : 0 ≤ y) (hy1 : y < 4294967296) (hh : h ≤ 4) :
    Calls Try.prog 15 #[.int .u32 x, .int .u32 y, .int .i64 h] w fun e w' => e = .returned (.int .i64 (sq x y h)) ∧ Below w.heap.size w w' := by
  have HS : Hid (sq x y h ≤ 4 ∧ sq x y h ≤ h) := ⟨sq_le4 _ _ _, sq_le _ _ _⟩
  have HSc : Hid (sq x y h ≤ cm x y) := by unfold Hid sq; omega
  go_enter Try.func15, Try.ntmps15
  go_wp2_with (go_at_call 29; refine (refAddr_any _ 4 _ (by omega) (by omega) (by omega)).mono ?_; rintro e w' ⟨rfl, rfl⟩)
  go_loopw [9] (fun n W => ∃ k d : Nat, k ≤ sq x y h ∧ n = .int .i64 k ∧ W = ((w.alloc (ob4 x)).alloc (ob4 y)).drewN d) (fun n _ => 4 - (intOf n).toNat)
  case atStart => exact ⟨0, 0, Nat.zero_le _, rfl, rfl⟩
  case round =>
    obtain ⟨k, d, hk, rfl, rfl⟩ := hrel
    by_cases hlt : k < sq x y h
    · obtain ⟨k1, k2⟩ := sq_next hlt
      have hk4 : k = 0 ∨ k = 1 ∨ k = 2 ∨ k = 3 := by omega
      have k1' : (k : Int) < (h : Int) := by omega
      rcases hk4 with rfl | rfl | rfl | rfl
      · have e := (cm_0 x y).1 k2
        go_wp2
        go_quiet (fail)
        go_wp2
        go_roundw
        case rel => exact ⟨1, _, by omega, rfl, rfl⟩
        case measure => simp [intOf]
      · have e := (cm_1 (x := x) (y := y) (by omega)).1 k2
        have k3 : decide ((1 : Int) < (h : Int)) = true := by rw [decide_eq_true_eq]; omega
        go_wp2
        go_quiet (fail)
        go_wp2
        go_roundw
        case rel => exact ⟨2, _, by omega, rfl, rfl⟩
        case measure => simp [intOf]
      · have e := (cm_2 (x := x) (y := y) (by omega)).1 k2
        have k3 : decide ((2 : Int) < (h : Int)) = true := by rw [decide_eq_true_eq]; omega
        go_wp2
        go_quiet (fail)
        go_wp2
        go_roundw
        case rel => exact ⟨3, _, by omega, rfl, rfl⟩
        case measure => simp [intOf]
      · have e := (cm_3 (x := x) (y := y) (by omega)).1 k2
        have k3 : decide ((3 : Int) < (h : Int)) = true := by rw [decide_eq_true_eq]; omega
        go_wp2
        go_quiet (fail)
        go_wp2
        go_roundw
        case rel => exact ⟨4, _, by omega, rfl, rfl⟩
        case measure => simp [intOf]
    · have hks : k = sq x y h := by omega
      have HR : Hid ((sq x y h : Int) = (k : Int)) := by unfold Hid; omega
      by_cases hkh : k < h
      · have hn := sq_stop hks hkh
        have hk1 := HSc.out
        have k1' : (k : Int) < (h : Int) := by omega
        have hk4 : k = 0 ∨ k = 1 ∨ k = 2 ∨ k = 3 := by omega
        rcases hk4 with rfl | rfl | rfl | rfl
        · have e := beq_eq_false_iff_ne.2 (fun q => hn ((cm_0 x y).2 q))
          clear hks hn hk1 hlt
          go_wp2
          go_quiet (fail)
          go_wp2
          go_ret
          exact ⟨ret_int HR.out.symm, below_drewN (below_drewN (below2 _ _ _) _) _⟩
        · have e := beq_eq_false_iff_ne.2 (fun q => hn ((cm_1 (x := x) (y := y) (by omega)).2 q))
          have k3 : decide ((1 : Int) < (h : Int)) = true := by rw [decide_eq_true_eq]; omega
          clear hks hn hk1 hlt
          go_wp2
          go_quiet (fail)
          go_wp2
          go_ret
          exact ⟨ret_int HR.out.symm, below_drewN (below_drewN (below2 _ _ _) _) _⟩
        · have e := beq_eq_false_iff_ne.2 (fun q => hn ((cm_2 (x := x) (y := y) (by omega)).2 q))
          have k3 : decide ((2 : Int) < (h : Int)) = true := by rw [decide_eq_true_eq]; omega
          clear hks hn hk1 hlt
          go_wp2
          go_quiet (fail)
          go_wp2
          go_ret
          exact ⟨ret_int HR.out.symm, below_drewN (below_drewN (below2 _ _ _) _) _⟩
        · have e := beq_eq_false_iff_ne.2 (fun q => hn ((cm_3 (x := x) (y := y) (by omega)).2 q))
          have k3 : decide ((3 : Int) < (h : Int)) = true := by rw [decide_eq_true_eq]; omega
          clear hks hn hk1 hlt
          go_wp2
          go_quiet (fail)
          go_wp2
          go_ret
          exact ⟨ret_int HR.out.symm, below_drewN (below_drewN (below2 _ _ _) _) _⟩
      · have k1' : decide ((k : Int) < (h : Int)) = false := by rw [decide_eq_false_iff_not]; omega
        clear hks hlt
        go_wp2
        go_quiet (fail)
        go_wp2
        go_ret
        exact ⟨ret_int HR.out.symm, below_drewN (below_drewN (below2 _ _ _) _) _⟩
theorem refSqueeze_any (x y h : Int) (w : World) (hx0 : 0 ≤ x) (hx1 : x < 4294967296) (hy0 : 0 ≤ y) (hy1 : y < 4294967296) {v : Int} (hv : sqI x y h = v) :
    Calls Try.prog 15 #[.int .u32 x, .int .u32 y, .int .i64 h] w fun e w' => e = .returned (.int .i64 v) ∧ Below w.heap.size w w' := by
  subst hv
  by_cases ha : h < 0
  · have HV : Hid (sqI x y h = 0) := by unfold Hid sqI; rw [if_pos (.inl ha)]
    go_enter Try.func15, Try.ntmps15
    go_wp2
    go_ret
    exact ⟨ret_int HV.out.symm, Below.refl _ _⟩
  by_cases hb : 4 < h
  · have HV : Hid (sqI x y h = 0) := by unfold Hid sqI; rw [if_pos (.inr hb)]
    go_enter Try.func15, Try.ntmps15
    go_wp2
    go_ret
    exact ⟨ret_int HV.out.symm, Below.refl _ _⟩
  · obtain ⟨n, rfl⟩ := Int.eq_ofNat_of_zero_le (Int.not_lt.1 ha)
    have e : sqI x y (n : Int) = (sq x y n : Int) := by unfold sqI; rw [if_neg (by omega)]; simp
    rw [e]
    exact refSqueeze_in x y n w hx0 hx1 hy0 hy1 (by omega)
end Go.Proofs.Ytakikkigkmcffaa
