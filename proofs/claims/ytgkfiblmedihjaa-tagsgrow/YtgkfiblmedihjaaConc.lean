/- Contracts of Of and of the document's own. -/
import Derived.Test.YtgkfiblmedihjaaConb
import Derived.Test.YtgkfiblmedihjaaMatb
namespace Go.Proofs.Ytgkfiblmedihjaa
open Go.RowKit

set_option maxHeartbeats 1000000 in
theorem of_any (a : Option Addr) (len cap : Nat) (l : List Int) (w : World) (h : RowZ w a len l) {x y : Nat} (hx : (ofS l).1 = x) (hy : (ofS l).2 = y) :
    Calls Try.prog 22 #[.slice a len cap] w fun e w' => e = .returned (.tuple #[.int .u16 (x : Int), .int .i64 (y : Int)]) ∧ w' = w := by
  obtain ⟨hl, hm, hc⟩ := h
  have HX : Hid ((ofS l).1 = x) := hx
  have HY : Hid ((ofS l).2 = y) := hy
  have HL : Hid (l.length = len) := hl
  clear hx hy hl
  go_enter Try.func22, Try.ntmps22
  go_wp2
  go_loop [4, 11] (fun t i => ∃ k s : Nat, k ≤ len ∧ s < 65536 ∧ i = .int .i64 k ∧ t = .int .u16 s ∧ Hid ((ofS (l.take k)).1 = s ∧ (ofS (l.take k)).2 = 0)) (fun _ i => len - (intOf i).toNat)
  case atStart => exact ⟨0, 0, by omega, by omega, rfl, rfl, by simp [Hid, ofS_nil]⟩
  case round =>
    obtain ⟨k, s, hk, hs, rfl, rfl, hq⟩ := hrel
    by_cases hlt : k < len
    · obtain ⟨b, off, rfl, hcell⟩ := hc k hlt
      have hstep := ofS_take (l := l) (k := k) (by rw [HL.out]; exact hlt) hq.out.2
      rw [hq.out.1] at hstep
      by_cases he : addE s (l[k]?.getD 0) = 0
      · have HE : Hid ((ofS (l.take (k + 1))).1 = addT s (l[k]?.getD 0) ∧ (ofS (l.take (k + 1))).2 = 0) := by unfold Hid; rw [hstep]; exact ⟨rfl, he⟩
        have hs2 := addT_lt hs (l[k]?.getD 0)
        clear hc hq hstep
        generalize l[k]?.getD 0 = d at hcell he HE hs2
        generalize ht : addT s d = t2 at HE hs2
        go_wp2_with (go_at_call 20; refine (add_any s d _ hs ht he).mono ?_; rintro e w' ⟨rfl, rfl⟩)
        go_round
        case rel => exact ⟨k + 1, t2, by omega, hs2, by go_num, rfl, HE⟩
        case measure => simp [intOf]; omega
      · have ht := addT_err he
        have HE : Hid (x = 0 ∧ y = addE s (l[k]?.getD 0)) := by
          have h2 := ofS_err (l := l) (k := k + 1) (by rw [hstep]; exact he)
          unfold Hid
          rw [← HX.out, ← HY.out, h2, hstep]
          exact ⟨ht, rfl⟩
        clear hc hq hstep
        generalize l[k]?.getD 0 = d at hcell he HE ht
        generalize hee : addE s d = e2 at HE he
        have hne : ((e2 : Int) != 0) = true := by rw [bne_iff_ne]; omega
        go_wp2_with (go_at_call 20; refine (add_any s d _ hs ht hee).mono ?_; rintro e w' ⟨rfl, rfl⟩)
        go_ret2
        exact ⟨by rw [HE.out.1, HE.out.2]; rfl, rfl⟩
    · obtain rfl : k = len := by omega
      have HE : Hid (x = s ∧ y = 0) := by
        have h2 := hq.out
        rw [List.take_of_length_le (by rw [HL.out]; exact Nat.le_refl _)] at h2
        exact ⟨HX.out.symm.trans h2.1, HY.out.symm.trans h2.2⟩
      clear hc hq
      go_wp2
      go_ret2
      exact ⟨by rw [HE.out.1, HE.out.2]; rfl, rfl⟩

set_option maxHeartbeats 1000000 in
theorem refOf_any (a : Option Addr) (len cap : Nat) (l : List Int) (w : World) (h : RowZ w a len l) {x y : Nat} (hx : (ofS l).1 = x) (hy : (ofS l).2 = y) :
    Calls Try.prog 23 #[.slice a len cap] w fun e w' => e = .returned (.tuple #[.int .u16 (x : Int), .int .i64 (y : Int)]) ∧ w' = w := by
  obtain ⟨hl, hm, hc⟩ := h
  have HX : Hid ((ofS l).1 = x) := hx
  have HY : Hid ((ofS l).2 = y) := hy
  have HL : Hid (l.length = len) := hl
  clear hx hy hl
  go_enter Try.func23, Try.ntmps23
  go_wp2
  go_loop [4, 5] (fun t i => ∃ k s : Nat, k ≤ len ∧ s < 65536 ∧ i = .int .i64 k ∧ t = .int .u16 s ∧ Hid ((ofS (l.take k)).1 = s ∧ (ofS (l.take k)).2 = 0)) (fun _ i => len - (intOf i).toNat)
  case atStart => exact ⟨0, 0, by omega, by omega, rfl, rfl, by simp [Hid, ofS_nil]⟩
  case round =>
    obtain ⟨k, s, hk, hs, rfl, rfl, hq⟩ := hrel
    by_cases hlt : k < len
    · obtain ⟨b, off, rfl, hcell⟩ := hc k hlt
      have hstep := ofS_take (l := l) (k := k) (by rw [HL.out]; exact hlt) hq.out.2
      rw [hq.out.1] at hstep
      by_cases he : addE s (l[k]?.getD 0) = 0
      · have HE : Hid ((ofS (l.take (k + 1))).1 = addT s (l[k]?.getD 0) ∧ (ofS (l.take (k + 1))).2 = 0) := by unfold Hid; rw [hstep]; exact ⟨rfl, he⟩
        have hs2 := addT_lt hs (l[k]?.getD 0)
        clear hc hq hstep
        generalize l[k]?.getD 0 = d at hcell he HE hs2
        generalize ht : addT s d = t2 at HE hs2
        go_wp2_with (go_at_call 21; refine (refAdd_any s d _ hs ht he).mono ?_; rintro e w' ⟨rfl, rfl⟩)
        go_round
        case rel => exact ⟨k + 1, t2, by omega, hs2, by go_num, rfl, HE⟩
        case measure => simp [intOf]; omega
      · have ht := addT_err he
        have HE : Hid (x = 0 ∧ y = addE s (l[k]?.getD 0)) := by
          have h2 := ofS_err (l := l) (k := k + 1) (by rw [hstep]; exact he)
          unfold Hid
          rw [← HX.out, ← HY.out, h2, hstep]
          exact ⟨ht, rfl⟩
        clear hc hq hstep
        generalize l[k]?.getD 0 = d at hcell he HE ht
        generalize hee : addE s d = e2 at HE he
        have hne : ((e2 : Int) != 0) = true := by rw [bne_iff_ne]; omega
        go_wp2_with (go_at_call 21; refine (refAdd_any s d _ hs ht hee).mono ?_; rintro e w' ⟨rfl, rfl⟩)
        go_ret2
        exact ⟨by rw [HE.out.1, HE.out.2]; rfl, rfl⟩
    · obtain rfl : k = len := by omega
      have HE : Hid (x = s ∧ y = 0) := by
        have h2 := hq.out
        rw [List.take_of_length_le (by rw [HL.out]; exact Nat.le_refl _)] at h2
        exact ⟨HX.out.symm.trans h2.1, HY.out.symm.trans h2.2⟩
      clear hc hq
      go_wp2
      go_ret2
      exact ⟨by rw [HE.out.1, HE.out.2]; rfl, rfl⟩

def ups (w : World) : World := w.alloc (.cells #[.int .i64 3, .int .i64 1] 3)
theorem below_ups (w : World) : Below w.heap.size w (ups w) := (Below.refl _ _).alloc (Nat.le_refl _) _
theorem grown_ups (w : World) : Grown w (ups w) := (Grown.refl _).alloc _ _
theorem size_ups (w : World) : (ups w).heap.size = w.heap.size + 1 := by simp [ups]

theorem awake_any (w : World) :
    Calls Try.prog 10 #[] w fun e w' => e = .returned (.bool true) ∧ w' = ups w := by
  have HD : Hid (∀ W, Calls Try.prog 16 #[.int .u16 10] W fun e w' => e = .returned (.int .i64 2) ∧ w' = W) := fun W => by
    have h := depth_any 10 W (by omega)
    rw [show dep 10 = 2 from by decide] at h
    exact h
  have HA : Hid (∀ W, Calls Try.prog 20 #[.int .u16 10, .int .i64 3] W fun e w' => e = .returned (.tuple #[.int .u16 0, .int .i64 6]) ∧ w' = W) := fun W => add_any 10 3 W (by omega) (x := 0) (y := 6) (by decide) (by decide)
  have HO : Hid (∀ W, RowZ W (some ⟨w.heap.size, 0, none⟩) 2 [3, 1] → Calls Try.prog 22 #[.slice (some ⟨w.heap.size, 0, none⟩) 2 2] W fun e w' => e = .returned (.tuple #[.int .u16 10, .int .i64 0]) ∧ w' = W) := fun W hW => of_any _ 2 2 [3, 1] W hW (x := 10) (y := 0) (by decide) (by decide)
  go_enter Try.func10, Try.ntmps10
  go_wp2_with (first
    | (go_at_call 22; refine (HO.out _ (rowZ_new w [3, 1] 3 (by decide))).mono ?_; rintro e w' ⟨rfl, rfl⟩)
    | (go_at_call 20; refine (HA.out _).mono ?_; rintro e w' ⟨rfl, rfl⟩)
    | (go_at_call 16; refine (HD.out _).mono ?_; rintro e w' ⟨rfl, rfl⟩))
  go_ret
  exact ⟨rfl, rfl⟩
end Go.Proofs.Ytgkfiblmedihjaa
