/- The program's neighbour: the contracts of Cost, Miss, Ihu. -/
import Derived.Test.YtenkghcdhanciaaProN
import Derived.Lib.QuietBelow
import Derived.BigQuiet
import Derived.Deep.QuietTactic
namespace Go.Proofs.Ytenkghcdhanciaa
open Go.RowKit

section
variable {N : Nat} {s : Nh}
theorem MemN.later {w W : World} (h : MemN w N s) (hb : Below w.heap.size w W) : MemN W N s := ⟨h.1.later hb, h.2⟩
set_option maxHeartbeats 1000000 in
theorem pcost_any (w : World) (h : MemN w N s) : Calls Try.prog 22 #[.pointer (some ⟨N, 0, none⟩)] w fun e w' => e = .returned (.int .i64 (costN s)) ∧ Below w.heap.size w w' := by
  have hget : ∀ W, Below w.heap.size w W → Calls Try.prog 20 #[.pointer (some ⟨N, 0, none⟩)] W fun e w' => e = .returned (.int .i64 (rxN s)) ∧ Below W.heap.size W w' := fun W hb => prx_any W (h.later hb)
  have c3 := h.1.c3
  have k3 := cell_regrown c3
  obtain ⟨r, hr⟩ : ∃ r, rxN s = r := ⟨_, rfl⟩
  obtain ⟨t, ht⟩ : ∃ t, s.t = t := ⟨_, rfl⟩
  rw [ht] at c3 k3
  rw [hr] at hget
  clear h
  by_cases hc : r < t
  · have HC : Hid (costN s = t) := by unfold Hid costN; rw [hr, ht]; exact if_pos hc
    clear hr ht
    go_enter Try.func22, Try.ntmps22
    go_wp2
    refine wp_region_quiet_below (by kernel_rfl) (by kernel_rfl) ?_
    repeat (go_big_quiet_step ((go_at_call 20; exact Calls.regrown_of (hget _ ((below_regrown _ _ _).mono (by simp))))))
    refine wpQuiet_nil ?_
    intro _ hw'
    obtain ⟨⟨dq, osq⟩, hw''⟩ := hw'
    subst hw''
    go_wp2
    go_ret
    exact ⟨by rw [HC.out]; rfl, below_regrown _ _ _⟩
  · have HC : Hid (costN s = r) := by unfold Hid costN; rw [hr, ht]; exact if_neg hc
    clear hr ht
    go_enter Try.func22, Try.ntmps22
    go_wp2
    refine wp_region_quiet_below (by kernel_rfl) (by kernel_rfl) ?_
    repeat (go_big_quiet_step ((go_at_call 20; exact Calls.regrown_of (hget _ ((below_regrown _ _ _).mono (by simp))))))
    refine wpQuiet_nil ?_
    intro _ hw'
    obtain ⟨⟨dq, osq⟩, hw''⟩ := hw'
    subst hw''
    go_wp2
    go_ret
    exact ⟨by rw [HC.out]; rfl, below_regrown _ _ _⟩
theorem keepS {a w : World} {N : Nat} (h : Keep (fun k => k = N) a w) (o : Nat) (u : Value) : Keep (fun k => k = N) a (w.setCell ⟨N, o, none⟩ u) := h.setCell (B := fun k => k = N) (p := ⟨N, o, none⟩) rfl u
set_option maxHeartbeats 1000000 in
theorem pmiss_any (w : World) (h : MemN w N s) : Calls Try.prog 14 #[.pointer (some ⟨N, 0, none⟩)] w (DoneM w N (missN s)) := by
  have HM : Hid (MemN w N s) := h
  have c0 := h.1.c0
  have c1 := h.1.c1
  have c2 := h.1.c2
  have zf := h.1.f
  have h16 := numN16 h.2.l
  have HD : Hid (numN (inN false s.h) = numN s.h / 2) := numN_in0 h.2.l
  have hx0 := h.2.x0
  have hx1 := h.2.x1
  obtain ⟨l, y, x, t⟩ := s
  simp only at c0 c1 c2 h16 hx0 hx1 HD
  obtain ⟨n, hn⟩ : ∃ n, numN l = n := ⟨_, rfl⟩
  rw [hn] at c0 h16 HD
  have HN : Hid (numN l = n) := hn
  clear h hn
  cases y
  · go_enter Try.func14, Try.ntmps14
    go_wp2
    refine bodyPost_ret (v := .tuple #[]) (by simp [results, Try.results14, go_sem]) rfl ?_
    exact ⟨rfl, HM.out, Keep.refl _ _⟩
  · have z1 : ∀ u, (w.setCell ⟨N, 0, none⟩ u).cell? ⟨N, 1, none⟩ = some (.int .u16 x) := fun u => (World.cell?_setCell_other _ _ _ _ (by simp)).trans c1
    go_enter Try.func14, Try.ntmps14
    go_wp2
    refine bodyPost_ret (v := .tuple #[]) (by simp [results, Try.results14, go_sem]) rfl ?_
    have hR := ((HM.out.1.set0 (n / 2)).set1 ((x + 1) % 65536))
    have hG := goodN_miss HM.out.2
    refine ⟨rfl, ⟨?_, hG⟩, keepS (keepS (Keep.refl _ _) _ _) _ _⟩
    rw [u16_wrap, ← HD.out]
    rw [← HD.out] at hR
    exact hR
set_option maxHeartbeats 1000000 in
theorem pihu_any (c : Int) (w : World) (h : MemN w N s) : Calls Try.prog 16 #[.pointer (some ⟨N, 0, none⟩), .int .i64 c] w (DoneM w N (ihuN s c)) := by
  have HM : Hid (MemN w N s) := h
  have c3 := h.1.c3
  have zf := h.1.f
  obtain ⟨t, ht⟩ : ∃ t, s.t = t := ⟨_, rfl⟩
  rw [ht] at c3
  have hfin : ∀ v, toldN c = v → DoneM w N (ihuN s c) (.returned (.tuple #[])) (w.setCell ⟨N, 3, none⟩ (.int .i64 v)) := by
    rintro v rfl
    exact ⟨rfl, ⟨HM.out.1.set3 _, goodN_ihu HM.out.2 c⟩, keepS (Keep.refl _ _) _ _⟩
  have HF : Hid (_) := hfin
  clear h ht hfin
  by_cases hc : c < 0
  · have HT : Hid (toldN c = 0) := by unfold Hid toldN; rw [if_pos hc]
    go_enter Try.func16, Try.ntmps16
    go_wp2
    refine bodyPost_ret (v := .tuple #[]) (by simp [results, Try.results16, go_sem]) rfl ?_
    exact HF.out _ HT.out
  · by_cases hd : 65535 < c
    · have HT : Hid (toldN c = 65535) := by unfold Hid toldN; rw [if_neg hc, if_pos hd]
      have h3 : ¬ c < 0 := hc
      have h4 : ¬ c ≤ 0 := by omega
      have h5 : (0 : Int) < c := by omega
      have h6 : ¬ c < 65535 := by omega
      go_enter Try.func16, Try.ntmps16
      go_wp2
      all_goals
        refine bodyPost_ret (v := .tuple #[]) (by simp [results, Try.results16, go_sem]) rfl ?_
        exact HF.out _ HT.out
    · have HT : Hid (toldN c = c) := by unfold Hid toldN; rw [if_neg hc, if_neg hd]
      go_enter Try.func16, Try.ntmps16
      go_wp2
      all_goals
        refine bodyPost_ret (v := .tuple #[]) (by simp [results, Try.results16, go_sem]) rfl ?_
        exact HF.out _ (by rw [HT.out] <;> omega)
end
end Go.Proofs.Ytenkghcdhanciaa
