/- The walk of the law PrefixOrders. -/
import Derived.Test.YtapoajplmejjcaaDoorConi
namespace Go.Proofs.YtapoajplmejjcaaDoor
open Go.RowKit

theorem less_self (a l : Int) : lessB a l a l = false := by simp [lessB]
theorem covers_has {a l b m : Int} (h : coversB a l b m = true) : mayB a l = true ∧ mayB b m = true ∧ l ≤ m ∧ andM b l.toNat = a := by
  simp only [coversB, hasB, Bool.and_eq_true, decide_eq_true_eq, beq_iff_eq] at h
  exact ⟨h.2.1, h.1.1, h.1.2, h.2.2⟩
theorem less_one {a l b m : Int} (hb0 : 0 ≤ b) (h : ¬ (a = b ∧ l = m)) :
    (lessB a l b m = true ∧ lessB b m a l = false) ∨ (lessB a l b m = false ∧ lessB b m a l = true ∧ coversB a l b m = false) := by
  by_cases hc : coversB a l b m = true
  · obtain ⟨_, _, h1, h2⟩ := covers_has hc
    have h3 := andM_bd b l.toNat hb0
    left
    simp only [lessB, decide_eq_true_eq, decide_eq_false_iff_not]
    omega
  · have hc' : coversB a l b m = false := by simpa using hc
    rw [hc']
    simp only [lessB, decide_eq_true_eq, decide_eq_false_iff_not, and_true]
    omega

set_option maxHeartbeats 1000000 in
theorem orders_ne (a l b m : Int) (w : World) (ha0 : 0 ≤ a) (ha1 : a < 4294967296) (hb0 : 0 ≤ b) (hb1 : b < 4294967296) (hne : ¬ a = b ∨ (a = b ∧ ¬ l = m)) (v1 v2 v3 : Bool)
    (f1 : lessB a l b m = v1) (f2 : lessB b m a l = v2) (f3 : coversB a l b m = v3) (hv : (v1 = true ∧ v2 = false) ∨ (v1 = false ∧ v2 = true ∧ v3 = false)) :
    Calls Tryd.prog 8 #[.agg #[.int .u32 a, .int .i64 l], .agg #[.int .u32 b, .int .i64 m]] w fun e w' => e = .returned (.bool true) ∧ Below w.heap.size w w' := by
  have HF : Hid (lessB a l b m = v1 ∧ lessB b m a l = v2 ∧ coversB a l b m = v3) := ⟨f1, f2, f3⟩
  clear f1 f2 f3
  have hv' : (v1 = true ∧ v2 = false ∧ v3 = true) ∨ (v1 = true ∧ v2 = false ∧ v3 = false) ∨ (v1 = false ∧ v2 = true ∧ v3 = false) := by
    cases v1 <;> cases v2 <;> cases v3 <;> simp_all
  clear hv
  rcases hne with hne | ⟨rfl, hne⟩
  all_goals rcases hv' with ⟨rfl, rfl, rfl⟩ | ⟨rfl, rfl, rfl⟩ | ⟨rfl, rfl, rfl⟩
  all_goals
    go_enter Tryd.func8, Tryd.ntmps8
    go_wp2_with (go_at_call 11; refine (awake_any _).mono ?_; rintro e w1 ⟨rfl, hb⟩; obtain ⟨⟨c0, c1, z0⟩, ⟨c2, c3, z1⟩⟩ := box2 hb)
    have k0 := cell_regrown c0
    have k1 := cell_regrown c1
    have k2 := cell_regrown c2
    have k3 := cell_regrown c3
    refine wp_region_quiet_below (by kernel_rfl) (by kernel_rfl) ?_
    repeat (go_big_quiet_step (first
      | (go_at_call 24; first | exact Calls.regrown_of (less_any _ _ _ _ _ HF.out.1) | exact Calls.regrown_of (less_any _ _ _ _ _ HF.out.2.1))
      | (go_at_call 22; exact Calls.regrown_of (covers_any _ _ _ _ _ ha0 ha1 hb0 hb1 HF.out.2.2))))
    refine wpQuiet_nil ?_
    intro _ hw'
    obtain ⟨⟨dq, osq⟩, hw''⟩ := hw'
    subst hw''
    go_wp2
    go_ret
    exact ⟨rfl, stp (Below.out2 hb) (below_regrown _ dq osq)⟩

theorem law_orders (a l b m : Int) (w : World) (ha0 : 0 ≤ a) (ha1 : a < 4294967296) (hb0 : 0 ≤ b) (hb1 : b < 4294967296) :
    Calls Tryd.prog 8 #[.agg #[.int .u32 a, .int .i64 l], .agg #[.int .u32 b, .int .i64 m]] w fun e w' => e = .returned (.bool true) ∧ Below w.heap.size w w' := by
  by_cases h : a = b ∧ l = m
  · obtain ⟨rfl, rfl⟩ := h
    go_enter Tryd.func8, Tryd.ntmps8
    go_wp2_with (first
      | (go_at_call 11; refine (awake_any _).mono ?_; rintro e w1 ⟨rfl, hb⟩; obtain ⟨⟨c0, c1, z0⟩, ⟨c2, c3, z1⟩⟩ := box2 hb)
      | (go_at_call 24; refine (less_any _ _ _ _ _ (less_self a l)).mono ?_; rintro e w2 ⟨rfl, hb2⟩))
    go_ret
    exact ⟨rfl, stp (Below.out2 hb) hb2⟩
  · have ho := less_one hb0 h
    refine orders_ne a l b m w ha0 ha1 hb0 hb1 (by omega) _ _ _ rfl rfl rfl ho
end Go.Proofs.YtapoajplmejjcaaDoor
