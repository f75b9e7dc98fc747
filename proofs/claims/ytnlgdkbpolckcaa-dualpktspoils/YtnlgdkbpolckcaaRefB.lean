/- Contracts of the document's entry and get. -/
import Derived.Test.YtnlgdkbpolckcaaRowE
namespace Go.Proofs.Ytnlgdkbpolckcaa
open Go.RowKit

theorem refEntry_any (a l b d h t : Int) (w : World) (ha0 : 0 ≤ a) (ha1 : a < 4294967296) (hl0 : -9223372036854775808 ≤ l) (hl1 : l ≤ 9223372036854775807) {v : Bool} (hv : mayE ⟨a, l, b, d, h, t⟩ = v) :
    Calls Try.prog 19 #[valE a l b d h t] w fun e w' => e = .returned (.bool v) ∧ Below w.heap.size w w' := by
  subst hv
  obtain ⟨x, hx⟩ : ∃ x, mayB a l = x := ⟨_, rfl⟩
  obtain ⟨y, hy⟩ : ∃ y, mayV h b d = y := ⟨_, rfl⟩
  have HM : Hid (mayE ⟨a, l, b, d, h, t⟩ = (x && (y || noV h b d))) := by unfold Hid mayE; simp only; rw [hx, hy]
  have HX : Hid (mayB a l = x) := hx
  have HY : Hid (mayV h b d = y) := hy
  clear hx hy
  cases x <;> cases y
  all_goals
    go_enter Try.func19, Try.ntmps19
    go_wp2_with (first
      | (go_at_call 33; refine (refMay_any _ _ _ ha0 ha1 hl0 hl1 HX.out).mono ?_; rintro e W1 ⟨rfl, hb1⟩; obtain ⟨c0, c1, c2, c3, c4, c5⟩ := ((E6.new w a l b d h t).later hb1).z)
      | (go_at_call 34; refine (refMayV_any _ _ _ _ HY.out).mono ?_; rintro e W2 ⟨rfl, hb2⟩; obtain ⟨c0, c1, c2, c3, c4, c5⟩ := (((E6.new w a l b d h t).later hb1).later hb2).z))
    all_goals
      go_ret
      refine ⟨ret_bool ?_, Below.out1 (stp hb1 hb2)⟩
      rw [HM.out]
      unfold noV
      clear HM HX HY hb1 hb2
      first | rfl | simp_all
theorem refGet4_any (a : Option Addr) (n cap : Nat) (l : List Int) (w : World) (hr : Row8 w a n l) (hn : n ≤ 3000) (p : Nat) (h : p + 4 ≤ n) {v : Int} (hv : getV l p 4 = v) :
    Calls Try.prog 27 #[.slice a n cap, .int .i64 p] w fun e w' => e = .returned (.int .u32 v) ∧ w' = w := by
  subst hv
  go_enter Try.func27, Try.ntmps27
  go_wp2_with (go_at_call 26; refine (refGet_yes _ _ _ l p 4 _ hr hn (by omega) h).mono ?_; rintro e w' ⟨rfl, rfl⟩)
  go_ret
  exact ⟨rfl, rfl⟩
end Go.Proofs.Ytnlgdkbpolckcaa
