/- The walk of NumParts where its lengths are within what it asks. -/
import Derived.Test.YtbbnlkcacpbfdaaCong
import Derived.Test.YtbbnlkcacpbfdaaMatd
import Derived.Deep.RegionWith
namespace Go.Proofs.Ytbbnlkcacpbfdaa
open Go.RowKit

theorem parts_main (a0 : Option Addr) (len0 cap0 : Nat) (l0 : List Int) (a1 : Option Addr) (len1 cap1 : Nat) (l1 : List Int) (w : World) (hr0 : Row8 w a0 len0 l0) (hr1 : Row8 w a1 len1 l1)
    (h0 : len0 ≤ 2000) (h1 : len1 ≤ 2000) (h2 : len0 % 2 = 0) :
    Calls Try.prog 11 #[.slice a0 len0 cap0, .slice a1 len1 cap1] w fun e w' => e = .returned (.bool true) ∧ Below w.heap.size w w' := by
  have h2' : (((len0 : Int) % 2) != 0) = false := by simp; omega
  have HR0 : Hid (Row8 w a0 len0 l0) := hr0
  have HR1 : Hid (Row8 w a1 len1 l1) := hr1
  have e0 := sumI_bd hr0.2.2.1
  have e1 := sumI_bd hr1.2.2.1
  have x0 := xor_ffff (sumI l0) e0.1 e0.2
  have x1 := xor_ffff (sumI l1) e1.1 e1.2
  have ep : (sumI (l0 ++ l1) == sumI [(65535 - sumI l0) / 256, (65535 - sumI l0) % 256, (65535 - sumI l1) / 256, (65535 - sumI l1) % 256]) = true := by
    rw [beq_iff_eq]; exact sum_parts l0 l1 hr0.2.2.1 hr1.2.2.1 (by rw [hr0.1]; exact h2)
  have hB01 : Bytes (l0 ++ l1) := hr0.2.2.1.append hr1.2.2.1
  clear hr0 hr1 h2
  generalize hs0 : sumI l0 = s0 at e0 x0 ep
  generalize hs1 : sumI l1 = s1 at e1 x1 ep
  obtain ⟨e00, e01⟩ := e0
  obtain ⟨e10, e11⟩ := e1
  have hB4 : Bytes ([(65535 - s0) / 256, (65535 - s0) % 256] ++ [(65535 - s1) / 256, (65535 - s1) % 256]) := by unfold Bytes; simp; omega
  have hBy : Bytes [(65535 - s1) / 256, (65535 - s1) % 256] := by unfold Bytes; simp; omega
  have B0 := below_ups w
  go_enter Try.func11, Try.ntmps11
  go_wp2_with (first
    | (go_at_call 12; refine (awake_any _).mono ?_; rintro e w' ⟨rfl, rfl⟩)
    | (at_builtin; refine wpList_app8 _ rfl (.const (.slice none 0 0)) (.tmp 24) 23 5 rfl w.heap.size Try.underlying23 info5 _ 0 [] rfl (own8_nil _ _ _) _ _ _ l0 rfl (HR0.out.later B0) len0 (by omega) l0 rfl (by omega) B0.size ?_; intro ad1 c1 W1 own1 hb1; have B1 := B0.trans hb1)
    | (at_builtin; refine wpList_app8 _ rfl (.tmp 25) (.tmp 26) 23 5 rfl w.heap.size Try.underlying23 info5 _ _ _ rfl own1 _ _ _ l1 rfl (HR1.out.later B1) (len0 + len1) rfl (l0 ++ l1) rfl (by omega) B1.size ?_; intro ad2 c2 W2 own2 hb2; have B2 := B1.trans hb2)
    | (go_at_call_of 23 a0; refine (sum_any _ _ _ l0 _ (HR0.out.later B2)).mono ?_; rintro e w' ⟨rfl, rfl⟩)
    | (go_at_call 18; refine (put16_any _ _ (by omega) (by omega)).mono ?_; rintro e w' ⟨rfl, rfl⟩)
    | (go_at_call_of 23 a1; refine (sum_any _ _ _ l1 _ (HR1.out.later (B2.trans ((below_alloc _ _).mono B2.size)))).mono ?_; rintro e w' ⟨rfl, rfl⟩)
    | (at_builtin; refine wpList_app8 _ rfl (.tmp 31) (.tmp 35) 23 5 rfl _ Try.underlying23 info5 _ 2 _ rfl ((own8_at _ _ rfl _ 5 [(65535 - s0) / 256, (65535 - s0) % 256] (Nat.le_refl _) (by simp)).alloc _) _ _ _ [(65535 - s1) / 256, (65535 - s1) % 256] rfl (row8_at _ _ (by simp) [(65535 - s1) / 256, (65535 - s1) % 256] 5 2 rfl hBy (by simp)) 4 rfl _ rfl (by omega) (by simp; omega) ?_; intro ad3 c3 W3 own3 hb3; have R3 := (own2.row hB01 (by omega)).later ((below_alloc2 _ _ _).trans hb3); have Q3 := own3.row hB4 (by omega); have B3 := B2.trans (((below_alloc2 _ _ _).trans hb3).mono B2.size))
    | (go_at_call_of 23 ad2; refine (sum_any _ _ _ _ _ R3).mono ?_; rintro e w' ⟨rfl, rfl⟩)
    | (go_at_call_of 23 ad3; refine (sum_any _ _ _ _ _ Q3).mono ?_; rintro e w' ⟨rfl, rfl⟩))
  go_ret
  exact ⟨rfl, B3⟩
end Go.Proofs.Ytbbnlkcacpbfdaa
