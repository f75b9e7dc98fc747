/- The walk of NumBack where its length is within what it asks. -/
import Derived.Test.YtbbnlkcacpbfdaaCong
import Derived.Test.YtbbnlkcacpbfdaaMatd
import Derived.Deep.RegionWith
namespace Go.Proofs.Ytbbnlkcacpbfdaa
open Go.RowKit

theorem back_main (n : Int) (a1 : Option Addr) (len1 cap1 : Nat) (l1 : List Int) (x : Int) (w : World) (hr : Row8 w a1 len1 l1) (h1 : len1 ≤ 1000) (n0 : 0 ≤ n) (n1 : n ≤ 4294967295) (x0 : 0 ≤ x ∧ x ≤ 255) :
    Calls Try.prog 6 #[.int .u32 n, .slice a1 len1 cap1, .int .u8 x] w fun e w' => e = .returned (.bool true) ∧ Below w.heap.size w w' := by
  have HR : Hid (Row8 w a1 len1 l1) := hr
  have m0 : 0 ≤ IntKind.u16.wrap n := by rw [IntKind.wrap_u16]; omega
  have m1 : IntKind.u16.wrap n ≤ 65535 := by rw [IntKind.wrap_u16]; omega
  have hB1 : Bytes (l1 ++ [n / 16777216, n / 65536 % 256, n / 256 % 256, n % 256] ++ [x]) := (hr.2.2.1.append (by unfold Bytes; simp; omega)).append (by unfold Bytes; simp; omega)
  have hB4 : Bytes [n / 16777216, n / 65536 % 256, n / 256 % 256, n % 256] := by unfold Bytes; simp; omega
  have hBx : Bytes [x] := by unfold Bytes; simp; omega
  have hB2 : Bytes (l1 ++ [IntKind.u16.wrap n / 256, IntKind.u16.wrap n % 256]) := hr.2.2.1.append (by unfold Bytes; simp; omega)
  have hBy : Bytes [IntKind.u16.wrap n / 256, IntKind.u16.wrap n % 256] := by unfold Bytes; simp; omega
  have g4 : getV (l1 ++ [n / 16777216, n / 65536 % 256, n / 256 % 256, n % 256] ++ [x]) len1 4 = n := by
    have := getV_put4 l1 [x] n; rwa [hr.1] at this
  have g2 : getV (l1 ++ [IntKind.u16.wrap n / 256, IntKind.u16.wrap n % 256]) len1 2 = IntKind.u16.wrap n := by
    have := getV_put2 l1 (IntKind.u16.wrap n); rwa [hr.1] at this
  have G4 : Hid (getV (l1 ++ [n / 16777216, n / 65536 % 256, n / 256 % 256, n % 256] ++ [x]) len1 4 = n) := g4
  have G2 : Hid (getV (l1 ++ [IntKind.u16.wrap n / 256, IntKind.u16.wrap n % 256]) len1 2 = IntKind.u16.wrap n) := g2
  clear hr g4 g2
  have B0 := below_ups w
  go_enter Try.func6, Try.ntmps6
  go_wp2_with (first
    | (go_at_call 12; refine (awake_any _).mono ?_; rintro e w' ⟨rfl, rfl⟩)
    | (at_builtin; refine wpList_app8 _ rfl (.const (.slice none 0 0)) (.tmp 21) 23 5 rfl w.heap.size Try.underlying23 info5 _ 0 [] rfl (own8_nil _ _ _) _ _ _ l1 rfl (HR.out.later B0) len1 (by omega) l1 rfl (by omega) B0.size ?_; intro ad1 c1 W1 own1 hb1; have B1 := B0.trans hb1)
    | (go_at_call 16; refine (put32_any _ _ (by omega) (by omega)).mono ?_; rintro e w' ⟨rfl, rfl⟩)
    | (at_builtin; refine wpList_app8 _ rfl (.tmp 22) (.tmp 24) 23 5 rfl w.heap.size Try.underlying23 info5 _ _ _ rfl (own1.alloc _) _ _ _ _ rfl (row8_at _ _ rfl [n / 16777216, n / 65536 % 256, n / 256 % 256, n % 256] 5 4 rfl hB4 (by simp)) (len1 + 4) rfl _ rfl (by omega) (by have := B1.size; simp; omega) ?_; intro ad2 c2 W2 own2 hb2; have B2 := (B1.trans ((below_alloc _ _).mono B1.size)).trans hb2)
    | (at_builtin; refine wpList_app8 _ rfl (.tmp 25) (.tmp 27) 23 5 rfl w.heap.size Try.underlying23 info5 _ _ _ rfl (own2.alloc _) _ _ _ _ rfl (row8_at _ _ rfl [x] 5 1 rfl hBx (by simp)) (len1 + 5) (by omega) _ rfl (by omega) (by have := B2.size; simp; omega) ?_; intro ad3 c3 W3 own3 hb3; have B3 := (B2.trans ((below_alloc _ _).mono B2.size)).trans hb3)
    | (at_builtin; refine wpList_app8 _ rfl (.const (.slice none 0 0)) (.tmp 29) 23 5 rfl _ Try.underlying23 info5 _ 0 [] rfl (own8_nil _ _ _) _ _ _ l1 rfl (HR.out.later B3) len1 (by omega) l1 rfl (by omega) (Nat.le_refl _) ?_; intro ad4 c4 W4 own4 hb4)
    | (go_at_call 18; refine (put16_any _ _ (by omega) (by omega)).mono ?_; rintro e w' ⟨rfl, rfl⟩)
    | (at_builtin; refine wpList_app8 _ rfl (.tmp 30) (.tmp 33) 23 5 rfl _ Try.underlying23 info5 _ _ _ rfl (own4.alloc _) _ _ _ _ rfl (row8_at _ _ rfl [IntKind.u16.wrap n / 256, IntKind.u16.wrap n % 256] 5 2 rfl hBy (by simp)) (len1 + 2) rfl _ rfl (by omega) (by have := hb4.size; simp; omega) ?_; intro ad5 c5 W5 own5 hb5; have S5 := (hb4.trans ((below_alloc _ _).mono hb4.size)).trans hb5; have R5 := (own3.row hB1 (by omega)).later S5; have Q5 := own5.row hB2 (by omega); have B5 := B3.trans (S5.mono B3.size))
    | (go_at_call 15; refine (get32_yes _ _ _ _ len1 _ R5 (by omega) (by omega)).mono ?_; rintro e w' ⟨rfl, rfl⟩; rw [G4.out])
    | (go_at_call_of 13 (Value.int .i64 (len1 : Int)); refine (get16_yes _ _ _ _ len1 _ Q5 (by omega) (by omega)).mono ?_; rintro e w' ⟨rfl, rfl⟩; rw [G2.out])
    | (go_at_call 13; refine (get16_no _ (len1 + 2) _ ((len1 : Int) + 1) _ (by omega) (.inr (by omega))).mono ?_; rintro e w' ⟨rfl, rfl⟩))
  go_ret
  exact ⟨rfl, B5⟩
end Go.Proofs.Ytbbnlkcacpbfdaa
