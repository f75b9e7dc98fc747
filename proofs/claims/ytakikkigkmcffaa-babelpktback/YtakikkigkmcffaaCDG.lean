/- readBody: a router's name; what is not known. -/
import Derived.Deep.RegionLaw
import Derived.Test.YtakikkigkmcffaaCDB
namespace Go.Proofs.Ytakikkigkmcffaa
open Go.RowKit

set_option maxRecDepth 8000 in
set_option maxHeartbeats 2000000 in
theorem body_6 (N : Nat) (S : St) (ra : Option Addr) (m cc : Nat) (ad : Option Addr) (k cp : Nat) (b off n cap : Nat) (l : List Int) (w : World) (hF : RF w N S.kn ra m cc ad k cp) (hO : OwnT w (N + 1) (.slice ad k cp) k S.ps) (hr : Row8 w (some ⟨b, off, none⟩) n l) (hn : n ≤ 255) :
    Calls Try.prog 50 #[.pointer (some ⟨N, 0, none⟩), .int .u8 6, .slice (some ⟨b, off, none⟩) n cap] w (TookI w N ra m cc (tk S 6 l)) := by
  have HR : Hid (Row8 w (some ⟨b, off, none⟩) n l) := hr
  have HF : Hid (RF w N S.kn ra m cc ad k cp) := hF
  have HO : Hid (OwnT w (N + 1) (.slice ad k cp) k S.ps) := hO
  obtain ⟨v, hv⟩ : ∃ v, routB l = v := ⟨_, rfl⟩
  obtain ⟨x, hx⟩ : ∃ x, g64 l 2 = x := ⟨_, rfl⟩
  have HVv : Hid (routB l = v) := hv
  have HX : Hid (g64 l 2 = x) := hx
  have HT : Hid (tk S 6 l = if v = true then some ⟨⟨true, x, S.kn.a⟩, S.ps⟩ else none) := by
    unfold Hid tk
    rw [if_neg (by decide), if_neg (by decide), if_pos rfl, hv]
    cases v
    · rfl
    · have h6 : l.length = 10 := by unfold routB at hv; simp only [Bool.and_eq_true, decide_eq_true_eq] at hv; exact hv.1
      rw [g64_is (by omega)] at hx
      rw [hx]
  have hz : N < w.heap.size := hF.2.2.2.2.2.2
  have hB : Below N w (((w.setCell ⟨N, 0, none⟩ (.bool true)).setCell ⟨N, 1, none⟩ (.int .u64 x)).alloc objZ) := (((Below.refl N w).setCell (p := ⟨N, 0, none⟩) (Nat.le_refl _) _).setCell (p := ⟨N, 1, none⟩) (Nat.le_refl _) _).alloc (by simpa using Nat.le_of_lt hz) _
  have HB : Hid (_) := hB
  clear hr hF hO hv hx hB
  go_enter Try.func50, Try.ntmps50
  go_wp2_with (go_at_call 62; refine (readRouter_any N S.kn ra ad m cc k cp _ n cap l _ (HF.out.later (below1 _ _)) (HR.out.later (below1 _ _)) (by omega) HX.out HVv.out).mono ?_; rintro e W1 ⟨rfl, rfl⟩)
  go_ret
  rw [HT.out]
  cases v
  · exact ⟨rfl, HB.out⟩
  · exact ⟨rfl, ad, k, cp, (HF.out.setR x).later (below1 _ _), ((HO.out.set (by omega)).set (by omega)).later (below1 _ _), HB.out⟩
set_option maxRecDepth 8000 in
set_option maxHeartbeats 2000000 in
theorem body_else (kd : Int) (h4 : kd ≠ 4) (h5 : kd ≠ 5) (h6 : kd ≠ 6) (h8 : kd ≠ 8) (h9 : kd ≠ 9) (h10 : kd ≠ 10) (N : Nat) (S : St) (ra : Option Addr) (m cc : Nat) (ad : Option Addr) (k cp : Nat) (b off n cap : Nat) (l : List Int) (w : World) (hF : RF w N S.kn ra m cc ad k cp) (hO : OwnT w (N + 1) (.slice ad k cp) k S.ps) :
    Calls Try.prog 50 #[.pointer (some ⟨N, 0, none⟩), .int .u8 kd, .slice (some ⟨b, off, none⟩) n cap] w (TookI w N ra m cc (tk S kd l)) := by
  have HF : Hid (RF w N S.kn ra m cc ad k cp) := hF
  have HO : Hid (OwnT w (N + 1) (.slice ad k cp) k S.ps) := hO
  have hz : N < w.heap.size := hF.2.2.2.2.2.2
  have HT : Hid (tk S kd l = some S) := by unfold Hid tk; rw [if_neg h4, if_neg h5, if_neg h6, if_neg h8, if_neg h9, if_neg h10]
  have e4 : (kd == 4) = false := by simpa using h4
  have e5 : (kd == 5) = false := by simpa using h5
  have e6 : (kd == 6) = false := by simpa using h6
  have e8 : (kd == 8) = false := by simpa using h8
  have e9 : (kd == 9) = false := by simpa using h9
  have e10 : (kd == 10) = false := by simpa using h10
  clear hF hO h4 h5 h6 h8 h9 h10
  go_enter Try.func50, Try.ntmps50
  go_wp2
  go_ret
  rw [HT.out]
  exact ⟨rfl, ad, k, cp, HF.out.later (below1 _ _), HO.out.later (below1 _ _), (below1 w objZ).mono (Nat.le_of_lt hz)⟩
end Go.Proofs.Ytakikkigkmcffaa
