/- The contract of the program's prune. -/
import Derived.Test.YtcabeclbdjfoaaaPrtZ
namespace Go.Proofs.Ytcabeclbdjfoaaa
open Go.RowKit

def PruneD (w : World) (N g cap : Nat) (most cnt : Int) (L : List Pr) (n0 : Nat) (e : Ending) (w' : World) : Prop :=
  ∃ (ns : List Nd) (ws : Nat → List Bool), e = .returned (.tuple #[]) ∧ TrM w' N g cap most cnt ns ∧ Good ns ws ∧ Holds ns ws L ∧ ns.length ≤ n0 ∧ Keep (twoB N g) w w'
def PrJ (w : World) (N g cap : Nat) (most cnt : Int) (L : List Pr) (n0 : Nat) (x : Act) (W : World) : Prop :=
  ∃ (i : Nat) (ns : List Nd) (ws : Nat → List Bool) (u2 u3 u4 u5 u6 u7 u8 u9 u10 u11 u12 u13 : Value), x = { tmps := #[.pointer (some ⟨N, 0, none⟩), .int .i64 (i : Int), u2, u3, u4, u5, u6, u7, u8, u9, u10, u11, u12, u13], defers := [] } ∧ TrM W N g cap most cnt ns ∧ Good ns ws ∧ Holds ns ws L ∧ i < ns.length ∧ ns.length ≤ n0 ∧ Keep (twoB N g) w W
noncomputable def restPr : Code := Code.second ((Try.f55.body.bind afterScope).getD .skip)
def lenC (N : Nat) (W : World) : Nat := match W.cell? ⟨N, 0, none⟩ with
  | some (.slice _ n _) => n
  | _ => 0
theorem lenC_of {W : World} {N g cap : Nat} {most cnt : Int} {ns : List Nd} (h : TrM W N g cap most cnt ns) : lenC N W = ns.length := by unfold lenC; rw [h.c0]
set_option maxRecDepth 100000 in
set_option maxHeartbeats 2000000 in
theorem prune_pass (w : World) (N g cap : Nat) (most cnt : Int) (L : List Pr) (n0 : Nat) (x : Act) (W : World) (q : Nat) (hq : lenC N W = q) (hJ : PrJ w N g cap most cnt L n0 x W) :
    Code.wp Try.prog restPr (Exit.jump 0 (fun a' w' => PrJ w N g cap most cnt L n0 a' w' ∧ lenC N w' < q) (bodyPost Try.prog Try.f55 (PruneD w N g cap most cnt L n0))) x W := by
  obtain ⟨i, ns, ws, u2, u3, u4, u5, u6, u7, u8, u9, u10, u11, u12, u13, rfl, hT, hG, hH, hi, hl, hK⟩ := hJ
  rw [lenC_of hT] at hq
  have HT : Hid (TrM W N g cap most cnt ns) := hT
  have HG : Hid (Good ns ws) := hG
  have HH : Hid (Holds ns ws L) := hH
  have HK : Hid (Keep (twoB N g) w W) := hK
  have HQ : Hid (ns.length = q ∧ ns.length ≤ n0 ∧ i < ns.length) := ⟨hq, hl, hi⟩
  clear hT hG hH hK hq hl hi
  conv => arg 2; whnf
  by_cases hi0 : i = 0
  · subst hi0
    go_wp2
    simp only [Exit.jump]
    exact bodyPost_ret (results_none rfl _ _ _) rfl ⟨ns, ws, rfl, HT.out, HG.out, HH.out, HQ.out.2.1, HK.out⟩
  · have hi0' : ((i : Int) == 0) = false := by rw [beq_eq_false_iff_ne]; omega
    obtain ⟨v, hv⟩ : ∃ v, ((nd ns i).h || !((nd ns i).a == 0 && (nd ns i).b == 0)) = v := ⟨_, rfl⟩
    have HV : Hid (((nd ns i).h || !((nd ns i).a == 0 && (nd ns i).b == 0)) = v) := hv
    have HI : Hid (i ≠ 0) := hi0
    clear hv hi0
    cases v
    · have HD : Hid ((nd ns i).h = false ∧ (nd ns i).a = 0 ∧ (nd ns i).b = 0) := by
        have := HV.out
        simp only [Bool.or_eq_false_iff, Bool.not_eq_false', Bool.and_eq_true, beq_iff_eq] at this
        exact this
      go_wp2_with (first
        | (go_at_call 61; refine (isUsed_any N g cap most cnt ns i _ _ HT.out (at_nd HQ.out.2.2) HV.out).mono ?_; rintro e w_ ⟨rfl, rfl⟩)
        | (go_at_call 62; refine (drop_any N g cap most cnt ns ws i _ HT.out HG.out HQ.out.2.2 HI.out).mono ?_; rintro e W2 ⟨r, rfl, hr, hT2, hK2⟩; have HR : Hid (r < ns.length - 1) := hr; have HT2 : Hid (TrM W2 N g cap most cnt (dropN ns i)) := hT2; have HK2 : Hid (Keep (twoB N g) w W2) := HK.out.trans hK2 (fun _ _ h => h); clear hr hT2 hK2))
      go_step3
      refine ⟨rfl, ⟨r, dropN ns i, dropW ns ws i, _, _, _, _, _, _, _, _, _, _, _, _, rfl, HT2.out, good_drop HG.out HQ.out.2.2 HI.out HD.out.2.1 HD.out.2.2, holds_drop HG.out HH.out HQ.out.2.2 HI.out HD.out.2.1 HD.out.2.2 HD.out.1, by rw [drop_len]; exact HR.out, by rw [drop_len]; have := HQ.out; omega, HK2.out⟩, ?_⟩
      rw [lenC_of HT2.out, drop_len]
      have := HQ.out
      omega
    · go_wp2_with (go_at_call 61; refine (isUsed_any N g cap most cnt ns i _ _ HT.out (at_nd HQ.out.2.2) HV.out).mono ?_; rintro e w_ ⟨rfl, rfl⟩)
      simp only [Exit.jump]
      exact bodyPost_ret (results_none rfl _ _ _) rfl ⟨ns, ws, rfl, HT.out, HG.out, HH.out, HQ.out.2.1, HK.out⟩
set_option maxHeartbeats 1000000 in
theorem prune_any (w : World) (N g cap : Nat) (most cnt : Int) (ns : List Nd) (ws : Nat → List Bool) (L : List Pr) (i : Nat) (hT : TrM w N g cap most cnt ns) (hG : Good ns ws) (hH : Holds ns ws L) (hi : i < ns.length) :
    Calls Try.prog 55 #[.pointer (some ⟨N, 0, none⟩), .int .i64 (i : Int)] w (PruneD w N g cap most cnt L ns.length) := by
  have PASS : Hid (_) := prune_pass w N g cap most cnt L ns.length
  have HJ : Hid (TrM w N g cap most cnt ns ∧ Good ns ws ∧ Holds ns ws L ∧ i < ns.length) := ⟨hT, hG, hH, hi⟩
  clear hT hG hH hi
  go_enter Try.func55, Try.ntmps55
  go_wp2
  refine wp_scope_jumps 0 (PrJ w N g cap most cnt L ns.length) (fun _ W => lenC N W) rfl ?_ ?_
  rotate_left
  · intro a' W' hJ
    exact wp_seq (wp_skip (PASS.out a' W' _ rfl hJ))
  go_wp2
  go_step3
  rename_i K hK
  refine hK _ _ (wp_mono (PASS.out _ _ _ rfl ?_) (jump_mono fun a w h => h.1))
  exact ⟨i, ns, ws, _, _, _, _, _, _, _, _, _, _, _, _, rfl, HJ.out.1, HJ.out.2.1, HJ.out.2.2.1, HJ.out.2.2.2, Nat.le_refl _, Keep.refl _ _⟩
end Go.Proofs.Ytcabeclbdjfoaaa
