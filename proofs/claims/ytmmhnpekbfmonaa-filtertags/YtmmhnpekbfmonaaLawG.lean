/- FilterTags. -/
import Derived.Test.YtmmhnpekbfmonaaLawA
namespace Go.Proofs.Ytmmhnpekbfmonaa
open Go.RowKit

theorem tags_fit {h n t : Nat} (hh : h < 65536) (hn : n < 65536) {c d : Bool} (hc : (((t &&& h : Nat) : Int) == (h : Int)) = c) (hd : (((t &&& n : Nat) : Int) == 0) = d) :
    fitR ⟨true, 0, 0, 0, 32, (h : Int), (n : Int)⟩ 0 0 t = (c && d) := by
  have h1 : coversB 0 0 0 0 = true := by decide
  have e1 : (t &&& h == h) = c := by rw [← hc, Bool.eq_iff_iff, beq_iff_eq, beq_iff_eq]; omega
  have e2 : (t &&& n == 0) = d := by
    rw [← hd, Bool.eq_iff_iff, beq_iff_eq, beq_iff_eq]; omega
  unfold fitR
  simp only [Int.toNat_natCast]
  rw [h1, fitT_iff hh hn, e1, e2]
  simp
theorem one_fit {x : Ru} {qa ql : Int} {t : Nat} {c : Bool} (h : fitR x qa ql t = c) : perB qa ql t [x] = (c && x.m) ∧ perI qa ql t [x] = if c = true then 0 else -1 := by
  cases c
  · exact ⟨(per_none (fst_never (fun i hi q hq => by
      cases i with
      | zero => simp at hq; subst hq; exact h
      | succ i => simp at hq))).2, (per_none (fst_never (fun i hi q hq => by
      cases i with
      | zero => simp at hq; subst hq; exact h
      | succ i => simp at hq))).1⟩
  · have := per_some (L := [x]) (fst_first (L := [x]) (j := 0) (p := x) (fun i hi => by omega) rfl h) (p := x) rfl
    exact ⟨this.2, this.1⟩
set_option maxRecDepth 100000 in
set_option maxHeartbeats 2000000 in
theorem law_tags (C : FilC) (h n t : Nat) (w : World) (hh : h < 65536) (hn : n < 65536) (ht : t < 65536) :
    Calls Try.prog 6 #[.int .u16 (h : Int), .int .u16 (n : Int), .int .u16 (t : Int)] w fun e w' => e = .returned (.bool true) ∧ Below w.heap.size w w' := by
  have HC : Hid FilC := C
  obtain ⟨x, hx⟩ : ∃ x, t &&& h = x := ⟨_, rfl⟩
  obtain ⟨y, hy⟩ : ∃ y, t &&& n = y := ⟨_, rfl⟩
  have e1 : bits .and .u16 (t : Int) (h : Int) = (x : Int) := by rw [← hx]; exact u16_and_nat t h ht hh
  have e2 : bits .and .u16 (t : Int) (n : Int) = (y : Int) := by rw [← hy]; exact u16_and_nat t n ht hn
  obtain ⟨c, hc⟩ : ∃ c, ((x : Int) == (h : Int)) = c := ⟨_, rfl⟩
  obtain ⟨d, hd⟩ : ∃ d, ((y : Int) == 0) = d := ⟨_, rfl⟩
  have HF := one_fit (tags_fit hh hn (t := t) (c := c) (d := d) (by rw [hx]; exact hc) (by rw [hy]; exact hd))
  have HP : Hid (perB 0 0 t [⟨true, 0, 0, 0, 32, (h : Int), (n : Int)⟩] = (c && d)) := by unfold Hid; rw [HF.1]; simp
  have HI : Hid (perI 0 0 t [⟨true, 0, 0, 0, 32, (h : Int), (n : Int)⟩] = if (c && d) = true then 0 else -1) := HF.2
  have HO : Hid (Ru.Ok ⟨true, 0, 0, 0, 32, (h : Int), (n : Int)⟩) := by constructor <;> (simp only; omega)
  clear C HF hx hy
  cases c <;> cases d
  all_goals
    go_enter Try.func6, Try.ntmps6
    go_wp2_with (first
      | (go_at_call 8; refine (awake_any HC.out _).mono ?_; rintro e W1 ⟨rfl, hb1⟩)
      | (go_at_call 9; refine (HC.out.permits _ _ _ [⟨true, 0, 0, 0, 32, (h : Int), (n : Int)⟩] 0 0 t _ (rowU_one (U7.new W1 true 0 0 0 32 (h : Int) (n : Int)) rfl HO.out) (by decide) ⟨by decide, by decide⟩ ⟨by decide, by decide⟩ ht).mono ?_; rw [HP.out, HI.out]; rintro e W2 ⟨rfl, hb2⟩))
    go_ret
    exact ⟨rfl, stp1 hb1 hb2⟩
end Go.Proofs.Ytmmhnpekbfmonaa
