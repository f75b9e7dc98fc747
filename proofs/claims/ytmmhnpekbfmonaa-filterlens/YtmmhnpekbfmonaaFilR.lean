/- The document's filter: which rule fits. -/
import Derived.Test.YtmmhnpekbfmonaaRowU
namespace Go.Proofs.Ytmmhnpekbfmonaa
open Go.RowKit

abbrev objX (a l : Int) : Obj := .cells #[.int .u32 a, .int .i64 l] 25
abbrev valX (a l : Int) : Value := .agg #[.int .u32 a, .int .i64 l]
def I64 (x : Int) : Prop := -9223372036854775808 ≤ x ∧ x ≤ 9223372036854775807
def U32 (x : Int) : Prop := 0 ≤ x ∧ x < 4294967296
theorem newUX (w : World) (m : Bool) (a l g e h n qa ql : Int) {W : World} (hb : Below ((w.alloc (objU m a l g e h n)).alloc (objX qa ql)).heap.size ((w.alloc (objU m a l g e h n)).alloc (objX qa ql)) W) :
    U7 W w.heap.size 0 ⟨m, a, l, g, e, h, n⟩ ∧ W.cell? ⟨w.heap.size + 1, 0, none⟩ = some (.int .u32 qa) ∧ W.cell? ⟨w.heap.size + 1, 1, none⟩ = some (.int .i64 ql) :=
  ⟨((U7.new w m a l g e h n).later (below1 _ _)).later hb, cell_later hb (by simp [go_sem]), cell_later hb (by simp [go_sem])⟩
set_option maxHeartbeats 2000000 in
theorem refFits_any (m : Bool) (a l g e : Int) (h n t : Nat) (qa ql : Int) (w : World) (ha : U32 a) (hl : I64 l) (hg : I64 g) (he : I64 e) (hh : h < 65536) (hn : n < 65536) (ht : t < 65536) (hqa : U32 qa) (hql : I64 ql)
    {v : Bool} (hv : fitR ⟨m, a, l, g, e, (h : Int), (n : Int)⟩ qa ql t = v) :
    Calls Try.prog 15 #[.agg #[.bool m, .int .u32 a, .int .i64 l, .int .i64 g, .int .i64 e, .int .u16 (h : Int), .int .u16 (n : Int)], valX qa ql, .int .u16 (t : Int)] w fun e w' => e = .returned (.bool v) ∧ Below w.heap.size w w' := by
  obtain ⟨c, hc⟩ : ∃ c, coversB a l qa ql = c := ⟨_, rfl⟩
  have HV : Hid ((c && decide (g ≤ ql ∧ ql ≤ e) && fitT h n t 16) = v) := by unfold Hid; rw [← hv, ← hc]; rfl
  have HC : Hid (coversB a l qa ql = c) := hc
  have HA : Hid (U32 a ∧ I64 l ∧ U32 qa ∧ I64 ql) := ⟨ha, hl, hqa, hql⟩
  clear hv hc ha hl hqa
  obtain ⟨g0, g1⟩ := hg
  obtain ⟨e0, e1⟩ := he
  obtain ⟨q0, q1⟩ := hql
  by_cases hall : c = true ∧ g ≤ ql ∧ ql ≤ e
  case neg =>
    obtain rfl : v = false := by
      rw [← HV.out]
      cases c
      · rfl
      · rw [decide_eq_false (fun h => hall ⟨rfl, h⟩)]; rfl
    clear HV
    by_cases k1 : ql < g
    all_goals by_cases k2 : ql > e
    all_goals cases c
    all_goals try (exfalso; exact hall ⟨rfl, by omega, by omega⟩)
    all_goals clear hall
    all_goals
      go_enter Try.func15, Try.ntmps15
      go_wp2_with (go_at_call 20; refine (refCovers_any a l qa ql _ HA.out.1.1 HA.out.1.2 HA.out.2.2.1.1 HA.out.2.2.1.2 HA.out.2.1.1 HA.out.2.1.2 HA.out.2.2.2.1 HA.out.2.2.2.2 HC.out).mono ?_; rintro e' W1 ⟨rfl, hb⟩; obtain ⟨⟨c0, c1, c2, c3, c4, c5, c6⟩, x0, x1⟩ := newUX w m a l g e h n qa ql hb; have HB : Hid (Below w.heap.size w W1) := Below.out2 hb; clear hb)
      go_ret
      exact ⟨rfl, HB.out⟩
  case pos =>
    obtain ⟨rfl, k1, k2⟩ := hall
    have HV2 : Hid (fitT h n t 16 = v) := by unfold Hid; rw [← HV.out, decide_eq_true ⟨k1, k2⟩]; rfl
    clear HV
    have k1' : ¬ ql < g := by omega
    have k2' : ¬ ql > e := by omega
    go_enter Try.func15, Try.ntmps15
    go_wp2_with (go_at_call 20; refine (refCovers_any a l qa ql _ HA.out.1.1 HA.out.1.2 HA.out.2.2.1.1 HA.out.2.2.1.2 HA.out.2.1.1 HA.out.2.1.2 HA.out.2.2.2.1 HA.out.2.2.2.2 HC.out).mono ?_; rintro e' W1 ⟨rfl, hb⟩; obtain ⟨⟨c0, c1, c2, c3, c4, c5, c6⟩, x0, x1⟩ := newUX w m a l g e h n qa ql hb; have HB : Hid (Below w.heap.size w W1) := Below.out2 hb; clear hb)
    go_loop [8] (fun i => ∃ k : Nat, k ≤ 16 ∧ i = .int .i64 k ∧ Hid (fitT h n t k = true)) (fun i => 16 - (intOf i).toNat)
    case atStart => exact ⟨0, by omega, rfl, fitT_zero _ _ _⟩
    case round =>
      obtain ⟨k, hk, rfl, HK⟩ := hrel
      by_cases hlt : k < 16
      · have hd : domB (k : Int) = true := domB_true (by omega) (by omega)
        obtain ⟨b1, h1⟩ : ∃ b, h.testBit k = b := ⟨_, rfl⟩
        obtain ⟨b2, h2⟩ : ∃ b, t.testBit k = b := ⟨_, rfl⟩
        obtain ⟨b3, h3⟩ : ∃ b, n.testBit k = b := ⟨_, rfl⟩
        have f1 : hasT h (k : Int) = b1 := by simp [hasT, hd, h1]
        have f2 : hasT t (k : Int) = b2 := by simp [hasT, hd, h2]
        have f3 : hasT n (k : Int) = b3 := by simp [hasT, hd, h3]
        by_cases hf : (b1 && !b2 || b3 && b2) = true
        · have HN : Hid (v = false) := by
            unfold Hid; rw [← HV2.out]; exact fitT_no hlt (by rw [h1, h2, h3]; exact hf)
          clear h1 h2 h3 HK
          cases b1 <;> cases b2 <;> cases b3
          all_goals try (exfalso; revert hf; decide)
          all_goals
            go_wp2_with (go_at_call 21; refine (refHasT_any _ _ _ (by assumption) rfl).mono ?_; rintro e' w' ⟨rfl, rfl⟩)
            go_ret
            exact ⟨by rw [HN.out]; rfl, HB.out⟩
        · have HN : Hid (fitT h n t (k + 1) = true) := by
            unfold Hid; rw [fitT_succ, HK.out, h1, h2, h3, eq_false_of_ne_true hf]; rfl
          clear h1 h2 h3 HK
          cases b1 <;> cases b2 <;> cases b3
          all_goals try (exfalso; apply hf; decide)
          all_goals
            go_wp2_with (go_at_call 21; refine (refHasT_any _ _ _ (by assumption) rfl).mono ?_; rintro e' w' ⟨rfl, rfl⟩)
            go_round
            case rel => exact ⟨k + 1, by omega, by go_num, HN⟩
            case measure => simp [intOf]; omega
      · obtain rfl : k = 16 := by omega
        have HN : Hid (v = true) := by unfold Hid; rw [← HV2.out]; exact HK.out
        clear HK
        go_wp2
        go_ret
        exact ⟨by rw [HN.out]; rfl, HB.out⟩
end Go.Proofs.Ytmmhnpekbfmonaa
