/- Contracts of prefixes and of depths, the program's and the document's. -/
import Derived.Test.YtcabeclbdjfoaaaChecked
import Derived.Test.YtcabeclbdjfoaaaMat9
import Derived.WalkKit
import Derived.ProofKit
import Derived.OpenShut
import Derived.LoopTactic
import Derived.Handy
import Derived.WalkMore
import Derived.WalkSpells
import Derived.ScopeJumps
import Derived.Deep.OwnRows
import Derived.Deep.QuietTactic
import Derived.BigQuiet
import Derived.Deep.RegionHeld3
import Derived.Deep.RegionWith
import Derived.Lib.QuietBelow
namespace Go.Proofs.Ytcabeclbdjfoaaa
open Go.RowKit
theorem ret_bool {a b : Bool} (h : a = b) : Ending.returned (.bool a) = .returned (.bool b) := by rw [h]
theorem ret_int {k : IntKind} {a b : Int} (h : a = b) : Ending.returned (.int k a) = .returned (.int k b) := by rw [h]
theorem mask_any (b : Int) (w : World) :
    Calls Try.prog 46 #[.int .i64 b] w fun e w' => e = .returned (.int .u32 (maskV b)) ∧ w' = w := by
  go_enter Try.func46, Try.ntmps46
  go_wp2
  all_goals
    go_ret
    refine ⟨ret_int ?_, rfl⟩
  · exact mask_hi (by omega)
  · exact mask_lo (by omega)
  · exact mask_val (by omega) (by omega)
theorem refMask_any (b : Int) (w : World) (hb0 : -9223372036854775808 ≤ b) (hb1 : b ≤ 9223372036854775807) :
    Calls Try.prog 47 #[.int .i64 b] w fun e w' => e = .returned (.int .u32 (maskV b)) ∧ w' = w := by
  have HC : Hid (cl b = (min (max b 0) 32).toNat) := rfl
  go_enter Try.func47, Try.ntmps47
  go_wp2
  go_loop [3, 4, 5] (fun n o i => ∃ k : Nat, k ≤ cl b ∧ i = .int .i64 k ∧ n = .int .u32 (mkI k) ∧ o = .int .u32 (oneI k)) (fun _ _ i => 32 - (intOf i).toNat)
  case atStart => exact ⟨0, Nat.zero_le _, rfl, by rw [show mkI 0 = 0 from by decide], by rw [show oneI 0 = 2147483648 from by decide]⟩
  case round =>
    obtain ⟨k, hk, rfl, rfl, rfl⟩ := hrel
    have hc := HC.out
    by_cases hlt : k < cl b
    · have h1 : (k : Int) < b := by omega
      have h2 : (k : Int) < 32 := by omega
      have hm := mkI_bd k
      have hm1 := mkI_bd (k + 1)
      have ha := mkI_all k (by omega)
      have ho := oneI_all k (by omega)
      have HN : Hid (mkI (k + 1) = mkI k + oneI k) := ha
      have HO : Hid (oneI (k + 1) = oneI k / 2) := ho.1
      obtain ⟨_, ho0, ho1⟩ := ho
      have hs : mkI k + oneI k < 4294967296 := by omega
      clear ha hc hm1
      go_wp2
      go_round
      case rel => exact ⟨k + 1, by omega, by go_num, by rw [HN.out]; try go_num, by rw [HO.out]; try go_num⟩
      case measure => simp [intOf]; omega
    · obtain rfl : k = cl b := by omega
      have hd : ¬ ((cl b : Int) < b) ∨ ¬ ((cl b : Int) < 32) := by omega
      clear hc
      by_cases h1 : (cl b : Int) < b
      · have h2 : ¬ ((cl b : Int) < 32) := by omega
        clear hd
        go_wp2
        go_ret
        exact ⟨rfl, rfl⟩
      · clear hd
        go_wp2
        go_ret
        exact ⟨rfl, rfl⟩
theorem isLen_any (b : Int) (w : World) {v : Bool} (hv : lenB b = v) :
    Calls Try.prog 60 #[.int .i64 b] w fun e w' => e = .returned (.bool v) ∧ w' = w := by
  subst hv
  by_cases h0 : 0 ≤ b <;> by_cases h1 : b ≤ 32
  all_goals
    go_enter Try.func60, Try.ntmps60
    go_wp2
    go_ret
    exact ⟨ret_bool (by simp [lenB, h0, h1]), rfl⟩
theorem bcell {W w1 : World} (hb : Below W.heap.size W w1) : (∀ b o, b < W.heap.size → w1.cell? ⟨b, o, none⟩ = W.cell? ⟨b, o, none⟩) ∧ (∀ b o, b < W.heap.size → w1.frozen? ⟨b, o, none⟩ = W.frozen? ⟨b, o, none⟩) :=
  ⟨fun b o h => hb.cell (p := ⟨b, o, none⟩) h, fun b o h => hb.frozen (p := ⟨b, o, none⟩) h⟩
theorem below_drewN {B : Nat} {a w : World} (h : Below B a w) (n : Nat) : Below B a (w.drewN n) :=
  h.trans ⟨rfl, rfl, rfl, Nat.le_refl _, fun _ _ => rfl⟩
theorem below1 (w : World) (o : Obj) : Below w.heap.size w (w.alloc o) := (Below.refl _ _).alloc (Nat.le_refl _) _
theorem below2 (w : World) (o o' : Obj) : Below w.heap.size w ((w.alloc o).alloc o') := (below1 w o).alloc (by simp) _
theorem below3 (w : World) (o o' o'' : Obj) : Below w.heap.size w (((w.alloc o).alloc o').alloc o'') := (below2 w o o').alloc (by simp; omega) _
theorem Below.out1 {w w' : World} {o : Obj} (h : Below (w.alloc o).heap.size (w.alloc o) w') : Below w.heap.size w w' := (below1 w o).trans (h.mono (by simp))
theorem Below.out2 {w w' : World} {o o' : Obj} (h : Below ((w.alloc o).alloc o').heap.size ((w.alloc o).alloc o') w') : Below w.heap.size w w' := (below2 w o o').trans (h.mono (by simp; omega))
theorem may_in (a l : Int) (w : World) (ha0 : 0 ≤ a) (ha1 : a < 4294967296) (h0 : 0 ≤ l) (h1 : l ≤ 32) :
    Calls Try.prog 45 #[.agg #[.int .u32 a, .int .i64 l]] w fun e w' => e = .returned (.bool (mayB a l)) ∧ Below w.heap.size w w' := by
  have e1 : maskV l = mkI l.toNat := by unfold maskV; rw [cl_of h0 h1]
  have e2 := u32_andM a l.toNat ha0 ha1 (by omega)
  have e3 := lenB_true h0 h1
  have HM : Hid (mayB a l = (andM a l.toNat == a)) := by unfold Hid mayB; rw [Bool.eq_iff_iff]; simp [h0, h1]
  go_enter Try.func45, Try.ntmps45
  go_wp2
  go_quiet ((first
    | (go_at_call 46; exact Calls.quiet_of_same (mask_any _ _))
    | (go_at_call 60; exact Calls.quiet_of_same (isLen_any _ _ e3))))
  go_wp2
  go_ret
  exact ⟨ret_bool HM.out.symm, below_drewN (below1 _ _) _⟩
theorem may_out (a l : Int) (w : World) (h : ¬ (0 ≤ l ∧ l ≤ 32)) :
    Calls Try.prog 45 #[.agg #[.int .u32 a, .int .i64 l]] w fun e w' => e = .returned (.bool (mayB a l)) ∧ Below w.heap.size w w' := by
  have e3 := lenB_false h
  have HM : Hid (mayB a l = false) := by unfold Hid mayB; rw [decide_eq_false_iff_not]; exact fun k => h ⟨k.1, k.2.1⟩
  clear h
  go_enter Try.func45, Try.ntmps45
  go_wp2
  go_quiet ((first
    | (go_at_call 60; exact Calls.quiet_of_same (isLen_any _ _ e3))))
  go_wp2
  go_ret
  exact ⟨ret_bool HM.out.symm, below_drewN (below1 _ _) _⟩
theorem may_any (a l : Int) (w : World) (ha0 : 0 ≤ a) (ha1 : a < 4294967296) {v : Bool} (hv : mayB a l = v) :
    Calls Try.prog 45 #[.agg #[.int .u32 a, .int .i64 l]] w fun e w' => e = .returned (.bool v) ∧ Below w.heap.size w w' := by
  subst hv
  by_cases h : 0 ≤ l ∧ l ≤ 32
  · exact may_in a l w ha0 ha1 h.1 h.2
  · exact may_out a l w h
theorem refMay_any (a l : Int) (w : World) (ha0 : 0 ≤ a) (ha1 : a < 4294967296) (hl0 : -9223372036854775808 ≤ l) (hl1 : l ≤ 9223372036854775807) {v : Bool} (hv : mayB a l = v) :
    Calls Try.prog 30 #[.agg #[.int .u32 a, .int .i64 l]] w fun e w' => e = .returned (.bool v) ∧ Below w.heap.size w w' := by
  subst hv
  by_cases h0 : 0 ≤ l
  · by_cases h1 : l ≤ 32
    · have e1 : maskV l = mkI l.toNat := by unfold maskV; rw [cl_of h0 h1]
      have e2 := u32_andM a l.toNat ha0 ha1 (by omega)
      have HM : Hid (mayB a l = (andM a l.toNat == a)) := by unfold Hid mayB; rw [Bool.eq_iff_iff]; simp [h0, h1]
      go_enter Try.func30, Try.ntmps30
      go_wp2
      go_quiet ((first
        | (go_at_call 47; exact Calls.quiet_of_same (refMask_any _ _ hl0 hl1))))
      go_wp2
      go_ret
      exact ⟨ret_bool HM.out.symm, below_drewN (below1 _ _) _⟩
    · have h1' : decide (l ≤ 32) = false := by simpa using h1
      have HM : Hid (mayB a l = false) := by unfold Hid mayB; rw [decide_eq_false_iff_not]; exact fun k => h1 k.2.1
      go_enter Try.func30, Try.ntmps30
      go_wp2
      go_quiet (fail)
      go_wp2
      go_ret
      exact ⟨ret_bool HM.out.symm, below_drewN (below1 _ _) _⟩
  · have h0' : decide (0 ≤ l) = false := by simpa using h0
    have HM : Hid (mayB a l = false) := by unfold Hid mayB; rw [decide_eq_false_iff_not]; exact fun k => h0 k.1
    go_enter Try.func30, Try.ntmps30
    go_wp2
    go_quiet (fail)
    go_wp2
    go_ret
    exact ⟨ret_bool HM.out.symm, below_drewN (below1 _ _) _⟩
theorem may_len {a l : Int} (h : mayB a l = true) : 0 ≤ l ∧ l ≤ 32 := by rw [mayB, decide_eq_true_eq] at h; exact ⟨h.1, h.2.1⟩
theorem cell2_regrown (w : World) (a b : Value) (t : TypeId) :
    (∀ d os, (Sort.grow (redrawn (w.alloc (.cells #[a, b] t)) d) os).cell? ⟨w.heap.size, 0, none⟩ = some a) ∧ (∀ d os, (Sort.grow (redrawn (w.alloc (.cells #[a, b] t)) d) os).cell? ⟨w.heap.size, 1, none⟩ = some b) :=
  ⟨cell_regrown (by simp [go_sem]), cell_regrown (by simp [go_sem])⟩
theorem has_yes (a l x : Int) (w : World) (ha0 : 0 ≤ a) (ha1 : a < 4294967296) (hx0 : 0 ≤ x) (hx1 : x < 4294967296) (hm : mayB a l = true) :
    Calls Try.prog 28 #[.agg #[.int .u32 a, .int .i64 l], .int .u32 x] w fun e w' => e = .returned (.bool (hasB a l x)) ∧ Below w.heap.size w w' := by
  have hl := may_len hm
  have e1 : maskV l = mkI l.toNat := by unfold maskV; rw [cl_of hl.1 hl.2]
  have e2 := u32_andM x l.toNat hx0 hx1 (by omega)
  have HM : Hid (hasB a l x = (andM x l.toNat == a)) := by unfold Hid hasB; rw [hm]; rfl
  go_enter Try.func28, Try.ntmps28
  go_wp2
  go_region_held3 (fun w' => w'.cell? ⟨w.heap.size, 0, none⟩ = some (.int .u32 a) ∧ w'.cell? ⟨w.heap.size, 1, none⟩ = some (.int .i64 l))
    (first | go_keep | (have hk := bcell hb; refine ⟨?_, ?_⟩ <;> simp [hk.1]))
    (first
      | (go_at_call 45; refine (may_any _ _ _ ha0 ha1 hm).mono ?_; rintro e w' ⟨rfl, hb⟩)
      | (go_at_call 46; refine (mask_any _ _).mono ?_; rintro e w' ⟨rfl, rfl⟩))
  go_wp2
  go_ret
  exact ⟨ret_bool HM.out.symm, (below1 _ _).drew.trans (hb.mono (by simp))⟩
theorem has_no (a l x : Int) (w : World) (ha0 : 0 ≤ a) (ha1 : a < 4294967296) (hm : mayB a l = false) :
    Calls Try.prog 28 #[.agg #[.int .u32 a, .int .i64 l], .int .u32 x] w fun e w' => e = .returned (.bool (hasB a l x)) ∧ Below w.heap.size w w' := by
  have HM : Hid (hasB a l x = false) := by unfold Hid hasB; rw [hm]; rfl
  have k0 := cell2_regrown w (.int .u32 a) (.int .i64 l) 24
  obtain ⟨k0, k1⟩ := k0
  go_enter Try.func28, Try.ntmps28
  go_wp2
  refine wp_region_quiet_below (by kernel_rfl) (by kernel_rfl) ?_
  repeat (go_big_quiet_step ((go_at_call 45; exact Calls.regrown_of (may_any _ _ _ ha0 ha1 hm))))
  refine wpQuiet_nil ?_
  intro _ hw'
  obtain ⟨⟨dq, osq⟩, hw''⟩ := hw'
  subst hw''
  go_wp2
  go_ret
  exact ⟨ret_bool HM.out.symm, (below1 _ _).trans ((below_regrown _ dq osq).mono (by simp))⟩
theorem has_any (a l x : Int) (w : World) (ha0 : 0 ≤ a) (ha1 : a < 4294967296) (hx0 : 0 ≤ x) (hx1 : x < 4294967296) {v : Bool} (hv : hasB a l x = v) :
    Calls Try.prog 28 #[.agg #[.int .u32 a, .int .i64 l], .int .u32 x] w fun e w' => e = .returned (.bool v) ∧ Below w.heap.size w w' := by
  subst hv
  cases hm : mayB a l
  · exact has_no a l x w ha0 ha1 hm
  · exact has_yes a l x w ha0 ha1 hx0 hx1 hm
theorem refHas_any (a l x : Int) (w : World) (ha0 : 0 ≤ a) (ha1 : a < 4294967296) (hx0 : 0 ≤ x) (hx1 : x < 4294967296) (hl0 : -9223372036854775808 ≤ l) (hl1 : l ≤ 9223372036854775807) {v : Bool} (hv : hasB a l x = v) :
    Calls Try.prog 44 #[.agg #[.int .u32 a, .int .i64 l], .int .u32 x] w fun e w' => e = .returned (.bool v) ∧ Below w.heap.size w w' := by
  subst hv
  cases hm : mayB a l
  · have HM : Hid (hasB a l x = false) := by unfold Hid hasB; rw [hm]; rfl
    go_enter Try.func44, Try.ntmps44
    go_wp2_with (go_at_call 30; refine (refMay_any _ _ _ ha0 ha1 hl0 hl1 hm).mono ?_; rintro e w' ⟨rfl, hb⟩)
    go_quiet (fail)
    go_wp2
    go_ret
    exact ⟨ret_bool HM.out.symm, below_drewN ((below1 _ _).trans (hb.mono (by simp))) _⟩
  · have hl := may_len hm
    have e1 : maskV l = mkI l.toNat := by unfold maskV; rw [cl_of hl.1 hl.2]
    have e2 := u32_andM x l.toNat hx0 hx1 (by omega)
    have HM : Hid (hasB a l x = (andM x l.toNat == a)) := by unfold Hid hasB; rw [hm]; rfl
    go_enter Try.func44, Try.ntmps44
    go_wp2_with (go_at_call 30; refine (refMay_any _ _ _ ha0 ha1 hl0 hl1 hm).mono ?_; rintro e w' ⟨rfl, hb⟩; obtain ⟨hc, hf⟩ := bcell hb)
    go_quiet ((go_at_call 47; exact Calls.quiet_of_same (refMask_any _ _ hl0 hl1)))
    go_wp2
    go_ret
    exact ⟨ret_bool HM.out.symm, below_drewN ((below1 _ _).trans (hb.mono (by simp))) _⟩
theorem refLess_any (a l a' l' : Int) (w : World) {v : Bool} (hv : lessB a l a' l' = v) :
    Calls Try.prog 54 #[.agg #[.int .u32 a, .int .i64 l], .agg #[.int .u32 a', .int .i64 l']] w fun e w' => e = .returned (.bool v) ∧ Below w.heap.size w w' := by
  subst hv
  by_cases h0 : a < a'
  · have HM : Hid (lessB a l a' l' = true) := by unfold Hid lessB; simp [h0]
    have hd : decide (a < a') = true := by simp [h0]
    go_enter Try.func54, Try.ntmps54
    go_wp2
    go_ret
    exact ⟨ret_bool HM.out.symm, below2 _ _ _⟩
  · by_cases h : a = a'
    · have hb : (a == a') = true := by simp [h]
      have hd : decide (a < a') = false := by simpa using h0
      have HM : Hid (lessB a l a' l' = decide (l < l')) := by unfold Hid lessB; simp [h]
      clear h
      go_enter Try.func54, Try.ntmps54
      go_wp2
      go_ret
      exact ⟨ret_bool HM.out.symm, below2 _ _ _⟩
    · have hb : (a == a') = false := by simp [h]
      have hd : decide (a < a') = false := by simpa using h0
      have HM : Hid (lessB a l a' l' = false) := by unfold Hid lessB; simp [h, h0]
      clear h
      go_enter Try.func54, Try.ntmps54
      go_wp2
      go_ret
      exact ⟨ret_bool HM.out.symm, below2 _ _ _⟩
theorem Below.out3 {w w' : World} {o o' o'' : Obj} (h : Below (((w.alloc o).alloc o').alloc o'').heap.size (((w.alloc o).alloc o').alloc o'') w') : Below w.heap.size w w' := (below3 w o o' o'').trans (h.mono (by simp; omega))
theorem later2 {W W' : World} {N : Nat} {a l : Value} (h : W.cell? ⟨N, 0, none⟩ = some a ∧ W.cell? ⟨N, 1, none⟩ = some l ∧ N < W.heap.size) (hb : Below W.heap.size W W') :
    W'.cell? ⟨N, 0, none⟩ = some a ∧ W'.cell? ⟨N, 1, none⟩ = some l ∧ N < W'.heap.size :=
  ⟨(hb.cell h.2.2).trans h.1, (hb.cell h.2.2).trans h.2.1, Nat.lt_of_lt_of_le h.2.2 hb.size⟩
theorem alloc2 {W : World} {N : Nat} {a l : Value} (h : W.cell? ⟨N, 0, none⟩ = some a ∧ W.cell? ⟨N, 1, none⟩ = some l ∧ N < W.heap.size) (o : Obj) :
    (W.alloc o).cell? ⟨N, 0, none⟩ = some a ∧ (W.alloc o).cell? ⟨N, 1, none⟩ = some l ∧ N < (W.alloc o).heap.size := later2 h (below1 W o)
theorem new2 (W : World) (a l : Value) (t : TypeId) :
    (W.alloc (.cells #[a, l] t)).cell? ⟨W.heap.size, 0, none⟩ = some a ∧ (W.alloc (.cells #[a, l] t)).cell? ⟨W.heap.size, 1, none⟩ = some l ∧ W.heap.size < (W.alloc (.cells #[a, l] t)).heap.size :=
  ⟨by simp [go_sem], by simp [go_sem], by simp⟩
theorem stp {w0 wi w' : World} (hB : Below w0.heap.size w0 wi) (hb : Below wi.heap.size wi w') : Below w0.heap.size w0 w' := hB.trans (hb.mono hB.size)
theorem stp1 {w0 wi w' : World} {o : Obj} (hB : Below w0.heap.size w0 wi) (hb : Below (wi.alloc o).heap.size (wi.alloc o) w') : Below w0.heap.size w0 w' := stp (stp hB (below1 wi o)) hb
theorem high {a i : Nat} (ha : a < 65536) (hi : 16 ≤ i) : a.testBit i = false :=
  Nat.testBit_lt_two_pow (Nat.lt_of_lt_of_le ha (Nat.pow_le_pow_right (n := 2) (by omega) hi))
theorem cnt_le (k t : Nat) : cnt k t ≤ k := by
  induction k with
  | zero => simp [cnt]
  | succ k ih => have := Bool.toNat_le (t.testBit k); simp only [cnt]; omega
theorem dep_le (t : Nat) : dep t ≤ 16 := cnt_le 16 t
theorem cnt_low (k t : Nat) : cnt (k + 1) t = t % 2 + cnt k (t / 2) := by
  induction k with
  | zero =>
    simp only [cnt, Nat.testBit_zero]
    rcases Nat.mod_two_eq_zero_or_one t with h | h <;> simp [h]
  | succ k ih =>
    have e : cnt (k + 1 + 1) t = cnt (k + 1) t + (t.testBit (k + 1)).toNat := rfl
    have e2 : cnt (k + 1) (t / 2) = cnt k (t / 2) + ((t / 2).testBit k).toNat := rfl
    rw [e, e2, ih, Nat.testBit_succ]
    omega
theorem dep_low {t : Nat} (h : t < 65536) : dep t = t % 2 + dep (t / 2) := by
  have e := cnt_low 16 t
  have e2 : cnt (16 + 1) t = dep t + (t.testBit 16).toNat := rfl
  rw [high h (Nat.le_refl _)] at e2
  have e3 : cnt (16 + 1) t = dep t := by simpa using e2
  rw [← e3, e]
  rfl
theorem dep_zero : dep 0 = 0 := by decide
def depJ (t : Nat) (w : World) (a' : Act) (w' : World) : Prop :=
  w' = w ∧ ∃ (x c : Nat) (u1 u4 u5 u6 u7 u8 u9 u10 u11 u12 u13 : Value), a' = { tmps := #[.int .u16 (x : Int), u1, .int .i64 0, .int .i64 (c : Int), u4, u5, u6, u7, u8, u9, u10, u11, u12, u13], defers := [] } ∧ x < 65536 ∧ 0 < x ∧ c + dep x = dep t
theorem and_one {x : Nat} (hx : x < 65536) : bits .and .u16 (x : Int) 1 = ((x % 2 : Nat) : Int) := by
  have := u16_and_nat x 1 hx (by omega)
  rw [Nat.and_one_is_mod] at this
  exact this
theorem depth_any (t : Nat) (w : World) (ht : t < 65536) :
    Calls Try.prog 29 #[.int .u16 (t : Int)] w fun e w' => e = .returned (.int .i64 (dep t : Int)) ∧ w' = w := by
  have hle := dep_le t
  have hlow := dep_low ht
  go_enter Try.func29, Try.ntmps29
  go_wp2
  refine wp_scope_jumps 0 (depJ t w) (fun a' _ => (intOf (a'.tmps.getD 0 undef)).toNat) rfl ?_ ?_
  · have ha := and_one ht
    by_cases h2 : t / 2 = 0
    · have hb : ((t : Int) / 2 != 0) = false := by rw [bne_eq_false_iff_eq]; omega
      have HE : Hid (((t % 2 : Nat) : Int) = (dep t : Int)) := by unfold Hid; rw [hlow, h2, dep_zero]; rfl
      clear hlow hle h2
      go_wp2
      go_step3
      go_wp2
      simp only [Exit.jump]
      go_ret
      exact ⟨ret_int HE.out, rfl⟩
    · have hb : ((t : Int) / 2 != 0) = true := by rw [bne_iff_ne]; omega
      have HE : Hid (t % 2 + dep (t / 2) = dep t) := hlow.symm
      have h3 : 0 < t / 2 := by omega
      clear hlow hle
      go_wp2
      go_step3
      go_wp2
      go_step3
      exact ⟨rfl, rfl, t / 2, t % 2, _, _, _, _, _, _, _, _, _, _, _, rfl, by omega, h3, HE.out⟩
  · rintro a' w' ⟨rfl, x, c, u1, u4, u5, u6, u7, u8, u9, u10, u11, u12, u13, rfl, hx, hx0, hc⟩
    have ha := and_one hx
    have hlx := dep_low hx
    have hcc : c ≤ 16 := by omega
    by_cases h2 : x / 2 = 0
    · have hb : ((x : Int) / 2 != 0) = false := by rw [bne_eq_false_iff_eq]; omega
      have HE : Hid ((c : Int) + ((x % 2 : Nat) : Int) = (dep t : Int)) := by unfold Hid; rw [← hc, hlx, h2, dep_zero]; omega
      clear hlow hle h2 hc hlx
      go_wp2
      simp only [Exit.jump]
      go_ret
      exact ⟨ret_int HE.out, rfl⟩
    · have hb : ((x : Int) / 2 != 0) = true := by rw [bne_iff_ne]; omega
      have h3 : 0 < x / 2 := by omega
      have HE : Hid (c + x % 2 + dep (x / 2) = dep t) := by unfold Hid; omega
      clear hlow hle hc hlx
      go_wp2
      go_step3
      refine ⟨rfl, ⟨rfl, x / 2, c + x % 2, _, _, _, _, _, _, _, _, _, _, _, rfl, by omega, h3, HE.out⟩, ?_⟩
      simp [intOf]; omega
theorem refDepth_any (t : Nat) (w : World) (ht : t < 65536) :
    Calls Try.prog 32 #[.int .u16 (t : Int)] w fun e w' => e = .returned (.int .i64 (dep t : Int)) ∧ w' = w := by
  have hle := dep_le t
  go_enter Try.func32, Try.ntmps32
  go_wp2
  go_loop [3, 4] (fun n x => ∃ k c : Nat, k < 65536 ∧ x = .int .i64 k ∧ n = .int .i64 c ∧ c ≤ 16 ∧ Hid (c + dep k = dep t)) (fun _ x => (intOf x).toNat)
  case atStart => exact ⟨t, 0, ht, by go_num, rfl, by omega, by unfold Hid; omega⟩
  case round =>
    obtain ⟨k, c, hk, rfl, rfl, hc16, hc⟩ := hrel
    have hlk := dep_low hk
    by_cases h0 : 0 < k
    · have HE : Hid (c + k % 2 + dep (k / 2) = dep t) := by have := hc.out; unfold Hid; omega
      have h4 : c + k % 2 ≤ 16 := by have := HE.out; omega
      clear hc hlk hle
      go_wp2
      go_round
      case rel => exact ⟨k / 2, c + k % 2, by omega, by go_num, by go_num, h4, HE⟩
      case measure => simp [intOf]; omega
    · obtain rfl : k = 0 := by omega
      have HE : Hid ((c : Int) = (dep t : Int)) := by have := hc.out; rw [dep_zero] at this; unfold Hid; omega
      clear hc hlk hle
      go_wp2
      go_ret
      exact ⟨ret_int HE.out, rfl⟩
end Go.Proofs.Ytcabeclbdjfoaaa
