/- Contracts of the document's prefixes and tags. -/
import Derived.Test.YtmmhnpekbfmonaaChecked
import Derived.Test.YtmmhnpekbfmonaaFilM
import Derived.WalkKit
import Derived.ProofKit
import Derived.OpenShut
import Derived.LoopTactic
import Derived.Handy
import Derived.WalkMore
import Derived.WalkSpells
import Derived.ScopeJumps
import Derived.Deep.OwnRows
import Derived.Deep.QuietTactic
import Derived.BigQuiet
import Derived.Deep.RegionHeld3
import Derived.Deep.RegionWith
import Derived.Lib.QuietBelow
import Derived.Maps.AppendAt
import Derived.Deep.AppendLies
namespace Go.Proofs.Ytmmhnpekbfmonaa
open Go.RowKit
theorem ret_bool {a b : Bool} (h : a = b) : Ending.returned (.bool a) = .returned (.bool b) := by rw [h]
theorem ret_int {k : IntKind} {a b : Int} (h : a = b) : Ending.returned (.int k a) = .returned (.int k b) := by rw [h]
theorem refMask_any (b : Int) (w : World) (hb0 : -9223372036854775808 ≤ b) (hb1 : b ≤ 9223372036854775807) :
    Calls Try.prog 22 #[.int .i64 b] w fun e w' => e = .returned (.int .u32 (maskV b)) ∧ w' = w := by
  have HC : Hid (cl b = (min (max b 0) 32).toNat) := rfl
  go_enter Try.func22, Try.ntmps22
  go_wp2
  go_loop [3, 4, 5] (fun n o i => ∃ k : Nat, k ≤ cl b ∧ i = .int .i64 k ∧ n = .int .u32 (mkI k) ∧ o = .int .u32 (oneI k)) (fun _ _ i => 32 - (intOf i).toNat)
  case atStart => exact ⟨0, Nat.zero_le _, rfl, by rw [show mkI 0 = 0 from by decide], by rw [show oneI 0 = 2147483648 from by decide]⟩
  case round =>
    obtain ⟨k, hk, rfl, rfl, rfl⟩ := hrel
    have hc := HC.out
    by_cases hlt : k < cl b
    · have h1 : (k : Int) < b := by omega
      have h2 : (k : Int) < 32 := by omega
      have hm := mkI_bd k
      have hm1 := mkI_bd (k + 1)
      have ha := mkI_all k (by omega)
      have ho := oneI_all k (by omega)
      have HN : Hid (mkI (k + 1) = mkI k + oneI k) := ha
      have HO : Hid (oneI (k + 1) = oneI k / 2) := ho.1
      obtain ⟨_, ho0, ho1⟩ := ho
      have hs : mkI k + oneI k < 4294967296 := by omega
      clear ha hc hm1
      go_wp2
      go_round
      case rel => exact ⟨k + 1, by omega, by go_num, by rw [HN.out]; try go_num, by rw [HO.out]; try go_num⟩
      case measure => simp [intOf]; omega
    · obtain rfl : k = cl b := by omega
      have hd : ¬ ((cl b : Int) < b) ∨ ¬ ((cl b : Int) < 32) := by omega
      clear hc
      by_cases h1 : (cl b : Int) < b
      · have h2 : ¬ ((cl b : Int) < 32) := by omega
        clear hd
        go_wp2
        go_ret
        exact ⟨rfl, rfl⟩
      · clear hd
        go_wp2
        go_ret
        exact ⟨rfl, rfl⟩
theorem bcell {W w1 : World} (hb : Below W.heap.size W w1) : (∀ b o, b < W.heap.size → w1.cell? ⟨b, o, none⟩ = W.cell? ⟨b, o, none⟩) ∧ (∀ b o, b < W.heap.size → w1.frozen? ⟨b, o, none⟩ = W.frozen? ⟨b, o, none⟩) :=
  ⟨fun b o h => hb.cell (p := ⟨b, o, none⟩) h, fun b o h => hb.frozen (p := ⟨b, o, none⟩) h⟩
theorem below_drewN {B : Nat} {a w : World} (h : Below B a w) (n : Nat) : Below B a (w.drewN n) :=
  h.trans ⟨rfl, rfl, rfl, Nat.le_refl _, fun _ _ => rfl⟩
theorem below1 (w : World) (o : Obj) : Below w.heap.size w (w.alloc o) := (Below.refl _ _).alloc (Nat.le_refl _) _
theorem below2 (w : World) (o o' : Obj) : Below w.heap.size w ((w.alloc o).alloc o') := (below1 w o).alloc (by simp) _
theorem below3 (w : World) (o o' o'' : Obj) : Below w.heap.size w (((w.alloc o).alloc o').alloc o'') := (below2 w o o').alloc (by simp; omega) _
theorem Below.out1 {w w' : World} {o : Obj} (h : Below (w.alloc o).heap.size (w.alloc o) w') : Below w.heap.size w w' := (below1 w o).trans (h.mono (by simp))
theorem Below.out2 {w w' : World} {o o' : Obj} (h : Below ((w.alloc o).alloc o').heap.size ((w.alloc o).alloc o') w') : Below w.heap.size w w' := (below2 w o o').trans (h.mono (by simp; omega))
theorem refMay_any (a l : Int) (w : World) (ha0 : 0 ≤ a) (ha1 : a < 4294967296) (hl0 : -9223372036854775808 ≤ l) (hl1 : l ≤ 9223372036854775807) {v : Bool} (hv : mayB a l = v) :
    Calls Try.prog 17 #[.agg #[.int .u32 a, .int .i64 l]] w fun e w' => e = .returned (.bool v) ∧ Below w.heap.size w w' := by
  subst hv
  by_cases h0 : 0 ≤ l
  · by_cases h1 : l ≤ 32
    · have e1 : maskV l = mkI l.toNat := by unfold maskV; rw [cl_of h0 h1]
      have e2 := u32_andM a l.toNat ha0 ha1 (by omega)
      have HM : Hid (mayB a l = (andM a l.toNat == a)) := by unfold Hid mayB; rw [Bool.eq_iff_iff]; simp [h0, h1]
      go_enter Try.func17, Try.ntmps17
      go_wp2
      go_quiet ((first
        | (go_at_call 22; exact Calls.quiet_of_same (refMask_any _ _ hl0 hl1))))
      go_wp2
      go_ret
      exact ⟨ret_bool HM.out.symm, below_drewN (below1 _ _) _⟩
    · have h1' : decide (l ≤ 32) = false := by simpa using h1
      have HM : Hid (mayB a l = false) := by unfold Hid mayB; rw [decide_eq_false_iff_not]; exact fun k => h1 k.2.1
      go_enter Try.func17, Try.ntmps17
      go_wp2
      go_quiet (fail)
      go_wp2
      go_ret
      exact ⟨ret_bool HM.out.symm, below_drewN (below1 _ _) _⟩
  · have h0' : decide (0 ≤ l) = false := by simpa using h0
    have HM : Hid (mayB a l = false) := by unfold Hid mayB; rw [decide_eq_false_iff_not]; exact fun k => h0 k.1
    go_enter Try.func17, Try.ntmps17
    go_wp2
    go_quiet (fail)
    go_wp2
    go_ret
    exact ⟨ret_bool HM.out.symm, below_drewN (below1 _ _) _⟩
theorem may_len {a l : Int} (h : mayB a l = true) : 0 ≤ l ∧ l ≤ 32 := by rw [mayB, decide_eq_true_eq] at h; exact ⟨h.1, h.2.1⟩
theorem cell2_regrown (w : World) (a b : Value) (t : TypeId) :
    (∀ d os, (Sort.grow (redrawn (w.alloc (.cells #[a, b] t)) d) os).cell? ⟨w.heap.size, 0, none⟩ = some a) ∧ (∀ d os, (Sort.grow (redrawn (w.alloc (.cells #[a, b] t)) d) os).cell? ⟨w.heap.size, 1, none⟩ = some b) :=
  ⟨cell_regrown (by simp [go_sem]), cell_regrown (by simp [go_sem])⟩
theorem refHas_any (a l x : Int) (w : World) (ha0 : 0 ≤ a) (ha1 : a < 4294967296) (hx0 : 0 ≤ x) (hx1 : x < 4294967296) (hl0 : -9223372036854775808 ≤ l) (hl1 : l ≤ 9223372036854775807) {v : Bool} (hv : hasB a l x = v) :
    Calls Try.prog 25 #[.agg #[.int .u32 a, .int .i64 l], .int .u32 x] w fun e w' => e = .returned (.bool v) ∧ Below w.heap.size w w' := by
  subst hv
  cases hm : mayB a l
  · have HM : Hid (hasB a l x = false) := by unfold Hid hasB; rw [hm]; rfl
    go_enter Try.func25, Try.ntmps25
    go_wp2_with (go_at_call 17; refine (refMay_any _ _ _ ha0 ha1 hl0 hl1 hm).mono ?_; rintro e w' ⟨rfl, hb⟩)
    go_quiet (fail)
    go_wp2
    go_ret
    exact ⟨ret_bool HM.out.symm, below_drewN ((below1 _ _).trans (hb.mono (by simp))) _⟩
  · have hl := may_len hm
    have e1 : maskV l = mkI l.toNat := by unfold maskV; rw [cl_of hl.1 hl.2]
    have e2 := u32_andM x l.toNat hx0 hx1 (by omega)
    have HM : Hid (hasB a l x = (andM x l.toNat == a)) := by unfold Hid hasB; rw [hm]; rfl
    go_enter Try.func25, Try.ntmps25
    go_wp2_with (go_at_call 17; refine (refMay_any _ _ _ ha0 ha1 hl0 hl1 hm).mono ?_; rintro e w' ⟨rfl, hb⟩; obtain ⟨hc, hf⟩ := bcell hb)
    go_quiet ((go_at_call 22; exact Calls.quiet_of_same (refMask_any _ _ hl0 hl1)))
    go_wp2
    go_ret
    exact ⟨ret_bool HM.out.symm, below_drewN ((below1 _ _).trans (hb.mono (by simp))) _⟩
theorem refCovers_any (a l a' l' : Int) (w : World) (ha0 : 0 ≤ a) (ha1 : a < 4294967296) (hb0 : 0 ≤ a') (hb1 : a' < 4294967296) (hl0 : -9223372036854775808 ≤ l) (hl1 : l ≤ 9223372036854775807) (hk0 : -9223372036854775808 ≤ l') (hk1 : l' ≤ 9223372036854775807) {v : Bool} (hv : coversB a l a' l' = v) :
    Calls Try.prog 20 #[.agg #[.int .u32 a, .int .i64 l], .agg #[.int .u32 a', .int .i64 l']] w fun e w' => e = .returned (.bool v) ∧ Below w.heap.size w w' := by
  subst hv
  cases hm : mayB a' l'
  all_goals cases hh : hasB a l a'
  all_goals by_cases hl : l ≤ l'
  all_goals
    have HM : Hid (coversB a l a' l' = (mayB a' l' && hasB a l a' && decide (l ≤ l'))) := by unfold Hid coversB; rw [hm, hh]; simp
    rw [hm, hh] at HM
    go_enter Try.func20, Try.ntmps20
    go_wp2_with (first
      | (go_at_call 17; refine (refMay_any _ _ _ hb0 hb1 hk0 hk1 hm).mono ?_; rintro e w' ⟨rfl, hb⟩; obtain ⟨hc, hf⟩ := bcell hb)
      | (go_at_call 25; refine (refHas_any _ _ _ _ ha0 ha1 hb0 hb1 hl0 hl1 hh).mono ?_; rintro e w'' ⟨rfl, hb'⟩; obtain ⟨hc', hf'⟩ := bcell hb'; have hz : w.heap.size + 1 < w'.heap.size := (by have := hb.size; simp at this; omega); have hz2 : w.heap.size < w'.heap.size := (by omega)))
    go_ret
    exact ⟨ret_bool (by rw [HM.out]; simp [hl]), (Below.out2 hb).trans (hb'.mono (Below.out2 hb).size)⟩
theorem Below.out3 {w w' : World} {o o' o'' : Obj} (h : Below (((w.alloc o).alloc o').alloc o'').heap.size (((w.alloc o).alloc o').alloc o'') w') : Below w.heap.size w w' := (below3 w o o' o'').trans (h.mono (by simp; omega))
theorem later2 {W W' : World} {N : Nat} {a l : Value} (h : W.cell? ⟨N, 0, none⟩ = some a ∧ W.cell? ⟨N, 1, none⟩ = some l ∧ N < W.heap.size) (hb : Below W.heap.size W W') :
    W'.cell? ⟨N, 0, none⟩ = some a ∧ W'.cell? ⟨N, 1, none⟩ = some l ∧ N < W'.heap.size :=
  ⟨(hb.cell h.2.2).trans h.1, (hb.cell h.2.2).trans h.2.1, Nat.lt_of_lt_of_le h.2.2 hb.size⟩
theorem alloc2 {W : World} {N : Nat} {a l : Value} (h : W.cell? ⟨N, 0, none⟩ = some a ∧ W.cell? ⟨N, 1, none⟩ = some l ∧ N < W.heap.size) (o : Obj) :
    (W.alloc o).cell? ⟨N, 0, none⟩ = some a ∧ (W.alloc o).cell? ⟨N, 1, none⟩ = some l ∧ N < (W.alloc o).heap.size := later2 h (below1 W o)
theorem new2 (W : World) (a l : Value) (t : TypeId) :
    (W.alloc (.cells #[a, l] t)).cell? ⟨W.heap.size, 0, none⟩ = some a ∧ (W.alloc (.cells #[a, l] t)).cell? ⟨W.heap.size, 1, none⟩ = some l ∧ W.heap.size < (W.alloc (.cells #[a, l] t)).heap.size :=
  ⟨by simp [go_sem], by simp [go_sem], by simp⟩
theorem stp {w0 wi w' : World} (hB : Below w0.heap.size w0 wi) (hb : Below wi.heap.size wi w') : Below w0.heap.size w0 w' := hB.trans (hb.mono hB.size)
theorem stp1 {w0 wi w' : World} {o : Obj} (hB : Below w0.heap.size w0 wi) (hb : Below (wi.alloc o).heap.size (wi.alloc o) w') : Below w0.heap.size w0 w' := stp (stp hB (below1 wi o)) hb
theorem refIs_any (d : Int) (w : World) {v : Bool} (hv : domB d = v) :
    Calls Try.prog 26 #[.int .i64 d] w fun e w' => e = .returned (.bool v) ∧ w' = w := by
  subst hv
  by_cases h0 : 0 ≤ d <;> by_cases h1 : d < 16
  all_goals
    go_enter Try.func26, Try.ntmps26
    go_wp2
    go_ret
    exact ⟨ret_bool (by simp [domB, h0, h1]), rfl⟩
theorem refBit_any (n p : Nat) (w : World) (hn : n < 16) (hp : p = 2 ^ n) :
    Calls Try.prog 27 #[.int .i64 (n : Int)] w fun e w' => e = .returned (.int .i64 (p : Int)) ∧ w' = w := by
  go_enter Try.func27, Try.ntmps27
  go_wp2
  go_loop [3, 4] (fun m i => ∃ k q : Nat, k ≤ n ∧ i = .int .i64 k ∧ m = .int .i64 q ∧ Hid (q = 2 ^ k)) (fun _ i => n - (intOf i).toNat)
  case atStart => exact ⟨0, 1, by omega, rfl, rfl, rfl⟩
  case round =>
    obtain ⟨k, q, hk, rfl, rfl, hq⟩ := hrel
    by_cases hlt : k < n
    · have hb := pow_bd (n := k) (by omega)
      rw [← hq.out] at hb
      have hq2 : Hid (2 * q = 2 ^ (k + 1)) := by unfold Hid; rw [hq.out, Nat.pow_succ]; omega
      clear hp hq
      go_wp2
      go_round
      case rel => exact ⟨k + 1, 2 * q, by omega, by go_num, by go_num, hq2⟩
      case measure => simp [intOf]; omega
    · obtain rfl : k = n := by omega
      have HE : Hid (q = p) := hq.out.trans hp.symm
      clear hp hq
      go_wp2
      go_ret
      exact ⟨by rw [HE.out]; rfl, rfl⟩
theorem refHasT_any (t : Nat) (d : Int) (w : World) (ht : t < 65536) {v : Bool} (hv : hasT t d = v) :
    Calls Try.prog 21 #[.int .u16 (t : Int), .int .i64 d] w fun e w' => e = .returned (.bool v) ∧ w' = w := by
  cases hd : domB d
  · obtain rfl : v = false := by rw [← hv]; simp [hasT, hd]
    clear hv
    go_enter Try.func21, Try.ntmps21
    go_wp2_with (go_at_call 26; refine (refIs_any _ _ hd).mono ?_; rintro e w' ⟨rfl, rfl⟩)
    go_ret
    exact ⟨rfl, rfl⟩
  · have h01 := domB_iff.1 hd
    obtain ⟨n, rfl⟩ := Int.eq_ofNat_of_zero_le h01.1
    have hn : n < 16 := by omega
    obtain ⟨p, hp⟩ : ∃ p, p = 2 ^ n := ⟨_, rfl⟩
    have hb := pow_bd hn
    rw [← hp] at hb
    have hq : ((t : Int) / (p : Int) % 2 == 1) = v := by
      rw [← hv]
      have := bit_div t n
      rw [← hp] at this
      simp only [hasT, hd, Bool.true_and, Int.toNat_natCast]
      rw [← this, Bool.eq_iff_iff]
      simp
      omega
    have hz : 0 ≤ (t : Int) / (p : Int) ∧ (t : Int) / (p : Int) < 65536 := by
      have h1 := Int.ediv_nonneg (a := (t : Int)) (b := (p : Int)) (by omega) (by omega)
      have h2 := Int.ediv_le_self (a := (t : Int)) (p : Int) (by omega)
      omega
    have HP : Hid (p = 2 ^ n) := hp
    clear hp hv h01
    go_enter Try.func21, Try.ntmps21
    go_wp2_with (first
      | (go_at_call 26; refine (refIs_any _ _ hd).mono ?_; rintro e w' ⟨rfl, rfl⟩)
      | (go_at_call 27; refine (refBit_any n p _ hn HP.out).mono ?_; rintro e w' ⟨rfl, rfl⟩))
    go_ret
    exact ⟨rfl, rfl⟩
end Go.Proofs.Ytmmhnpekbfmonaa
