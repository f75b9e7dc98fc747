/- Contracts of the document's numbers, prefixes and vectors. -/
import Derived.Test.YtnlgdkbpolckcaaChecked
import Derived.Test.YtnlgdkbpolckcaaMatF
import Derived.WalkKit
import Derived.ProofKit
import Derived.OpenShut
import Derived.LoopTactic
import Derived.Handy
import Derived.WalkMore
import Derived.Deep.OwnRows
import Derived.Deep.QuietTactic
import Derived.BigQuiet
import Derived.Deep.RegionHeld3
import Derived.Deep.RegionWith
namespace Go.Proofs.Ytnlgdkbpolckcaa
open Go.RowKit
theorem ret_bool {a b : Bool} (h : a = b) : Ending.returned (.bool a) = .returned (.bool b) := by rw [h]
theorem ret_int {k : IntKind} {a b : Int} (h : a = b) : Ending.returned (.int k a) = .returned (.int k b) := by rw [h]
theorem refMask_any (b : Int) (w : World) (hb0 : -9223372036854775808 ≤ b) (hb1 : b ≤ 9223372036854775807) :
    Calls Try.prog 41 #[.int .i64 b] w fun e w' => e = .returned (.int .u32 (maskV b)) ∧ w' = w := by
  have HC : Hid (cl b = (min (max b 0) 32).toNat) := rfl
  go_enter Try.func41, Try.ntmps41
  go_wp2
  go_loop [3, 4, 5] (fun n o i => ∃ k : Nat, k ≤ cl b ∧ i = .int .i64 k ∧ n = .int .u32 (mkI k) ∧ o = .int .u32 (oneI k)) (fun _ _ i => 32 - (intOf i).toNat)
  case atStart => exact ⟨0, Nat.zero_le _, rfl, by rw [show mkI 0 = 0 from by decide], by rw [show oneI 0 = 2147483648 from by decide]⟩
  case round =>
    obtain ⟨k, hk, rfl, rfl, rfl⟩ := hrel
    have hc := HC.out
    by_cases hlt : k < cl b
    · have h1 : (k : Int) < b := by omega
      have h2 : (k : Int) < 32 := by omega
      have hm := mkI_bd k
      have hm1 := mkI_bd (k + 1)
      have ha := mkI_all k (by omega)
      have ho := oneI_all k (by omega)
      have HN : Hid (mkI (k + 1) = mkI k + oneI k) := ha
      have HO : Hid (oneI (k + 1) = oneI k / 2) := ho.1
      obtain ⟨_, ho0, ho1⟩ := ho
      have hs : mkI k + oneI k < 4294967296 := by omega
      clear ha hc hm1
      go_wp2
      go_round
      case rel => exact ⟨k + 1, by omega, by go_num, by rw [HN.out]; try go_num, by rw [HO.out]; try go_num⟩
      case measure => simp [intOf]; omega
    · obtain rfl : k = cl b := by omega
      have hd : ¬ ((cl b : Int) < b) ∨ ¬ ((cl b : Int) < 32) := by omega
      clear hc
      by_cases h1 : (cl b : Int) < b
      · have h2 : ¬ ((cl b : Int) < 32) := by omega
        clear hd
        go_wp2
        go_ret
        exact ⟨rfl, rfl⟩
      · clear hd
        go_wp2
        go_ret
        exact ⟨rfl, rfl⟩
theorem bcell {W w1 : World} (hb : Below W.heap.size W w1) : (∀ b o, b < W.heap.size → w1.cell? ⟨b, o, none⟩ = W.cell? ⟨b, o, none⟩) ∧ (∀ b o, b < W.heap.size → w1.frozen? ⟨b, o, none⟩ = W.frozen? ⟨b, o, none⟩) :=
  ⟨fun b o h => hb.cell (p := ⟨b, o, none⟩) h, fun b o h => hb.frozen (p := ⟨b, o, none⟩) h⟩
theorem below_drewN {B : Nat} {a w : World} (h : Below B a w) (n : Nat) : Below B a (w.drewN n) :=
  h.trans ⟨rfl, rfl, rfl, Nat.le_refl _, fun _ _ => rfl⟩
theorem below1 (w : World) (o : Obj) : Below w.heap.size w (w.alloc o) := (Below.refl _ _).alloc (Nat.le_refl _) _
theorem below2 (w : World) (o o' : Obj) : Below w.heap.size w ((w.alloc o).alloc o') := (below1 w o).alloc (by simp) _
theorem below3 (w : World) (o o' o'' : Obj) : Below w.heap.size w (((w.alloc o).alloc o').alloc o'') := (below2 w o o').alloc (by simp; omega) _
/-- What a call left that was handed a world with one block more. -/
theorem Below.out1 {w w' : World} {o : Obj} (h : Below (w.alloc o).heap.size (w.alloc o) w') : Below w.heap.size w w' := (below1 w o).trans (h.mono (by simp))
theorem Below.out2 {w w' : World} {o o' : Obj} (h : Below ((w.alloc o).alloc o').heap.size ((w.alloc o).alloc o') w') : Below w.heap.size w w' := (below2 w o o').trans (h.mono (by simp; omega))
theorem refMay_any (a l : Int) (w : World) (ha0 : 0 ≤ a) (ha1 : a < 4294967296) (hl0 : -9223372036854775808 ≤ l) (hl1 : l ≤ 9223372036854775807) {v : Bool} (hv : mayB a l = v) :
    Calls Try.prog 33 #[.agg #[.int .u32 a, .int .i64 l]] w fun e w' => e = .returned (.bool v) ∧ Below w.heap.size w w' := by
  subst hv
  by_cases h0 : 0 ≤ l
  · by_cases h1 : l ≤ 32
    · have e1 : maskV l = mkI l.toNat := by unfold maskV; rw [cl_of h0 h1]
      have e2 := u32_andM a l.toNat ha0 ha1 (by omega)
      have HM : Hid (mayB a l = (andM a l.toNat == a)) := by unfold Hid mayB; rw [Bool.eq_iff_iff]; simp [h0, h1]
      go_enter Try.func33, Try.ntmps33
      go_wp2
      go_quiet ((first
        | (go_at_call 41; exact Calls.quiet_of_same (refMask_any _ _ hl0 hl1))))
      go_wp2
      go_ret
      exact ⟨ret_bool HM.out.symm, below_drewN (below1 _ _) _⟩
    · have h1' : decide (l ≤ 32) = false := by simpa using h1
      have HM : Hid (mayB a l = false) := by unfold Hid mayB; rw [decide_eq_false_iff_not]; exact fun k => h1 k.2.1
      go_enter Try.func33, Try.ntmps33
      go_wp2
      go_quiet (fail)
      go_wp2
      go_ret
      exact ⟨ret_bool HM.out.symm, below_drewN (below1 _ _) _⟩
  · have h0' : decide (0 ≤ l) = false := by simpa using h0
    have HM : Hid (mayB a l = false) := by unfold Hid mayB; rw [decide_eq_false_iff_not]; exact fun k => h0 k.1
    go_enter Try.func33, Try.ntmps33
    go_wp2
    go_quiet (fail)
    go_wp2
    go_ret
    exact ⟨ret_bool HM.out.symm, below_drewN (below1 _ _) _⟩
theorem Below.out3 {w w' : World} {o o' o'' : Obj} (h : Below (((w.alloc o).alloc o').alloc o'').heap.size (((w.alloc o).alloc o').alloc o'') w') : Below w.heap.size w w' := (below3 w o o' o'').trans (h.mono (by simp; omega))
/-- A boxed pair, behind one more call. -/
theorem later2 {W W' : World} {N : Nat} {a l : Value} (h : W.cell? ⟨N, 0, none⟩ = some a ∧ W.cell? ⟨N, 1, none⟩ = some l ∧ N < W.heap.size) (hb : Below W.heap.size W W') :
    W'.cell? ⟨N, 0, none⟩ = some a ∧ W'.cell? ⟨N, 1, none⟩ = some l ∧ N < W'.heap.size :=
  ⟨(hb.cell h.2.2).trans h.1, (hb.cell h.2.2).trans h.2.1, Nat.lt_of_lt_of_le h.2.2 hb.size⟩
theorem alloc2 {W : World} {N : Nat} {a l : Value} (h : W.cell? ⟨N, 0, none⟩ = some a ∧ W.cell? ⟨N, 1, none⟩ = some l ∧ N < W.heap.size) (o : Obj) :
    (W.alloc o).cell? ⟨N, 0, none⟩ = some a ∧ (W.alloc o).cell? ⟨N, 1, none⟩ = some l ∧ N < (W.alloc o).heap.size := later2 h (below1 W o)
theorem new2 (W : World) (a l : Value) (t : TypeId) :
    (W.alloc (.cells #[a, l] t)).cell? ⟨W.heap.size, 0, none⟩ = some a ∧ (W.alloc (.cells #[a, l] t)).cell? ⟨W.heap.size, 1, none⟩ = some l ∧ W.heap.size < (W.alloc (.cells #[a, l] t)).heap.size :=
  ⟨by simp [go_sem], by simp [go_sem], by simp⟩
theorem stp {w0 wi w' : World} (hB : Below w0.heap.size w0 wi) (hb : Below wi.heap.size wi w') : Below w0.heap.size w0 w' := hB.trans (hb.mono hB.size)
theorem stp1 {w0 wi w' : World} {o : Obj} (hB : Below w0.heap.size w0 wi) (hb : Below (wi.alloc o).heap.size (wi.alloc o) w') : Below w0.heap.size w0 w' := stp (stp hB (below1 wi o)) hb
theorem conv_any {w : World} {a : Option Addr} {len : Nat} (cap : Nat) {l : List Int} (h : Row8 w a len l) :
    Sem.run Try.prog (convert 27 9 (.slice a len cap)) w = .ok (.string (strOfNums l)) w := conv8 27 5 9 Try.underlying27 Try.underlying5 Try.underlying9 cap h
theorem refGet_no (a : Option Addr) (len cap : Nat) (p s : Int) (w : World) (hm : len ≤ 3000) (_hs : 0 ≤ s ∧ s ≤ 4) (h : p < 0 ∨ (len : Int) - s < p) :
    Calls Try.prog 26 #[.slice a len cap, .int .i64 p, .int .i64 s] w fun e w' => e = .returned (.tuple #[.int .u32 0, .bool false]) ∧ w' = w := by
  by_cases h0 : p < 0
  · go_enter Try.func26, Try.ntmps26
    go_wp2
    go_ret2
    exact ⟨rfl, rfl⟩
  · by_cases h1 : (len : Int) < p
    all_goals
      go_enter Try.func26, Try.ntmps26
      go_wp2
      go_ret2
      exact ⟨rfl, rfl⟩
set_option maxHeartbeats 1000000 in
theorem refGet_yes (a : Option Addr) (len cap : Nat) (l : List Int) (p s : Nat) (w : World) (hr : Row8 w a len l) (hm : len ≤ 3000) (hs : s ≤ 4) (h : p + s ≤ len) :
    Calls Try.prog 26 #[.slice a len cap, .int .i64 p, .int .i64 s] w fun e w' => e = .returned (.tuple #[.int .u32 (getV l p s), .bool true]) ∧ w' = w := by
  obtain ⟨hl, -, hB, hc⟩ := hr
  go_enter Try.func26, Try.ntmps26
  go_wp2
  go_loop [8, 9] (fun n i => ∃ k : Nat, k ≤ s ∧ i = .int .i64 k ∧ n = .int .u32 (getV l p k)) (fun _ i => s - (intOf i).toNat)
  case atStart => exact ⟨0, Nat.zero_le _, rfl, rfl⟩
  case round =>
    obtain ⟨k, hk, rfl, rfl⟩ := hrel
    by_cases hlt : k < s
    · obtain ⟨b, off, rfl, hcell⟩ := hc (p + k) (by omega)
      have hv := hB.at (p + k)
      have hg := getV_small hB p k (by omega)
      have HO : Hid (getV l p (k + 1) = getV l p k * 256 + l[p + k]?.getD 0) := rfl
      clear hc hl
      generalize getV l p k = g at hg HO
      generalize l[p + k]?.getD 0 = v at hcell hv HO
      go_wp2
      go_round
      case rel => exact ⟨k + 1, by omega, by go_num, by rw [HO.out]; try go_num⟩
      case measure => simp [intOf]; omega
    · obtain rfl : k = s := by omega
      go_wp2
      go_ret2
      exact ⟨rfl, rfl⟩
theorem info5 : (Try.prog.info? 5).map (fun i => (i.zero, i.size, i.bytes)) = some (some (.int .u8 0), 1, 1) := by kernel_rfl
theorem make4 (W : World) : Sem.run Try.prog (Instr.makeSlice 27 (.int .i64 4) (.int .i64 4)) W = .ok (.slice (some ⟨W.heap.size, 0, none⟩) 4 4) (W.alloc (.cells #[.int .u8 0, .int .u8 0, .int .u8 0, .int .u8 0] 5)) := by
  have h := run_make_row' 27 5 (.int .u8 0) 1 Try.underlying27 info5 rfl .i64 .i64 4 (by omega) (by omega) W
  rw [show madeCells #[Value.int .u8 0] 4 = #[.int .u8 0, .int .u8 0, .int .u8 0, .int .u8 0] from by kernel_rfl] at h
  exact h
theorem make2 (W : World) : Sem.run Try.prog (Instr.makeSlice 27 (.int .i64 2) (.int .i64 2)) W = .ok (.slice (some ⟨W.heap.size, 0, none⟩) 2 2) (W.alloc (.cells #[.int .u8 0, .int .u8 0] 5)) := by
  have h := run_make_row' 27 5 (.int .u8 0) 1 Try.underlying27 info5 rfl .i64 .i64 2 (by omega) (by omega) W
  rw [show madeCells #[Value.int .u8 0] 2 = #[.int .u8 0, .int .u8 0] from by kernel_rfl] at h
  exact h
def put4Rel (n : Int) (w : World) (m i : Value) (W : World) : Prop :=
  (m = .int .u32 n ∧ i = .int .i64 3 ∧ W = w.alloc (.cells #[.int .u8 0, .int .u8 0, .int .u8 0, .int .u8 0] 5)) ∨
  (m = .int .u32 (n / 256) ∧ i = .int .i64 2 ∧ W = w.alloc (.cells #[.int .u8 0, .int .u8 0, .int .u8 0, .int .u8 (n % 256)] 5)) ∨
  (m = .int .u32 (n / 65536) ∧ i = .int .i64 1 ∧ W = w.alloc (.cells #[.int .u8 0, .int .u8 0, .int .u8 (n / 256 % 256), .int .u8 (n % 256)] 5)) ∨
  (m = .int .u32 (n / 16777216) ∧ i = .int .i64 0 ∧ W = w.alloc (.cells #[.int .u8 0, .int .u8 (n / 65536 % 256), .int .u8 (n / 256 % 256), .int .u8 (n % 256)] 5)) ∨
  (m = .int .u32 0 ∧ i = .int .i64 (-1) ∧ W = w.alloc (.cells #[.int .u8 (n / 16777216), .int .u8 (n / 65536 % 256), .int .u8 (n / 256 % 256), .int .u8 (n % 256)] 5))
set_option maxHeartbeats 1000000 in
theorem refPut4 (n : Int) (w : World) (h0 : 0 ≤ n) (h1 : n ≤ 4294967295) :
    Calls Try.prog 35 #[.int .u32 n, .int .i64 4] w fun e w' => e = .returned (.slice (some ⟨w.heap.size, 0, none⟩) 4 4) ∧ w' = w.alloc (.cells #[.int .u8 (n / 16777216), .int .u8 (n / 65536 % 256), .int .u8 (n / 256 % 256), .int .u8 (n % 256)] 5) := by
  have hmk := make4 w
  go_enter Try.func35, Try.ntmps35
  go_wp2
  go_loopw [0, 6] (fun m i W => put4Rel n w m i W) (fun _ i _ => (intOf i + 1).toNat)
  case atStart => exact .inl ⟨rfl, rfl, rfl⟩
  case round =>
    clear hmk
    rcases hrel with ⟨rfl, rfl, rfl⟩ | ⟨rfl, rfl, rfl⟩ | ⟨rfl, rfl, rfl⟩ | ⟨rfl, rfl, rfl⟩ | ⟨rfl, rfl, rfl⟩
    · go_wp2
      go_roundw
      case rel => exact .inr (.inl ⟨by first | rfl | go_num, rfl, rfl⟩)
      case measure => simp [intOf]
    · go_wp2
      go_roundw
      case rel => exact .inr (.inr (.inl ⟨by first | rfl | go_num, rfl, rfl⟩))
      case measure => simp [intOf]
    · go_wp2
      go_roundw
      case rel => exact .inr (.inr (.inr (.inl ⟨by first | rfl | go_num, rfl, rfl⟩)))
      case measure => simp [intOf]
    · go_wp2
      go_roundw
      case rel => exact .inr (.inr (.inr (.inr (⟨by first | rfl | go_num, rfl, by rw [show n / 16777216 % 256 = n / 16777216 from by omega]⟩))))
      case measure => simp [intOf]
    · go_wp2
      go_ret
      exact ⟨rfl, rfl⟩
def put2Rel (n : Int) (w : World) (m i : Value) (W : World) : Prop :=
  (m = .int .u32 n ∧ i = .int .i64 1 ∧ W = w.alloc (.cells #[.int .u8 0, .int .u8 0] 5)) ∨
  (m = .int .u32 (n / 256) ∧ i = .int .i64 0 ∧ W = w.alloc (.cells #[.int .u8 0, .int .u8 (n % 256)] 5)) ∨
  (m = .int .u32 0 ∧ i = .int .i64 (-1) ∧ W = w.alloc (.cells #[.int .u8 (n / 256), .int .u8 (n % 256)] 5))
set_option maxHeartbeats 1000000 in
theorem refPut2 (n : Int) (w : World) (h0 : 0 ≤ n) (h1 : n ≤ 65535) :
    Calls Try.prog 35 #[.int .u32 n, .int .i64 2] w fun e w' => e = .returned (.slice (some ⟨w.heap.size, 0, none⟩) 2 2) ∧ w' = w.alloc (.cells #[.int .u8 (n / 256), .int .u8 (n % 256)] 5) := by
  have hmk := make2 w
  go_enter Try.func35, Try.ntmps35
  go_wp2
  go_loopw [0, 6] (fun m i W => put2Rel n w m i W) (fun _ i _ => (intOf i + 1).toNat)
  case atStart => exact .inl ⟨rfl, rfl, rfl⟩
  case round =>
    clear hmk
    rcases hrel with ⟨rfl, rfl, rfl⟩ | ⟨rfl, rfl, rfl⟩ | ⟨rfl, rfl, rfl⟩
    · go_wp2
      go_roundw
      case rel => exact .inr (.inl ⟨by first | rfl | go_num, rfl, rfl⟩)
      case measure => simp [intOf]
    · go_wp2
      go_roundw
      case rel => exact .inr (.inr (⟨by first | rfl | go_num, rfl, by rw [show n / 256 % 256 = n / 256 from by omega]⟩))
      case measure => simp [intOf]
    · go_wp2
      go_ret
      exact ⟨rfl, rfl⟩
set_option maxRecDepth 100000 in
set_option maxHeartbeats 1000000 in
theorem refSum_any (a : Option Addr) (len cap : Nat) (l : List Int) (w : World) (h : Row8 w a len l) :
    Calls Try.prog 21 #[.slice a len cap] w fun e w' => e = .returned (.int .u16 (sumI l)) ∧ w' = w := by
  obtain ⟨hl, hm, hB, hc⟩ := h
  go_enter Try.func21, Try.ntmps21
  go_wp2
  go_loop [3, 4] (fun n i => ∃ k : Nat, k ≤ len + 1 ∧ k % 2 = 0 ∧ i = .int .i64 k ∧ n = .int .i64 (hs l k)) (fun _ i => len + 1 - (intOf i).toNat)
  case atStart => exact ⟨0, Nat.zero_le _, rfl, rfl, rfl⟩
  case round =>
    obtain ⟨k, hk, hp, rfl, rfl⟩ := hrel
    have hb := hs_bd hB k
    have HP : Hid (k % 2 = 0) := hp
    by_cases hlt : k < len
    · obtain ⟨b, off, rfl, hcell⟩ := hc k hlt
      have hv := hB.at k
      have HS : Hid (hs l (k + 2) = hs l k + 256 * l[k]?.getD 0 + l[k + 1]?.getD 0) := hs_two (l := l) k hp
      clear hp
      by_cases hlt2 : k + 1 < len
      · obtain ⟨b', off', e, hcell2⟩ := hc (k + 1) hlt2
        simp only [Option.some.injEq, Addr.mk.injEq, and_true] at e
        obtain ⟨rfl, rfl⟩ := e
        have hv2 := hB.at (k + 1)
        clear hc
        generalize l[k]?.getD 0 = v at hcell hv HS
        generalize l[k + 1]?.getD 0 = v2 at hcell2 hv2 HS
        go_wp2
        go_round
        case rel => exact ⟨k + 2, by omega, by have := HP.out; omega, by go_num, by rw [HS.out]; go_num⟩
        case measure => simp [intOf]; omega
      · have e0 : l[k + 1]?.getD 0 = 0 := by rw [List.getElem?_eq_none (by omega)]; rfl
        rw [e0] at HS
        clear hc e0
        generalize l[k]?.getD 0 = v at hcell hv HS
        go_wp2
        go_round
        case rel => exact ⟨k + 2, by omega, by have := HP.out; omega, by go_num, by rw [HS.out]; go_num⟩
        case measure => simp [intOf]; omega
    · have hz := hs_past (l := l) k (by omega)
      rw [hz, hl] at hb ⊢
      have hx : hs l len ≤ 9187343239835811840 := by omega
      clear hc hz hp
      go_wp2
      go_loop [3] (fun n => ∃ s : Int, 0 ≤ s ∧ s ≤ 9187343239835811840 ∧ n = .int .i64 s ∧ Hid (foldI s = foldI (hs l len))) (fun n => (intOf n).toNat)
      case atStart => exact ⟨_, hb.1, hx, rfl, rfl⟩
      case round =>
        obtain ⟨s, hs0, hs1, rfl, HF⟩ := hrel
        by_cases hgt : 65535 < s
        · have hst := foldI_step s hgt
          have HST : Hid (foldI (s % 65536 + s / 65536) = foldI s) := hst
          clear hst
          go_wp2
          go_round
          case rel => exact ⟨s % 65536 + s / 65536, by omega, by omega, by go_num, by show foldI _ = _; rw [HST.out]; exact HF.out⟩
          case measure => simp [intOf]; omega
        · go_wp2
          go_ret
          refine ⟨ret_int ?_, rfl⟩
          rw [sumI, hl, ← HF.out, foldI_small _ hs0 (by omega)]
theorem refMayV_any (b d h : Int) (w : World) {v : Bool} (hv : mayV h b d = v) :
    Calls Try.prog 34 #[.agg #[.int .i64 b, .int .i64 d, .int .i64 h]] w fun e w' => e = .returned (.bool v) ∧ Below w.heap.size w w' := by
  subst hv
  go_enter Try.func34, Try.ntmps34
  go_wp2
  all_goals
    go_ret
    refine ⟨ret_bool ?_, below1 _ _⟩
    unfold mayV
    rw [Bool.eq_iff_iff]
    simp; try omega
end Go.Proofs.Ytnlgdkbpolckcaa
