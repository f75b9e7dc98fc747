/- Contracts of the program's numbers, prefixes and vectors. -/
import Derived.Test.YtnlgdkbpolckcaaRefA
import Derived.ScopeJumps
namespace Go.Proofs.Ytnlgdkbpolckcaa
open Go.RowKit
theorem mask_any (b : Int) (w : World) :
    Calls Try.prog 44 #[.int .i64 b] w fun e w' => e = .returned (.int .u32 (maskV b)) ∧ w' = w := by
  go_enter Try.func44, Try.ntmps44
  go_wp2
  all_goals
    go_ret
    refine ⟨ret_int ?_, rfl⟩
  · exact mask_hi (by omega)
  · exact mask_lo (by omega)
  · exact mask_val (by omega) (by omega)
theorem isLen_any (b : Int) (w : World) {v : Bool} (hv : lenB b = v) :
    Calls Try.prog 43 #[.int .i64 b] w fun e w' => e = .returned (.bool v) ∧ w' = w := by
  subst hv
  by_cases h0 : 0 ≤ b <;> by_cases h1 : b ≤ 32
  all_goals
    go_enter Try.func43, Try.ntmps43
    go_wp2
    go_ret
    exact ⟨ret_bool (by simp [lenB, h0, h1]), rfl⟩
theorem may_in (a l : Int) (w : World) (ha0 : 0 ≤ a) (ha1 : a < 4294967296) (h0 : 0 ≤ l) (h1 : l ≤ 32) :
    Calls Try.prog 39 #[.agg #[.int .u32 a, .int .i64 l]] w fun e w' => e = .returned (.bool (mayB a l)) ∧ Below w.heap.size w w' := by
  have e1 : maskV l = mkI l.toNat := by unfold maskV; rw [cl_of h0 h1]
  have e2 := u32_andM a l.toNat ha0 ha1 (by omega)
  have e3 := lenB_true h0 h1
  have HM : Hid (mayB a l = (andM a l.toNat == a)) := by unfold Hid mayB; rw [Bool.eq_iff_iff]; simp [h0, h1]
  go_enter Try.func39, Try.ntmps39
  go_wp2
  go_quiet ((first
    | (go_at_call 44; exact Calls.quiet_of_same (mask_any _ _))
    | (go_at_call 43; exact Calls.quiet_of_same (isLen_any _ _ e3))))
  go_wp2
  go_ret
  exact ⟨ret_bool HM.out.symm, below_drewN (below1 _ _) _⟩
theorem may_out (a l : Int) (w : World) (h : ¬ (0 ≤ l ∧ l ≤ 32)) :
    Calls Try.prog 39 #[.agg #[.int .u32 a, .int .i64 l]] w fun e w' => e = .returned (.bool (mayB a l)) ∧ Below w.heap.size w w' := by
  have e3 := lenB_false h
  have HM : Hid (mayB a l = false) := by unfold Hid mayB; rw [decide_eq_false_iff_not]; exact fun k => h ⟨k.1, k.2.1⟩
  clear h
  go_enter Try.func39, Try.ntmps39
  go_wp2
  go_quiet ((first
    | (go_at_call 43; exact Calls.quiet_of_same (isLen_any _ _ e3))))
  go_wp2
  go_ret
  exact ⟨ret_bool HM.out.symm, below_drewN (below1 _ _) _⟩
theorem may_any (a l : Int) (w : World) (ha0 : 0 ≤ a) (ha1 : a < 4294967296) {v : Bool} (hv : mayB a l = v) :
    Calls Try.prog 39 #[.agg #[.int .u32 a, .int .i64 l]] w fun e w' => e = .returned (.bool v) ∧ Below w.heap.size w w' := by
  subst hv
  by_cases h : 0 ≤ l ∧ l ≤ 32
  · exact may_in a l w ha0 ha1 h.1 h.2
  · exact may_out a l w h
theorem put16_any (n : Int) (w : World) (h0 : 0 ≤ n) (h1 : n ≤ 65535) :
    Calls Try.prog 30 #[.int .u16 n] w fun e w' => e = .returned (.slice (some ⟨w.heap.size, 0, none⟩) 2 2) ∧ w' = w.alloc (.cells #[.int .u8 (n / 256), .int .u8 (n % 256)] 5) := by
  go_enter Try.func30, Try.ntmps30
  go_wp2
  go_ret
  exact ⟨rfl, rfl⟩
theorem put32_any (n : Int) (w : World) (h0 : 0 ≤ n) (h1 : n ≤ 4294967295) :
    Calls Try.prog 29 #[.int .u32 n] w fun e w' => e = .returned (.slice (some ⟨w.heap.size, 0, none⟩) 4 4) ∧ w' = w.alloc (.cells #[.int .u8 (n / 16777216), .int .u8 (n / 65536 % 256), .int .u8 (n / 256 % 256), .int .u8 (n % 256)] 5) := by
  go_enter Try.func29, Try.ntmps29
  go_wp2
  go_ret
  exact ⟨rfl, rfl⟩
theorem get_no (a : Option Addr) (len cap : Nat) (p s : Int) (w : World) (hm : len ≤ 3000) (hs : 0 ≤ s ∧ s ≤ 4) (h : p < 0 ∨ (len : Int) - s < p) :
    Calls Try.prog 42 #[.slice a len cap, .int .i64 p, .int .i64 s] w fun e w' => e = .returned (.tuple #[.int .u32 0, .bool false]) ∧ w' = w := by
  rcases h with h | h
  · go_enter Try.func42, Try.ntmps42
    go_wp2
    go_ret2
    exact ⟨rfl, rfl⟩
  · by_cases h0 : p < 0
    all_goals
      go_enter Try.func42, Try.ntmps42
      go_wp2
      go_ret2
      exact ⟨rfl, rfl⟩
set_option maxHeartbeats 1000000 in
theorem get_yes (a : Option Addr) (len cap : Nat) (l : List Int) (p s : Nat) (w : World) (hr : Row8 w a len l) (hm : len ≤ 3000) (hs : s ≤ 4) (h : p + s ≤ len) :
    Calls Try.prog 42 #[.slice a len cap, .int .i64 p, .int .i64 s] w fun e w' => e = .returned (.tuple #[.int .u32 (getV l p s), .bool true]) ∧ w' = w := by
  obtain ⟨hl, -, hB, hc⟩ := hr
  go_enter Try.func42, Try.ntmps42
  go_wp2
  go_loop [8, 21] (fun n i => ∃ k : Nat, k ≤ s ∧ i = .int .i64 k ∧ n = .int .u32 (getV l p k)) (fun _ i => s - (intOf i).toNat)
  case atStart => exact ⟨0, Nat.zero_le _, rfl, rfl⟩
  case round =>
    obtain ⟨k, hk, rfl, rfl⟩ := hrel
    by_cases hlt : k < s
    · obtain ⟨b, off, rfl, hcell⟩ := hc (p + k) (by omega)
      have hv := hB.at (p + k)
      have hg := getV_small hB p k (by omega)
      have HO : Hid (bits .or .u32 (getV l p k * 256) (l[p + k]?.getD 0) = getV l p (k + 1)) := or_low _ _ hg hv
      clear hc hl
      generalize getV l p k = g at hg HO
      generalize l[p + k]?.getD 0 = v at hcell hv HO
      go_wp2
      go_round
      case rel => exact ⟨k + 1, by omega, by go_num, by rw [← HO.out]⟩
      case measure => simp [intOf]; omega
    · obtain rfl : k = s := by omega
      go_wp2
      go_ret2
      exact ⟨rfl, rfl⟩
theorem get16_no (a : Option Addr) (len cap : Nat) (p : Int) (w : World) (hm : len ≤ 3000) (h : p < 0 ∨ (len : Int) - 2 < p) :
    Calls Try.prog 38 #[.slice a len cap, .int .i64 p] w fun e w' => e = .returned (.tuple #[.int .u16 0, .bool false]) ∧ w' = w := by
  go_enter Try.func38, Try.ntmps38
  go_wp2_with (go_at_call 42; refine (get_no _ _ _ _ _ _ hm (by omega) h).mono ?_; rintro e w' ⟨rfl, rfl⟩)
  go_ret2
  exact ⟨rfl, rfl⟩
theorem get16_yes (a : Option Addr) (len cap : Nat) (l : List Int) (p : Nat) (w : World) (hr : Row8 w a len l) (hm : len ≤ 3000) (h : p + 2 ≤ len) :
    Calls Try.prog 38 #[.slice a len cap, .int .i64 p] w fun e w' => e = .returned (.tuple #[.int .u16 (getV l p 2), .bool true]) ∧ w' = w := by
  have hb := getV_bd hr.2.2.1 p 2
  have hb' : getV l p 2 < 65536 := hb.2
  have hb0 := hb.1
  clear hb
  go_enter Try.func38, Try.ntmps38
  go_wp2_with (go_at_call 42; refine (get_yes _ _ _ l p 2 _ hr hm (by omega) h).mono ?_; rintro e w' ⟨rfl, rfl⟩)
  go_ret2
  exact ⟨rfl, rfl⟩
theorem get32_no (a : Option Addr) (len cap : Nat) (p : Int) (w : World) (hm : len ≤ 3000) (h : p < 0 ∨ (len : Int) - 4 < p) :
    Calls Try.prog 36 #[.slice a len cap, .int .i64 p] w fun e w' => e = .returned (.tuple #[.int .u32 0, .bool false]) ∧ w' = w := by
  go_enter Try.func36, Try.ntmps36
  go_wp2_with (go_at_call 42; refine (get_no _ _ _ _ _ _ hm (by omega) h).mono ?_; rintro e w' ⟨rfl, rfl⟩)
  go_ret2
  exact ⟨rfl, rfl⟩
theorem get32_yes (a : Option Addr) (len cap : Nat) (l : List Int) (p : Nat) (w : World) (hr : Row8 w a len l) (hm : len ≤ 3000) (h : p + 4 ≤ len) :
    Calls Try.prog 36 #[.slice a len cap, .int .i64 p] w fun e w' => e = .returned (.tuple #[.int .u32 (getV l p 4), .bool true]) ∧ w' = w := by
  go_enter Try.func36, Try.ntmps36
  go_wp2_with (go_at_call 42; refine (get_yes _ _ _ l p 4 _ hr hm (by omega) h).mono ?_; rintro e w' ⟨rfl, rfl⟩)
  go_ret2
  exact ⟨rfl, rfl⟩
set_option maxRecDepth 100000 in
set_option maxHeartbeats 1000000 in
theorem sum_gen (a : Option Addr) (len cap : Nat) (l : List Int) (w : World) (hl : l.length = len) (hm : len ≤ 140737488351232) (hB : Bytes l)
    (hc : ∀ i, i < len → ∃ b off, a = some ⟨b, off, none⟩ ∧ w.cell? ⟨b, off + i, none⟩ = some (.int .u8 (l[i]?.getD 0))) :
    Calls Try.prog 32 #[.slice a len cap] w fun e w' => e = .returned (.int .u16 (sumI l)) ∧ w' = w := by
  go_enter Try.func32, Try.ntmps32
  go_wp2
  refine wp_scope_jumps 0 (fun a' w' => w' = w ∧ ∃ (s : Int) (u0 u1 u4 u5 u6 u7 u8 u9 u10 u11 u12 u13 u14 u15 u16 u17 u18 u19 u20 u21 u22 u23 u24 u25 u26 u27 u28 u29 u30 u31 u32 u33 u34 u35 u36 u37 u38 u39 u40 : Value), a' = { tmps := #[u0, u1, .int .u16 0, .int .u64 s, u4, u5, u6, u7, u8, u9, u10, u11, u12, u13, u14, u15, u16, u17, u18, u19, u20, u21, u22, u23, u24, u25, u26, u27, u28, u29, u30, u31, u32, u33, u34, u35, u36, u37, u38, u39, u40], defers := [] } ∧ 0 ≤ s ∧ s ≤ 9187343239835811840 ∧ foldI s = foldI (hs l len)) (fun a' _ => (intOf (a'.tmps.getD 3 undef)).toNat) rfl ?_ ?_
  · go_wp2
    go_loop [3, 8] (fun s i => ∃ k : Nat, k ≤ len ∧ i = .int .i64 k ∧ s = .int .u64 (hs l k)) (fun _ i => len - (intOf i).toNat)
    case atStart => exact ⟨0, Nat.zero_le _, rfl, rfl⟩
    case round =>
      obtain ⟨k, hk, rfl, rfl⟩ := hrel
      have hb := hs_bd hB k
      by_cases hlt : k < len
      · obtain ⟨b, off, rfl, hcell⟩ := hc k hlt
        have hv := hB.at k
        by_cases hp : k % 2 = 0
        · have hpi : (((k : Int) % 2) == 0) = true := by simp; omega
          have HS : Hid (hs l (k + 1) = hs l k + 256 * l[k]?.getD 0) := hs_even (l := l) k hp
          clear hc
          generalize l[k]?.getD 0 = v at hcell hv HS
          go_wp2
          go_round
          case rel => exact ⟨k + 1, by omega, by go_num, by rw [HS.out]; try go_num⟩
          case measure => simp [intOf]; omega
        · have hpi : (((k : Int) % 2) == 0) = false := by simp; omega
          have HS : Hid (hs l (k + 1) = hs l k + l[k]?.getD 0) := hs_odd (l := l) k (by omega)
          clear hc
          generalize l[k]?.getD 0 = v at hcell hv HS
          go_wp2
          go_round
          case rel => exact ⟨k + 1, by omega, by go_num, by rw [HS.out]; try go_num⟩
          case measure => simp [intOf]; omega
      · obtain rfl : k = len := by omega
        clear hc
        have hx : hs l k ≤ 9187343239835811840 := by omega
        go_wp2
        go_step3
        go_wp2
        · rename_i hpos
          have hn := fold_next (hs l k) hb.1 hx hpos
          go_step3
          rw [hn.1]
          exact ⟨rfl, rfl, _, _, _, _, _, _, _, _, _, _, _, _, _, _, _, _, _, _, _, _, _, _, _, _, _, _, _, _, _, _, _, _, _, _, _, _, _, _, _, _, rfl, hn.2.2.1, by omega, hn.2.1⟩
        · rename_i hsm _
          simp only [Exit.jump]
          go_ret
          have h3 : hs l k ≤ 65535 := by omega
          exact ⟨ret_int (by rw [xor_ffff _ hb.1 h3, sumI, hl, foldI_small _ hb.1 h3]), rfl⟩
  · rintro a' w' ⟨rfl, s, u0, u1, u4, u5, u6, u7, u8, u9, u10, u11, u12, u13, u14, u15, u16, u17, u18, u19, u20, u21, u22, u23, u24, u25, u26, u27, u28, u29, u30, u31, u32, u33, u34, u35, u36, u37, u38, u39, u40, rfl, hs0, hs1, hsf⟩
    have HF : Hid (foldI s = foldI (hs l len)) := hsf
    clear hsf hc
    go_wp2
    · rename_i hpos
      have hn := fold_next s hs0 hs1 hpos
      go_step3
      rw [hn.1]
      refine ⟨rfl, ⟨rfl, _, _, _, _, _, _, _, _, _, _, _, _, _, _, _, _, _, _, _, _, _, _, _, _, _, _, _, _, _, _, _, _, _, _, _, _, _, _, _, _, rfl, hn.2.2.1, by omega, ?_⟩, ?_⟩
      · rw [hn.2.1]; exact HF.out
      · simp [intOf]; omega
    · rename_i hsm _
      simp only [Exit.jump]
      go_ret
      have h3 : s ≤ 65535 := by omega
      exact ⟨ret_int (by rw [xor_ffff _ hs0 h3, sumI, hl, ← HF.out, foldI_small _ hs0 h3]), rfl⟩
theorem sum_any (a : Option Addr) (len cap : Nat) (l : List Int) (w : World) (h : Row8 w a len l) :
    Calls Try.prog 32 #[.slice a len cap] w fun e w' => e = .returned (.int .u16 (sumI l)) ∧ w' = w :=
  sum_gen a len cap l w h.1 h.2.1 h.2.2.1 h.2.2.2
theorem mayVec_any (b d h : Int) (w : World) {v : Bool} (hv : mayV h b d = v) :
    Calls Try.prog 40 #[.agg #[.int .i64 b, .int .i64 d, .int .i64 h]] w fun e w' => e = .returned (.bool v) ∧ Below w.heap.size w w' := by
  subst hv
  go_enter Try.func40, Try.ntmps40
  go_wp2
  all_goals
    go_ret
    refine ⟨ret_bool ?_, below1 _ _⟩
    unfold mayV
    rw [Bool.eq_iff_iff]
    simp; try omega
end Go.Proofs.Ytnlgdkbpolckcaa
