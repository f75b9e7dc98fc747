/- The contract of Parse. -/
import Derived.Test.YtapoajplmejjcaaDoorConf
import Derived.Test.YtapoajplmejjcaaDoorMatd
import Derived.WalkMore
import Derived.ScopeJumps
namespace Go.Proofs.YtapoajplmejjcaaDoor
open Go.RowKit

theorem number_none (s : ByteArray) (p most : Nat) (pI mI : Int) (w : World) (hs : s.size ≤ 9223372036854775807) (ha : p ≤ s.size) (hm : most ≤ 255) (hp : pI = p) (hmI : mI = most) (h : numR s.data.toList p most = none) :
    Calls Tryd.prog 31 #[.string s, .int .i64 pI, .int .i64 mI] w fun e w' => e = .returned (.tuple #[.int .i64 0, .int .i64 0, .bool false]) ∧ w' = w := by
  subst hp hmI
  refine (number_any s p most w hs ha hm).mono fun e w' ⟨he, hw⟩ => ⟨?_, hw⟩
  rw [he]
  simp [numV, numE, numB, h]
theorem number_some (s : ByteArray) (p most v k : Nat) (pI mI : Int) (w : World) (hs : s.size ≤ 9223372036854775807) (ha : p ≤ s.size) (hm : most ≤ 255) (hp : pI = p) (hmI : mI = most) (h : numR s.data.toList p most = some (v, k)) :
    Calls Tryd.prog 31 #[.string s, .int .i64 pI, .int .i64 mI] w fun e w' => e = .returned (.tuple #[.int .i64 v, .int .i64 k, .bool true]) ∧ w' = w := by
  subst hp hmI
  refine (number_any s p most w hs ha hm).mono fun e w' ⟨he, hw⟩ => ⟨?_, hw⟩
  rw [he]
  simp [numV, numE, numB, h]

/-- What holds each time that the label is jumped to. -/
def parJ (s : ByteArray) (w : World) (a' : Act) (w' : World) : Prop :=
  ∃ n c p addr : Nat, w' = (w.alloc (.cells #[.int .u32 0, .int .i64 0] 24)).drewN n ∧ 1 ≤ c ∧ c ≤ 3 ∧ p ≤ s.size ∧ addr < 2 ^ (8 * c) ∧ parseF s.data.toList = parseG s.data.toList (4 - c) p addr ∧
    ∃ (u1 u7 u8 u9 u10 u11 u12 u13 u14 u15 u16 u17 u18 u19 u20 u21 u22 u23 u24 u25 u26 u27 u28 u29 u30 u31 u32 u33 u34 u35 u36 u37 u38 u39 u40 u41 u42 u43 u44 u45 u46 u47 u48 u49 u50 u51 u52 u53 u54 u55 u56 u57 u58 u59 u60 u61 u62 u63 u64 u65 u66 u67 u68 u69 u70 u71 : Value), a' = { tmps := #[.string s, u1, .pointer (some ⟨w.heap.size, 0, none⟩), .int .i64 0, .int .u32 (addr : Nat), .int .i64 (p : Nat), .int .i64 (c : Nat), u7, u8, u9, u10, u11, u12, u13, u14, u15, u16, u17, u18, u19, u20, u21, u22, u23, u24, u25, u26, u27, u28, u29, u30, u31, u32, u33, u34, u35, u36, u37, u38, u39, u40, u41, u42, u43, u44, u45, u46, u47, u48, u49, u50, u51, u52, u53, u54, u55, u56, u57, u58, u59, u60, u61, u62, u63, u64, u65, u66, u67, u68, u69, u70, u71], defers := [] }
def parM (a' : Act) (_ : World) : Nat := 4 - (intOf (a'.tmps.getD 6 undef)).toNat

theorem below_set2 (w : World) (x y : Value) (n : Nat) (u v : Value) :
    Below w.heap.size w ((((w.alloc (.cells #[x, y] 24)).drewN n).setCell ⟨w.heap.size, 0, none⟩ u).setCell ⟨w.heap.size, 1, none⟩ v) :=
  ((below_drewN (below1 w _) n).setCell (Nat.le_refl _) _).setCell (Nat.le_refl _) _

theorem or_join (a v : Nat) (ha : a < 16777216) (hv : v ≤ 255) : bits .or .u32 ((a : Int) * 256) (v : Int) = (a : Int) * 256 + (v : Int) := by
  have h := u32_or_nat (a * 256) v (by omega) (by omega)
  rw [nat_join 8 (a * 256) v (by omega) (by omega)] at h
  simpa using h

set_option maxRecDepth 100000 in
set_option maxHeartbeats 1000000 in
theorem parse_any (s : ByteArray) (w : World) (hs : s.size ≤ 3000) :
    Calls Tryd.prog 26 #[.string s] w fun e w' =>
      e = .returned (.tuple #[.agg #[.int .u32 (parA s.data.toList), .int .i64 (parL s.data.toList)], .int .i64 (parE s.data.toList)]) ∧ Below w.heap.size w w' := by
  go_enter Tryd.func26, Tryd.ntmps26
  go_wp2
  refine wp_scope_jumps 0 (parJ s w) parM rfl ?_ ?_
  · go_wp2
    go_step3
    have q0 : (({ data := #[46, 46, 46, 47] } : ByteArray)[0]).toNat = 46 := rfl
    cases hn : numR s.data.toList 0 255 with
    | none =>
      have HN : Hid (parA s.data.toList = 0 ∧ parL s.data.toList = 0 ∧ parE s.data.toList = 2) := par_none (parG_no hn)
      go_wp2_with (go_at_call 31; refine (number_none s 0 255 _ _ _ (by omega) (by omega) (by omega) (by rfl) (by rfl) hn).mono ?_; rintro e w' ⟨rfl, rfl⟩)
      go_quiet (fail)
      go_wp2
      simp only [Exit.jump]
      refine bodyPost_ret (v := .tuple #[.agg #[.int .u32 0, .int .i64 0], .int .i64 2]) (by simp [results, Tryd.results26, go_sem]) rfl ?_
      exact ⟨by rw [HN.out.1, HN.out.2.1, HN.out.2.2], below_set2 _ _ _ _ _ _⟩
    | some q =>
      obtain ⟨v, e⟩ := q
      have hle := numR_le (show 0 ≤ s.data.toList.length from by first | exact hp | omega) hn
      have hv : v ≤ 255 := hle.2
      have hle1 : e ≤ s.size := hle.1
      clear hle
      by_cases hE : e < s.size
      · have hE' : ((e : Int) == (s.size : Int)) = false := by rw [beq_eq_false_iff_ne]; omega
        by_cases hS : s[e] = 46
        · have hS' : ((s[e].toNat : Int) != 46) = false := by simp [hS]
          have HG : Hid (parseF s.data.toList = parseG s.data.toList 3 (e + 1) v) := by unfold Hid parseF; rw [parG_on hn ⟨hE, by rw [bytes_getD s e hE, hS]; rfl⟩]; simp
          have hor : bits .or .u32 0 (v : Int) = (v : Int) := by have := u32_or_nat 0 v (by omega) (by omega); simpa using this
          clear hS
          go_wp2_with (go_at_call 31; refine (number_some s 0 255 v e _ _ _ (by omega) (by omega) (by omega) (by rfl) (by rfl) hn).mono ?_; rintro e w' ⟨rfl, rfl⟩)
          go_quiet (fail)
          go_wp2
          go_step3
          have hc1 : (e : Int) + 1 = ((e + 1 : Nat) : Int) := by omega
          rw [hc1]
          exact ⟨rfl, _, 1, e + 1, v, rfl, by omega, by omega, by omega, by omega, HG.out, _, _, _, _, _, _, _, _, _, _, _, _, _, _, _, _, _, _, _, _, _, _, _, _, _, _, _, _, _, _, _, _, _, _, _, _, _, _, _, _, _, _, _, _, _, _, _, _, _, _, _, _, _, _, _, _, _, _, _, _, _, _, _, _, _, _, rfl⟩
        · have hS' : ((s[e].toNat : Int) != 46) = true := by have := u8_not hS; rw [bne]; simpa using this
          have HN : Hid (parA s.data.toList = 0 ∧ parL s.data.toList = 0 ∧ parE s.data.toList = 2) := par_none (parG_bad hn (fun h => hS (by have := h.2; rw [bytes_getD s e hE] at this; exact this)))
          clear hS
          go_wp2_with (go_at_call 31; refine (number_some s 0 255 v e _ _ _ (by omega) (by omega) (by omega) (by rfl) (by rfl) hn).mono ?_; rintro e w' ⟨rfl, rfl⟩)
          go_quiet (fail)
          go_wp2
          simp only [Exit.jump]
          refine bodyPost_ret (v := .tuple #[.agg #[.int .u32 0, .int .i64 0], .int .i64 2]) (by simp [results, Tryd.results26, go_sem]) rfl ?_
          exact ⟨by rw [HN.out.1, HN.out.2.1, HN.out.2.2], below_set2 _ _ _ _ _ _⟩
      · have hE' : ((e : Int) == (s.size : Int)) = true := by rw [beq_iff_eq]; omega
        have HN : Hid (parA s.data.toList = 0 ∧ parL s.data.toList = 0 ∧ parE s.data.toList = 2) := par_none (parG_bad hn (fun h => hE h.1))
        go_wp2_with (go_at_call 31; refine (number_some s 0 255 v e _ _ _ (by omega) (by omega) (by omega) (by rfl) (by rfl) hn).mono ?_; rintro e w' ⟨rfl, rfl⟩)
        go_quiet (fail)
        go_wp2
        simp only [Exit.jump]
        refine bodyPost_ret (v := .tuple #[.agg #[.int .u32 0, .int .i64 0], .int .i64 2]) (by simp [results, Tryd.results26, go_sem]) rfl ?_
        exact ⟨by rw [HN.out.1, HN.out.2.1, HN.out.2.2], below_set2 _ _ _ _ _ _⟩
  · rintro a' w' ⟨n, c, p, addr, rfl, h1, h3, hp, haddr, hpar0, u1, u7, u8, u9, u10, u11, u12, u13, u14, u15, u16, u17, u18, u19, u20, u21, u22, u23, u24, u25, u26, u27, u28, u29, u30, u31, u32, u33, u34, u35, u36, u37, u38, u39, u40, u41, u42, u43, u44, u45, u46, u47, u48, u49, u50, u51, u52, u53, u54, u55, u56, u57, u58, u59, u60, u61, u62, u63, u64, u65, u66, u67, u68, u69, u70, u71, rfl⟩
    have hpar : Hid (parseF s.data.toList = parseG s.data.toList (4 - c) p addr) := hpar0
    clear hpar0
    have hcc : c = 1 ∨ c = 2 ∨ c = 3 := by omega
    clear h1 h3
    rcases hcc with rfl | rfl | rfl
    · have q0 : (({ data := #[46, 46, 46, 47] } : ByteArray)[1]).toNat = 46 := rfl
      cases hn : numR s.data.toList p 255 with
      | none =>
        have HN : Hid (parA s.data.toList = 0 ∧ parL s.data.toList = 0 ∧ parE s.data.toList = 2) := par_none (hpar.out.trans (parG_no hn))
        go_wp2_with (go_at_call 31; refine (number_none s p 255 _ _ _ (by omega) (by omega) (by omega) (by rfl) (by rfl) hn).mono ?_; rintro e w' ⟨rfl, rfl⟩)
        go_quiet (fail)
        go_wp2
        simp only [Exit.jump]
        refine bodyPost_ret (v := .tuple #[.agg #[.int .u32 0, .int .i64 0], .int .i64 2]) (by simp [results, Tryd.results26, go_sem]) rfl ?_
        exact ⟨by rw [HN.out.1, HN.out.2.1, HN.out.2.2], below_set2 _ _ _ _ _ _⟩
      | some q =>
        obtain ⟨v, e⟩ := q
        have hle := numR_le (show p ≤ s.data.toList.length from by first | exact hp | omega) hn
        have hv : v ≤ 255 := hle.2
        have hle1 : e ≤ s.size := hle.1
        clear hle
        by_cases hE : e < s.size
        · have hE' : ((e : Int) == (s.size : Int)) = false := by rw [beq_eq_false_iff_ne]; omega
          by_cases hS : s[e] = 46
          · have hS' : ((s[e].toNat : Int) != 46) = false := by simp [hS]
            have HG : Hid (parseF s.data.toList = parseG s.data.toList 2 (e + 1) (addr * 256 + v)) := by unfold Hid; rw [hpar.out, parG_on hn ⟨hE, by rw [bytes_getD s e hE, hS]; rfl⟩]
            have hor : bits .or .u32 ((addr : Int) * 256) (v : Int) = (addr : Int) * 256 + (v : Int) := or_join addr v (by omega) hv
            clear hS
            go_wp2_with (go_at_call 31; refine (number_some s p 255 v e _ _ _ (by omega) (by omega) (by omega) (by rfl) (by rfl) hn).mono ?_; rintro e w' ⟨rfl, rfl⟩)
            go_quiet (fail)
            go_wp2
            go_step3
            have hc1 : (e : Int) + 1 = ((e + 1 : Nat) : Int) := by omega
            rw [hc1]
            have hc2 : (addr : Int) * 256 + (v : Int) = ((addr * 256 + v : Nat) : Int) := by omega
            rw [hc2]
            exact ⟨rfl, ⟨_, 2, e + 1, addr * 256 + v, rfl, by omega, by omega, by omega, by omega, HG.out, _, _, _, _, _, _, _, _, _, _, _, _, _, _, _, _, _, _, _, _, _, _, _, _, _, _, _, _, _, _, _, _, _, _, _, _, _, _, _, _, _, _, _, _, _, _, _, _, _, _, _, _, _, _, _, _, _, _, _, _, _, _, _, _, _, _, rfl⟩, by simp [parM, intOf]⟩
          · have hS' : ((s[e].toNat : Int) != 46) = true := by have := u8_not hS; rw [bne]; simpa using this
            have HN : Hid (parA s.data.toList = 0 ∧ parL s.data.toList = 0 ∧ parE s.data.toList = 2) := par_none (hpar.out.trans (parG_bad hn (fun h => hS (by have := h.2; rw [bytes_getD s e hE] at this; exact this))))
            clear hS
            go_wp2_with (go_at_call 31; refine (number_some s p 255 v e _ _ _ (by omega) (by omega) (by omega) (by rfl) (by rfl) hn).mono ?_; rintro e w' ⟨rfl, rfl⟩)
            go_quiet (fail)
            go_wp2
            simp only [Exit.jump]
            refine bodyPost_ret (v := .tuple #[.agg #[.int .u32 0, .int .i64 0], .int .i64 2]) (by simp [results, Tryd.results26, go_sem]) rfl ?_
            exact ⟨by rw [HN.out.1, HN.out.2.1, HN.out.2.2], below_set2 _ _ _ _ _ _⟩
        · have hE' : ((e : Int) == (s.size : Int)) = true := by rw [beq_iff_eq]; omega
          have HN : Hid (parA s.data.toList = 0 ∧ parL s.data.toList = 0 ∧ parE s.data.toList = 2) := par_none (hpar.out.trans (parG_bad hn (fun h => hE h.1)))
          go_wp2_with (go_at_call 31; refine (number_some s p 255 v e _ _ _ (by omega) (by omega) (by omega) (by rfl) (by rfl) hn).mono ?_; rintro e w' ⟨rfl, rfl⟩)
          go_quiet (fail)
          go_wp2
          simp only [Exit.jump]
          refine bodyPost_ret (v := .tuple #[.agg #[.int .u32 0, .int .i64 0], .int .i64 2]) (by simp [results, Tryd.results26, go_sem]) rfl ?_
          exact ⟨by rw [HN.out.1, HN.out.2.1, HN.out.2.2], below_set2 _ _ _ _ _ _⟩
    · have q0 : (({ data := #[46, 46, 46, 47] } : ByteArray)[2]).toNat = 46 := rfl
      cases hn : numR s.data.toList p 255 with
      | none =>
        have HN : Hid (parA s.data.toList = 0 ∧ parL s.data.toList = 0 ∧ parE s.data.toList = 2) := par_none (hpar.out.trans (parG_no hn))
        go_wp2_with (go_at_call 31; refine (number_none s p 255 _ _ _ (by omega) (by omega) (by omega) (by rfl) (by rfl) hn).mono ?_; rintro e w' ⟨rfl, rfl⟩)
        go_quiet (fail)
        go_wp2
        simp only [Exit.jump]
        refine bodyPost_ret (v := .tuple #[.agg #[.int .u32 0, .int .i64 0], .int .i64 2]) (by simp [results, Tryd.results26, go_sem]) rfl ?_
        exact ⟨by rw [HN.out.1, HN.out.2.1, HN.out.2.2], below_set2 _ _ _ _ _ _⟩
      | some q =>
        obtain ⟨v, e⟩ := q
        have hle := numR_le (show p ≤ s.data.toList.length from by first | exact hp | omega) hn
        have hv : v ≤ 255 := hle.2
        have hle1 : e ≤ s.size := hle.1
        clear hle
        by_cases hE : e < s.size
        · have hE' : ((e : Int) == (s.size : Int)) = false := by rw [beq_eq_false_iff_ne]; omega
          by_cases hS : s[e] = 46
          · have hS' : ((s[e].toNat : Int) != 46) = false := by simp [hS]
            have HG : Hid (parseF s.data.toList = parseG s.data.toList 1 (e + 1) (addr * 256 + v)) := by unfold Hid; rw [hpar.out, parG_on hn ⟨hE, by rw [bytes_getD s e hE, hS]; rfl⟩]
            have hor : bits .or .u32 ((addr : Int) * 256) (v : Int) = (addr : Int) * 256 + (v : Int) := or_join addr v (by omega) hv
            clear hS
            go_wp2_with (go_at_call 31; refine (number_some s p 255 v e _ _ _ (by omega) (by omega) (by omega) (by rfl) (by rfl) hn).mono ?_; rintro e w' ⟨rfl, rfl⟩)
            go_quiet (fail)
            go_wp2
            go_step3
            have hc1 : (e : Int) + 1 = ((e + 1 : Nat) : Int) := by omega
            rw [hc1]
            have hc2 : (addr : Int) * 256 + (v : Int) = ((addr * 256 + v : Nat) : Int) := by omega
            rw [hc2]
            exact ⟨rfl, ⟨_, 3, e + 1, addr * 256 + v, rfl, by omega, by omega, by omega, by omega, HG.out, _, _, _, _, _, _, _, _, _, _, _, _, _, _, _, _, _, _, _, _, _, _, _, _, _, _, _, _, _, _, _, _, _, _, _, _, _, _, _, _, _, _, _, _, _, _, _, _, _, _, _, _, _, _, _, _, _, _, _, _, _, _, _, _, _, _, rfl⟩, by simp [parM, intOf]⟩
          · have hS' : ((s[e].toNat : Int) != 46) = true := by have := u8_not hS; rw [bne]; simpa using this
            have HN : Hid (parA s.data.toList = 0 ∧ parL s.data.toList = 0 ∧ parE s.data.toList = 2) := par_none (hpar.out.trans (parG_bad hn (fun h => hS (by have := h.2; rw [bytes_getD s e hE] at this; exact this))))
            clear hS
            go_wp2_with (go_at_call 31; refine (number_some s p 255 v e _ _ _ (by omega) (by omega) (by omega) (by rfl) (by rfl) hn).mono ?_; rintro e w' ⟨rfl, rfl⟩)
            go_quiet (fail)
            go_wp2
            simp only [Exit.jump]
            refine bodyPost_ret (v := .tuple #[.agg #[.int .u32 0, .int .i64 0], .int .i64 2]) (by simp [results, Tryd.results26, go_sem]) rfl ?_
            exact ⟨by rw [HN.out.1, HN.out.2.1, HN.out.2.2], below_set2 _ _ _ _ _ _⟩
        · have hE' : ((e : Int) == (s.size : Int)) = true := by rw [beq_iff_eq]; omega
          have HN : Hid (parA s.data.toList = 0 ∧ parL s.data.toList = 0 ∧ parE s.data.toList = 2) := par_none (hpar.out.trans (parG_bad hn (fun h => hE h.1)))
          go_wp2_with (go_at_call 31; refine (number_some s p 255 v e _ _ _ (by omega) (by omega) (by omega) (by rfl) (by rfl) hn).mono ?_; rintro e w' ⟨rfl, rfl⟩)
          go_quiet (fail)
          go_wp2
          simp only [Exit.jump]
          refine bodyPost_ret (v := .tuple #[.agg #[.int .u32 0, .int .i64 0], .int .i64 2]) (by simp [results, Tryd.results26, go_sem]) rfl ?_
          exact ⟨by rw [HN.out.1, HN.out.2.1, HN.out.2.2], below_set2 _ _ _ _ _ _⟩
    · have q0 : (({ data := #[46, 46, 46, 47] } : ByteArray)[3]).toNat = 47 := rfl
      cases hn : numR s.data.toList p 255 with
      | none =>
        have HN : Hid (parA s.data.toList = 0 ∧ parL s.data.toList = 0 ∧ parE s.data.toList = 2) := par_none (hpar.out.trans (parG_no hn))
        go_wp2_with (go_at_call 31; refine (number_none s p 255 _ _ _ (by omega) (by omega) (by omega) (by rfl) (by rfl) hn).mono ?_; rintro e w' ⟨rfl, rfl⟩)
        go_quiet (fail)
        go_wp2
        simp only [Exit.jump]
        refine bodyPost_ret (v := .tuple #[.agg #[.int .u32 0, .int .i64 0], .int .i64 2]) (by simp [results, Tryd.results26, go_sem]) rfl ?_
        exact ⟨by rw [HN.out.1, HN.out.2.1, HN.out.2.2], below_set2 _ _ _ _ _ _⟩
      | some q =>
        obtain ⟨v, e⟩ := q
        have hle := numR_le (show p ≤ s.data.toList.length from by first | exact hp | omega) hn
        have hv : v ≤ 255 := hle.2
        have hle1 : e ≤ s.size := hle.1
        clear hle
        by_cases hE : e < s.size
        · have hE' : ((e : Int) == (s.size : Int)) = false := by rw [beq_eq_false_iff_ne]; omega
          by_cases hS : s[e] = 47
          · have hS' : ((s[e].toNat : Int) != 47) = false := by simp [hS]
            have HG : Hid (parseF s.data.toList = parseG s.data.toList 0 (e + 1) (addr * 256 + v)) := by unfold Hid; rw [hpar.out, parG_on hn ⟨hE, by rw [bytes_getD s e hE, hS]; rfl⟩]
            have hor : bits .or .u32 ((addr : Int) * 256) (v : Int) = (addr : Int) * 256 + (v : Int) := or_join addr v (by omega) hv
            clear hS
            go_wp2_with (go_at_call 31; refine (number_some s p 255 v e _ _ _ (by omega) (by omega) (by omega) (by rfl) (by rfl) hn).mono ?_; rintro e w' ⟨rfl, rfl⟩)
            go_quiet (fail)
            cases hn2 : numR s.data.toList (e + 1) 32 with
            | none =>
              have HN : Hid (parA s.data.toList = 0 ∧ parL s.data.toList = 0 ∧ parE s.data.toList = 2) := par_none (HG.out.trans (par0_no hn2))
              go_wp2_with (go_at_call 31; refine (number_none s (e + 1) 32 _ _ _ (by omega) (by omega) (by omega) (by first | rfl | omega) (by rfl) hn2).mono ?_; rintro e w' ⟨rfl, rfl⟩)
              simp only [Exit.jump]
              refine bodyPost_ret (v := .tuple #[.agg #[.int .u32 0, .int .i64 0], .int .i64 2]) (by simp [results, Tryd.results26, go_sem]) rfl ?_
              exact ⟨by rw [HN.out.1, HN.out.2.1, HN.out.2.2], (below_set2 _ _ _ _ _ _).alloc (by simp [World.setCell]; try omega) _⟩
            | some q =>
              obtain ⟨b, e2⟩ := q
              have hle2 := numR_le (show e + 1 ≤ s.data.toList.length from hE) hn2
              have hb2 : b ≤ 32 := hle2.2
              have hle3 : e2 ≤ s.size := hle2.1
              clear hle2
              have hcast : ((addr * 256 + v : Nat) : Int) = (addr : Int) * 256 + (v : Int) := by omega
              by_cases hE2 : e2 = s.size
              · have hE3 : ((e2 : Int) != (s.size : Int)) = false := by simp [hE2]
                cases hm : mayB ((addr : Int) * 256 + (v : Int)) (b : Int)
                · have HN : Hid (parA s.data.toList = 0 ∧ parL s.data.toList = 0 ∧ parE s.data.toList = 2) := par_none (HG.out.trans (par0_bad hn2 (fun h => by have := h.2; rw [hcast, hm] at this; cases this)))
                  clear hcast hE2
                  go_wp2_with (first
                    | (go_at_call 31; refine (number_some s (e + 1) 32 b e2 _ _ _ (by omega) (by omega) (by omega) (by first | rfl | omega) (by rfl) hn2).mono ?_; rintro e w' ⟨rfl, rfl⟩)
                    | (go_at_call 18; refine (may_any _ _ _ (by omega) (by omega) hm).mono ?_; rintro e w' ⟨rfl, hb⟩; obtain ⟨hc, hf⟩ := bcell hb))
                  simp only [Exit.jump]
                  have cA : w'.cell? ⟨w.heap.size, 0, none⟩ = some (.int .u32 0) := by rw [hc _ _ (by simp; try omega)]; simp [go_sem]
                  have cB : w'.cell? ⟨w.heap.size, 1, none⟩ = some (.int .i64 0) := by rw [hc _ _ (by simp; try omega)]; simp [go_sem]
                  refine bodyPost_ret (v := .tuple #[.agg #[.int .u32 0, .int .i64 0], .int .i64 2]) (by simp [results, Tryd.results26, go_sem, cA, cB]) rfl ?_
                  exact ⟨by rw [HN.out.1, HN.out.2.1, HN.out.2.2], (((((below_drewN (below1 w _) _).alloc (by simp) _).trans (hb.mono (by simp; try omega))).setCell (Nat.le_refl _) _).setCell (Nat.le_refl _) _)⟩
                · have HN : Hid (parA s.data.toList = ((addr * 256 + v : Nat) : Int) ∧ parL s.data.toList = (b : Int) ∧ parE s.data.toList = 0) := par_some (HG.out.trans (par0_on hn2 ⟨hE2, by rw [hcast]; exact hm⟩))
                  rw [hcast] at HN
                  clear hcast hE2
                  go_wp2_with (first
                    | (go_at_call 31; refine (number_some s (e + 1) 32 b e2 _ _ _ (by omega) (by omega) (by omega) (by first | rfl | omega) (by rfl) hn2).mono ?_; rintro e w' ⟨rfl, rfl⟩)
                    | (go_at_call 18; refine (may_any _ _ _ (by omega) (by omega) hm).mono ?_; rintro e w' ⟨rfl, hb⟩; obtain ⟨hc, hf⟩ := bcell hb))
                  simp only [Exit.jump]
                  have cA : w'.cell? ⟨w.heap.size, 0, none⟩ = some (.int .u32 0) := by rw [hc _ _ (by simp; try omega)]; simp [go_sem]
                  have cB : w'.cell? ⟨w.heap.size, 1, none⟩ = some (.int .i64 0) := by rw [hc _ _ (by simp; try omega)]; simp [go_sem]
                  refine bodyPost_ret (v := .tuple #[.agg #[.int .u32 ((addr : Int) * 256 + (v : Int)), .int .i64 (b : Int)], .int .i64 0]) (by simp [results, Tryd.results26, go_sem, cA, cB]) rfl ?_
                  exact ⟨by rw [HN.out.1, HN.out.2.1, HN.out.2.2], (((((below_drewN (below1 w _) _).alloc (by simp) _).trans (hb.mono (by simp; try omega))).setCell (Nat.le_refl _) _).setCell (Nat.le_refl _) _)⟩
              · have hE3 : ((e2 : Int) != (s.size : Int)) = true := by rw [bne_iff_ne]; omega
                have HN : Hid (parA s.data.toList = 0 ∧ parL s.data.toList = 0 ∧ parE s.data.toList = 2) := par_none (HG.out.trans (par0_bad hn2 (fun h => hE2 h.1)))
                clear hcast
                go_wp2_with (go_at_call 31; refine (number_some s (e + 1) 32 b e2 _ _ _ (by omega) (by omega) (by omega) (by first | rfl | omega) (by rfl) hn2).mono ?_; rintro e w' ⟨rfl, rfl⟩)
                simp only [Exit.jump]
                refine bodyPost_ret (v := .tuple #[.agg #[.int .u32 0, .int .i64 0], .int .i64 2]) (by simp [results, Tryd.results26, go_sem]) rfl ?_
                exact ⟨by rw [HN.out.1, HN.out.2.1, HN.out.2.2], (below_set2 _ _ _ _ _ _).alloc (by simp [World.setCell]; try omega) _⟩
          · have hS' : ((s[e].toNat : Int) != 47) = true := by have := u8_not hS; rw [bne]; simpa using this
            have HN : Hid (parA s.data.toList = 0 ∧ parL s.data.toList = 0 ∧ parE s.data.toList = 2) := par_none (hpar.out.trans (parG_bad hn (fun h => hS (by have := h.2; rw [bytes_getD s e hE] at this; exact this))))
            clear hS
            go_wp2_with (go_at_call 31; refine (number_some s p 255 v e _ _ _ (by omega) (by omega) (by omega) (by rfl) (by rfl) hn).mono ?_; rintro e w' ⟨rfl, rfl⟩)
            go_quiet (fail)
            go_wp2
            simp only [Exit.jump]
            refine bodyPost_ret (v := .tuple #[.agg #[.int .u32 0, .int .i64 0], .int .i64 2]) (by simp [results, Tryd.results26, go_sem]) rfl ?_
            exact ⟨by rw [HN.out.1, HN.out.2.1, HN.out.2.2], below_set2 _ _ _ _ _ _⟩
        · have hE' : ((e : Int) == (s.size : Int)) = true := by rw [beq_iff_eq]; omega
          have HN : Hid (parA s.data.toList = 0 ∧ parL s.data.toList = 0 ∧ parE s.data.toList = 2) := par_none (hpar.out.trans (parG_bad hn (fun h => hE h.1)))
          go_wp2_with (go_at_call 31; refine (number_some s p 255 v e _ _ _ (by omega) (by omega) (by omega) (by rfl) (by rfl) hn).mono ?_; rintro e w' ⟨rfl, rfl⟩)
          go_quiet (fail)
          go_wp2
          simp only [Exit.jump]
          refine bodyPost_ret (v := .tuple #[.agg #[.int .u32 0, .int .i64 0], .int .i64 2]) (by simp [results, Tryd.results26, go_sem]) rfl ?_
          exact ⟨by rw [HN.out.1, HN.out.2.1, HN.out.2.2], below_set2 _ _ _ _ _ _⟩
end Go.Proofs.YtapoajplmejjcaaDoor
