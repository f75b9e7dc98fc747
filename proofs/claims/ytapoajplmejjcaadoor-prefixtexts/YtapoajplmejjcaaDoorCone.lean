/- The contract of Show. -/
import Derived.Test.YtapoajplmejjcaaDoorCond
import Derived.Test.YtapoajplmejjcaaDoorMatb
import Derived.Test.YtapoajplmejjcaaDoorShelf
namespace Go.Proofs.YtapoajplmejjcaaDoor
open Go.RowKit

/-- Itoa of n, in whatever world comes behind w. -/
def IT (w : World) (n : Int) : Prop := ∀ W, Below w.heap.size w W → Calls Tryd.prog 32 #[.int .i64 n] W fun e w' => e = .returned (.string ⟨(Lib.itoa n).toArray⟩) ∧ Below W.heap.size W w'

theorem it_small (w : World) (n : Int) (h0 : 0 ≤ n) (h1 : n < 100) : IT w n := fun W _ => by
  obtain ⟨i, rfl⟩ := Int.eq_ofNat_of_zero_le h0
  refine (Tryd.strconv_Itoa_small i (by omega) W).mono fun e w' ⟨he, hw⟩ => ⟨?_, hw ▸ Below.refl _ _⟩
  have e2 : Lib.itoa (i : Int) = Lib.decDigits i := by unfold Lib.itoa; rw [if_neg (by omega)]; rfl
  rw [he, e2]

theorem tab_later {w W : World} (hb : Below w.heap.size w W) {n : String} {k : IntKind} {zs : List Int} (h : Lib.TabIs Tryd.prog w n k zs) : Lib.TabIs Tryd.prog W n k zs := by
  unfold Lib.TabIs World.var? at h ⊢
  cases hg : Tryd.prog.globalNamed n with
  | none => rw [hg] at h; cases h
  | some g =>
    rw [hg] at h
    simp only [Option.bind_some] at h ⊢
    by_cases hlt : g < w.heap.size
    · rw [hb.block g hlt]; exact h
    · rw [Array.getElem?_eq_none (by omega)] at h; cases h

theorem it_tab (w : World) (n : Int) (h0 : -9223372036854775808 ≤ n) (h1 : n ≤ 9223372036854775807) (htab : Lib.TabIs Tryd.prog w "internal/strconv.uint64pow10" .u64 Lib.pow10Tab) : IT w n := fun W hb =>
  (Tryd.strconv_Itoa n h0 h1 W (tab_later hb htab)).mono fun e w' ⟨he, k, os, hw⟩ => ⟨he, by
    rw [hw]
    exact ⟨rfl, rfl, rfl, by simp [Sort.grow, World.drewN], fun k hk => by simp [Sort.grow, World.drewN, Array.getElem?_append, hk]⟩⟩

theorem show_any (a l : Int) (w : World) (ha0 : 0 ≤ a) (ha1 : a < 4294967296) (hl0 : -9223372036854775808 ≤ l) (hl1 : l ≤ 9223372036854775807)
    (hI : ∀ k, k < 4 → IT w (byteI a k)) (hJ : IT w l) :
    Calls Tryd.prog 28 #[.agg #[.int .u32 a, .int .i64 l]] w fun e w' => e = .returned (.string ⟨(showL a l).toArray⟩) ∧ Below w.heap.size w w' := by
  have HI : Hid (∀ k, k < 4 → IT w (byteI a k)) := hI
  have HJ : Hid (IT w l) := hJ
  clear hI hJ
  go_enter Tryd.func28, Tryd.ntmps28
  go_wp2
  go_loopw [3, 4, 5, 6] (fun t _ _ i w' => ∃ k : Nat, k ≤ 4 ∧ i = .int .i64 k ∧ t = .string ⟨(showP a k).toArray⟩ ∧ Below (w.heap.size + 1) (w.alloc (.cells #[.int .u32 a, .int .i64 l] 24)) w') (fun _ _ _ i _ => 4 - (intOf i).toNat)
  case atStart => exact ⟨0, by omega, rfl, rfl, Below.refl _ _⟩
  case round =>
    obtain ⟨k, hk, rfl, rfl, hb⟩ := hrel
    have c0 : wr.cell? ⟨w.heap.size, 0, none⟩ = some (.int .u32 a) := by rw [hb.cell (by simp)]; simp [go_sem]
    have c1 : wr.cell? ⟨w.heap.size, 1, none⟩ = some (.int .i64 l) := by rw [hb.cell (by simp)]; simp [go_sem]
    have hsp := showP_len a k
    have hw : Below w.heap.size w wr := (below1 _ _).trans (hb.mono (by omega))
    have hz : w.heap.size + 1 ≤ wr.heap.size := by have := hb.size; simpa using this
    obtain ⟨T, HT, hT⟩ : ∃ T : ByteArray, Hid ((⟨(showP a k).toArray⟩ : ByteArray) = T) ∧ T.size ≤ 88 := ⟨_, rfl, by show (showP a k).toArray.size ≤ 88; simp; omega⟩
    rw [HT.out]
    by_cases hlt : k < 4
    · obtain ⟨S, HS, hS⟩ : ∃ S : ByteArray, Hid ((⟨(Lib.itoa (byteI a k)).toArray⟩ : ByteArray) = S) ∧ S.size ≤ 21 := ⟨_, rfl, by show (Lib.itoa (byteI a k)).toArray.size ≤ 21; simp; exact itoa_len a k⟩
      have hit : ∀ d os, Calls Tryd.prog 32 #[.int .i64 (byteI a k)] (Sort.grow (redrawn wr d) os) fun e w'' => e = .returned (.string S) ∧ ∃ p : Regrown, w'' = Sort.grow (redrawn wr p.d) p.os := fun d os => by
        have := HI.out k hlt _ (hw.trans ((below_regrown wr d os).mono hw.size))
        rw [HS.out] at this
        exact Calls.regrown_of this
      have n1 : ¬ 9223372036854775807 < S.size + 1 := by omega
      have n2 : ¬ 9223372036854775807 < T.size + (S.size + 1) := by omega
      have HTS : Hid ((⟨(showP a (k + 1)).toArray⟩ : ByteArray) = T ++ (S ++ ⟨#[sepU k]⟩)) := by
        unfold Hid
        rw [← HT.out, ← HS.out, show (⟨#[sepU k]⟩ : ByteArray) = ⟨[sepU k].toArray⟩ from rfl, cat_list, cat_list]
        rfl
      have hc : k = 0 ∨ k = 1 ∨ k = 2 ∨ k = 3 := by omega
      rcases hc with rfl | rfl | rfl | rfl
      · rw [show byteI a 0 = a / 16777216 from by unfold byteI; simp; try omega] at hit
        go_wp2
        refine wp_region_quiet_below (by kernel_rfl) (by kernel_rfl) ?_
        repeat (go_big_quiet_step (exact hit _ _))
        refine wpQuiet_nil ?_
        intro _ hw'
        obtain ⟨⟨dq, osq⟩, hw''⟩ := hw'
        subst hw''
        go_wp2
        go_roundw
        case rel => exact ⟨1, by omega, rfl, by rw [HTS.out]; rfl, hb.trans ((below_regrown wr dq osq).mono hz)⟩
        case measure => simp [intOf]
      · rw [show byteI a 1 = a / 65536 % 256 from by unfold byteI; simp; try omega] at hit
        go_wp2
        refine wp_region_quiet_below (by kernel_rfl) (by kernel_rfl) ?_
        repeat (go_big_quiet_step (exact hit _ _))
        refine wpQuiet_nil ?_
        intro _ hw'
        obtain ⟨⟨dq, osq⟩, hw''⟩ := hw'
        subst hw''
        go_wp2
        go_roundw
        case rel => exact ⟨2, by omega, rfl, by rw [HTS.out]; rfl, hb.trans ((below_regrown wr dq osq).mono hz)⟩
        case measure => simp [intOf]
      · rw [show byteI a 2 = a / 256 % 256 from by unfold byteI; simp; try omega] at hit
        go_wp2
        refine wp_region_quiet_below (by kernel_rfl) (by kernel_rfl) ?_
        repeat (go_big_quiet_step (exact hit _ _))
        refine wpQuiet_nil ?_
        intro _ hw'
        obtain ⟨⟨dq, osq⟩, hw''⟩ := hw'
        subst hw''
        go_wp2
        go_roundw
        case rel => exact ⟨3, by omega, rfl, by rw [HTS.out]; rfl, hb.trans ((below_regrown wr dq osq).mono hz)⟩
        case measure => simp [intOf]
      · rw [show byteI a 3 = a % 256 from by unfold byteI; simp; try omega] at hit
        go_wp2
        refine wp_region_quiet_below (by kernel_rfl) (by kernel_rfl) ?_
        repeat (go_big_quiet_step (exact hit _ _))
        refine wpQuiet_nil ?_
        intro _ hw'
        obtain ⟨⟨dq, osq⟩, hw''⟩ := hw'
        subst hw''
        go_wp2
        go_roundw
        case rel => exact ⟨4, by omega, rfl, by rw [HTS.out]; rfl, hb.trans ((below_regrown wr dq osq).mono hz)⟩
        case measure => simp [intOf]
    · obtain rfl : k = 4 := by omega
      obtain ⟨S, HS, hS⟩ : ∃ S : ByteArray, Hid ((⟨(Lib.itoa l).toArray⟩ : ByteArray) = S) ∧ S.size ≤ 21 := ⟨_, rfl, by show (Lib.itoa l).toArray.size ≤ 21; simp; exact Lib.itoa_length_le l hl0 hl1⟩
      have hit := HJ.out wr hw
      rw [HS.out] at hit
      have n1 : ¬ 9223372036854775807 < T.size + S.size := by omega
      have HTS : Hid ((⟨(showL a l).toArray⟩ : ByteArray) = T ++ S) := by
        unfold Hid
        rw [← HT.out, ← HS.out, cat_list]
        rfl
      go_wp2_with (go_at_call 32; refine hit.mono ?_; rintro e w2 ⟨rfl, hb2⟩)
      go_ret
      exact ⟨by rw [HTS.out]; rfl, hw.trans (hb2.mono hw.size)⟩
end Go.Proofs.YtapoajplmejjcaaDoor
