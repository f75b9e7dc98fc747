/- The contract of number. -/
import Derived.Test.YtapoajplmejjcaaDoorCond
import Derived.Test.YtapoajplmejjcaaDoorMatc
namespace Go.Proofs.YtapoajplmejjcaaDoor
open Go.RowKit

set_option maxHeartbeats 1000000 in
theorem number_any (s : ByteArray) (at_ most : Nat) (w : World) (hs : s.size ≤ 9223372036854775807) (ha : at_ ≤ s.size) (hm : most ≤ 255) :
    Calls Tryd.prog 31 #[.string s, .int .i64 at_, .int .i64 most] w fun e w' =>
      e = .returned (.tuple #[.int .i64 (numV s.data.toList at_ most), .int .i64 (numE s.data.toList at_ most), .bool (numB s.data.toList at_ most)]) ∧ w' = w := by
  go_enter Tryd.func31, Tryd.ntmps31
  go_wp2
  go_loop [9, 10] (fun n e => ∃ x k : Nat, at_ ≤ k ∧ k ≤ s.size ∧ x ≤ most ∧ e = .int .i64 k ∧ n = .int .i64 x ∧ Hid (scanD most (s.data.toList.drop at_) 0 = (scanD most (s.data.toList.drop k) x).map fun p => (p.1, p.2 + (k - at_)))) (fun _ e => s.size - (intOf e).toNat)
  case atStart => exact ⟨0, at_, Nat.le_refl _, ha, Nat.zero_le _, rfl, rfl, by unfold Hid; simp⟩
  case round =>
    obtain ⟨x, k, hk0, hk1, hx, rfl, rfl, HR⟩ := hrel
    by_cases hlt : k < s.size
    · by_cases hd : 48 ≤ (s[k].toNat : Int) ∧ (s[k].toNat : Int) ≤ 57
      · obtain ⟨hd0, hd1⟩ := hd
        by_cases hb : (most : Int) < 10 * x + ((s[k].toNat : Int) - 48)
        · have HN : Hid (numV s.data.toList at_ most = 0 ∧ numE s.data.toList at_ most = 0 ∧ numB s.data.toList at_ most = false) := num_none (by rw [HR.out, scan_big hlt hd0 hd1 hb]; rfl)
          go_wp2
          go_ret3
          exact ⟨by rw [HN.out.1, HN.out.2.1, HN.out.2.2]; rfl, rfl⟩
        · have HR' : Hid (scanD most (s.data.toList.drop at_) 0 = (scanD most (s.data.toList.drop (k + 1)) (10 * x + (s[k].toNat - 48))).map fun p => (p.1, p.2 + (k + 1 - at_))) := by
            unfold Hid
            rw [HR.out, scan_step hlt hd0 hd1 hb, scanD_shift, show k - at_ + 1 = k + 1 - at_ from by omega]
          go_wp2
          go_round
          case rel => exact ⟨10 * x + (s[k].toNat - 48), k + 1, by omega, by omega, by omega, by go_num, by go_num, HR'⟩
          case measure => simp [intOf]; omega
      · have HF : Hid (scanD most (s.data.toList.drop at_) 0 = some (x, k - at_)) := by unfold Hid; rw [HR.out, scan_stop hlt hd]; simp
        have hdd : (s[k].toNat : Int) < 48 ∨ (48 ≤ (s[k].toNat : Int) ∧ 57 < (s[k].toNat : Int)) := by omega
        rcases hdd with hd0 | ⟨hd0, hd1⟩
        all_goals
          clear hd HR
          by_cases hA : k = at_
          · obtain rfl := hA
            have HN : Hid (numV s.data.toList k most = 0 ∧ numE s.data.toList k most = 0 ∧ numB s.data.toList k most = false) := num_bad HF.out (.inl (by omega))
            go_wp2
            go_ret3
            exact ⟨by rw [HN.out.1, HN.out.2.1, HN.out.2.2]; try rfl, rfl⟩
          · have e1 : (((k : Nat) : Int) == (at_ : Int)) = false := by rw [beq_eq_false_iff_ne]; omega
            by_cases hB : at_ + 1 < k
            · have haL : at_ < s.size := by omega
              by_cases hz : s[at_] = 48
              · have HN : Hid (numV s.data.toList at_ most = 0 ∧ numE s.data.toList at_ most = 0 ∧ numB s.data.toList at_ most = false) := num_bad HF.out (.inr ⟨by omega, by rw [bytes_getD s at_ haL, hz]⟩)
                have e2 : ((s[at_].toNat : Int) == 48) = true := u8_is hz
                clear hz
                go_wp2
                go_ret3
                exact ⟨by rw [HN.out.1, HN.out.2.1, HN.out.2.2]; try rfl, rfl⟩
              · have HN : Hid (numV s.data.toList at_ most = x ∧ numE s.data.toList at_ most = ((at_ + (k - at_) : Nat) : Int) ∧ numB s.data.toList at_ most = true) := num_good HF.out (by rw [bytes_getD s at_ haL]; exact fun h => h.elim (by omega) (fun h => hz h.2))
                have e2 : ((s[at_].toNat : Int) == 48) = false := u8_not hz
                have HK : Hid (at_ + (k - at_) = k) := by unfold Hid; omega
                clear hz
                go_wp2
                go_ret3
                exact ⟨by rw [HN.out.1, HN.out.2.1, HN.out.2.2]; rw [HK.out]; try rfl, rfl⟩
            · have HN : Hid (numV s.data.toList at_ most = x ∧ numE s.data.toList at_ most = ((at_ + (k - at_) : Nat) : Int) ∧ numB s.data.toList at_ most = true) := num_good HF.out (by omega)
              have HK : Hid (at_ + (k - at_) = k) := by unfold Hid; omega
              go_wp2
              go_ret3
              exact ⟨by rw [HN.out.1, HN.out.2.1, HN.out.2.2]; rw [HK.out]; try rfl, rfl⟩
    · obtain rfl : k = s.size := by omega
      have HF : Hid (scanD most (s.data.toList.drop at_) 0 = some (x, s.size - at_)) := by unfold Hid; rw [HR.out, scan_end]; simp
      clear HR
      by_cases hA : s.size = at_
      · obtain rfl := hA
        have HN : Hid (numV s.data.toList s.size most = 0 ∧ numE s.data.toList s.size most = 0 ∧ numB s.data.toList s.size most = false) := num_bad HF.out (.inl (by omega))
        go_wp2
        go_ret3
        exact ⟨by rw [HN.out.1, HN.out.2.1, HN.out.2.2]; try rfl, rfl⟩
      · have e1 : (((s.size : Nat) : Int) == (at_ : Int)) = false := by rw [beq_eq_false_iff_ne]; omega
        by_cases hB : at_ + 1 < s.size
        · have haL : at_ < s.size := by omega
          by_cases hz : s[at_] = 48
          · have HN : Hid (numV s.data.toList at_ most = 0 ∧ numE s.data.toList at_ most = 0 ∧ numB s.data.toList at_ most = false) := num_bad HF.out (.inr ⟨by omega, by rw [bytes_getD s at_ haL, hz]⟩)
            have e2 : ((s[at_].toNat : Int) == 48) = true := u8_is hz
            clear hz
            go_wp2
            go_ret3
            exact ⟨by rw [HN.out.1, HN.out.2.1, HN.out.2.2]; try rfl, rfl⟩
          · have HN : Hid (numV s.data.toList at_ most = x ∧ numE s.data.toList at_ most = ((at_ + (s.size - at_) : Nat) : Int) ∧ numB s.data.toList at_ most = true) := num_good HF.out (by rw [bytes_getD s at_ haL]; exact fun h => h.elim (by omega) (fun h => hz h.2))
            have e2 : ((s[at_].toNat : Int) == 48) = false := u8_not hz
            have HK : Hid (at_ + (s.size - at_) = s.size) := by unfold Hid; omega
            clear hz
            go_wp2
            go_ret3
            exact ⟨by rw [HN.out.1, HN.out.2.1, HN.out.2.2]; rw [HK.out]; try rfl, rfl⟩
        · have HN : Hid (numV s.data.toList at_ most = x ∧ numE s.data.toList at_ most = ((at_ + (s.size - at_) : Nat) : Int) ∧ numB s.data.toList at_ most = true) := num_good HF.out (by omega)
          have HK : Hid (at_ + (s.size - at_) = s.size) := by unfold Hid; omega
          go_wp2
          go_ret3
          exact ⟨by rw [HN.out.1, HN.out.2.1, HN.out.2.2]; rw [HK.out]; try rfl, rfl⟩
end Go.Proofs.YtapoajplmejjcaaDoor
