/- The program's neighbour: the contract of Hello. -/
import Derived.Test.YtenkghcdhanciaaProH
import Derived.Deep.RegionHeld3
namespace Go.Proofs.Ytenkghcdhanciaa
open Go.RowKit

theorem shl0 (k : Nat) : IntKind.u16.wrap (0 * 2 ^ k) = 0 := by rw [Int.zero_mul]; rfl
theorem or_came {n : Int} (h0 : 0 ≤ n) (h1 : n < 65536) : bits .or .u16 (n / 2) 32768 = 32768 + n / 2 := by
  obtain ⟨k, rfl⟩ : ∃ k : Nat, n = (k : Int) := ⟨n.toNat, by omega⟩
  have hk : k / 2 < 2 ^ 15 := by omega
  have h2 := u16_or_nat (k / 2) 32768 (by omega) (by omega)
  have h3 : k / 2 ||| 32768 = 32768 + k / 2 := by
    rw [Nat.or_comm]
    have := Nat.two_pow_add_eq_or_of_lt hk 1
    simpa using this.symm
  rw [h3] at h2
  have h4 : ((k / 2 : Nat) : Int) = (k : Int) / 2 := by omega
  have h5 : ((32768 + k / 2 : Nat) : Int) = 32768 + (k : Int) / 2 := by omega
  rw [h4, h5] at h2
  exact h2
theorem near_is {a b : Int} {v : Bool} (hv : nearB a b = v) (w : World) : Calls Try.prog 24 #[.int .u16 a, .int .u16 b] w fun e w' => e = .returned (.bool v) ∧ w = w' := by
  rw [← hv]; exact (near_any a b w).mono fun _ _ h => ⟨h.1, h.2.symm⟩
theorem newer_is {a b : Int} {v : Bool} (hv : newerB a b = v) (w : World) : Calls Try.prog 25 #[.int .u16 a, .int .u16 b] w fun e w' => e = .returned (.bool v) ∧ w = w' := by
  rw [← hv]; exact (newer_any a b w).mono fun _ _ h => ⟨h.1, h.2.symm⟩
section
variable {N : Nat} {s : Nh}
theorem hello_fin {w W : World} {q : Int} (hG : GoodN s) (hr : RawN W N (numN (inN true (baseN s q))) ((q + 1) % 65536) true s.t) (hk : Keep (fun k => k = N) w W) : DoneM w N (helloN s q) (.returned (.tuple #[])) W :=
  ⟨rfl, ⟨hr, goodN_hello hG q⟩, hk⟩
set_option maxHeartbeats 1000000 in
theorem phello_new (q : Int) (w : World) (h : MemN w N s) (hy : s.y = false) : Calls Try.prog 12 #[.pointer (some ⟨N, 0, none⟩), .int .u16 q] w (DoneM w N (helloN s q)) := by
  have HM : Hid (MemN w N s) := h
  have R0 := h.1
  obtain ⟨x, hx⟩ : ∃ x, s.x = x := ⟨_, rfl⟩
  obtain ⟨n, hn⟩ : ∃ n, numN s.h = n := ⟨_, rfl⟩
  have HB : Hid (numN (inN true (baseN s q)) = 32768) := by unfold Hid baseN; rw [if_pos (.inl hy)]; decide
  rw [hx, hy, hn] at R0
  clear h hn hx hy
  have d0 := R0.c0
  have d1 := R0.c1
  have d2 := R0.c2
  have df := R0.f
  have Kw : Hid (Keep (fun k => k = N) w w) := Keep.refl _ _
  have HR0 : Hid (_) := R0
  clear R0
  go_enter Try.func12, Try.ntmps12
  go_wp2
  obtain ⟨W1, hW1⟩ : ∃ W, W = w.setCell ⟨N, 0, none⟩ (.int .u16 0) := ⟨_, rfl⟩
  have R1 := (HR0.out.set0 0)
  have K1 : Hid (Keep (fun k => k = N) w W1) := by rw [hW1]; exact keepS Kw.out _ _
  rw [← hW1] at R1 ⊢
  clear d0 d1 d2 df HR0 Kw hW1 
  have d0 := R1.c0
  have d1 := R1.c1
  have d2 := R1.c2
  have df := R1.f
  have HR1 : Hid (_) := R1
  clear R1
  go_region
  obtain ⟨W2, hW2⟩ : ∃ W, W = (W1.setCell ⟨N, 0, none⟩ (.int .u16 0)).drew := ⟨_, rfl⟩
  have R2 := (HR1.out.set0 0).drew
  have K2 : Hid (Keep (fun k => k = N) w W2) := by rw [hW2]; exact (keepS K1.out _ _).drew
  rw [← hW2] at R2 ⊢
  clear d0 d1 d2 df HR1 K1 hW2 W1
  have d0 := R2.c0
  have d1 := R2.c1
  have d2 := R2.c2
  have df := R2.f
  have HR2 : Hid (_) := R2
  clear R2
  go_wp2
  obtain ⟨W3, hW3⟩ : ∃ W, W = W2.setCell ⟨N, 1, none⟩ (.int .u16 q) := ⟨_, rfl⟩
  have R3 := (HR2.out.set1 q)
  have K3 : Hid (Keep (fun k => k = N) w W3) := by rw [hW3]; exact keepS K2.out _ _
  rw [← hW3] at R3 ⊢
  clear d0 d1 d2 df HR2 K2 hW3 W2
  have d0 := R3.c0
  have d1 := R3.c1
  have d2 := R3.c2
  have df := R3.f
  have HR3 : Hid (_) := R3
  clear R3
  go_region
  obtain ⟨W4, hW4⟩ : ∃ W, W = (W3.setCell ⟨N, 0, none⟩ (.int .u16 0)).drew := ⟨_, rfl⟩
  have R4 := (HR3.out.set0 0).drew
  have K4 : Hid (Keep (fun k => k = N) w W4) := by rw [hW4]; exact (keepS K3.out _ _).drew
  rw [← hW4] at R4 ⊢
  clear d0 d1 d2 df HR3 K3 hW4 W3
  have d0 := R4.c0
  have d1 := R4.c1
  have d2 := R4.c2
  have df := R4.f
  have HR4 : Hid (_) := R4
  clear R4
  go_wp2
  refine bodyPost_ret (v := .tuple #[]) (by simp [results, Try.results12, go_sem]) rfl ?_
  refine hello_fin HM.out.2 ?_ (keepS (keepS (keepS K4.out _ _) _ _) _ _)
  rw [HB.out, u16_wrap]
  exact ((HR4.out.set0 _).set1 _).set2 _
set_option maxHeartbeats 1000000 in
theorem phello_far (q : Int) (w : World) (h : MemN w N s) (hy : s.y = true) (hf : 17 ≤ aheadN s q ∧ 17 ≤ behindN s q) : Calls Try.prog 12 #[.pointer (some ⟨N, 0, none⟩), .int .u16 q] w (DoneM w N (helloN s q)) := by
  have HM : Hid (MemN w N s) := h
  have R0 := h.1
  obtain ⟨x, hx⟩ : ∃ x, s.x = x := ⟨_, rfl⟩
  obtain ⟨n, hn⟩ : ∃ n, numN s.h = n := ⟨_, rfl⟩
  have hne : nearB q x = false := by unfold nearB; have := hf.1; have := hf.2; simp only [aheadN, behindN, hx] at *; simp only [decide_eq_false_iff_not]; omega
  have HB : Hid (numN (inN true (baseN s q)) = 32768) := by unfold Hid baseN; rw [if_pos (.inr hf)]; decide
  clear hf
  rw [hx, hy, hn] at R0
  clear h hn hx hy
  have d0 := R0.c0
  have d1 := R0.c1
  have d2 := R0.c2
  have df := R0.f
  have Kw : Hid (Keep (fun k => k = N) w w) := Keep.refl _ _
  have HR0 : Hid (_) := R0
  clear R0
  go_enter Try.func12, Try.ntmps12
  go_wp2_with (go_at_call 24; refine (near_is hne _).mono ?_; rintro e wc ⟨rfl, rfl⟩)
  obtain ⟨W1, hW1⟩ : ∃ W, W = w.setCell ⟨N, 0, none⟩ (.int .u16 0) := ⟨_, rfl⟩
  have R1 := (HR0.out.set0 0)
  have K1 : Hid (Keep (fun k => k = N) w W1) := by rw [hW1]; exact keepS Kw.out _ _
  rw [← hW1] at R1 ⊢
  clear d0 d1 d2 df HR0 Kw hW1 
  have d0 := R1.c0
  have d1 := R1.c1
  have d2 := R1.c2
  have df := R1.f
  have HR1 : Hid (_) := R1
  clear R1
  go_region
  obtain ⟨W2, hW2⟩ : ∃ W, W = (W1.setCell ⟨N, 0, none⟩ (.int .u16 0)).drew := ⟨_, rfl⟩
  have R2 := (HR1.out.set0 0).drew
  have K2 : Hid (Keep (fun k => k = N) w W2) := by rw [hW2]; exact (keepS K1.out _ _).drew
  rw [← hW2] at R2 ⊢
  clear d0 d1 d2 df HR1 K1 hW2 W1
  have d0 := R2.c0
  have d1 := R2.c1
  have d2 := R2.c2
  have df := R2.f
  have HR2 : Hid (_) := R2
  clear R2
  go_wp2
  obtain ⟨W3, hW3⟩ : ∃ W, W = W2.setCell ⟨N, 1, none⟩ (.int .u16 q) := ⟨_, rfl⟩
  have R3 := (HR2.out.set1 q)
  have K3 : Hid (Keep (fun k => k = N) w W3) := by rw [hW3]; exact keepS K2.out _ _
  rw [← hW3] at R3 ⊢
  clear d0 d1 d2 df HR2 K2 hW3 W2
  have d0 := R3.c0
  have d1 := R3.c1
  have d2 := R3.c2
  have df := R3.f
  have HR3 : Hid (_) := R3
  clear R3
  go_region
  obtain ⟨W4, hW4⟩ : ∃ W, W = (W3.setCell ⟨N, 0, none⟩ (.int .u16 0)).drew := ⟨_, rfl⟩
  have R4 := (HR3.out.set0 0).drew
  have K4 : Hid (Keep (fun k => k = N) w W4) := by rw [hW4]; exact (keepS K3.out _ _).drew
  rw [← hW4] at R4 ⊢
  clear d0 d1 d2 df HR3 K3 hW4 W3
  have d0 := R4.c0
  have d1 := R4.c1
  have d2 := R4.c2
  have df := R4.f
  have HR4 : Hid (_) := R4
  clear R4
  go_wp2
  refine bodyPost_ret (v := .tuple #[]) (by simp [results, Try.results12, go_sem]) rfl ?_
  refine hello_fin HM.out.2 ?_ (keepS (keepS (keepS K4.out _ _) _ _) _ _)
  rw [HB.out, u16_wrap]
  exact ((HR4.out.set0 _).set1 _).set2 _
set_option maxHeartbeats 1000000 in
theorem phello_back (q : Int) (w : World) (h : MemN w N s) (hy : s.y = true) (ha : 17 ≤ aheadN s q) (hd : behindN s q < 17) : Calls Try.prog 12 #[.pointer (some ⟨N, 0, none⟩), .int .u16 q] w (DoneM w N (helloN s q)) := by
  have HM : Hid (MemN w N s) := h
  have R0 := h.1
  obtain ⟨x, hx⟩ : ∃ x, s.x = x := ⟨_, rfl⟩
  obtain ⟨n, hn⟩ : ∃ n, numN s.h = n := ⟨_, rfl⟩
  have hne : nearB q x = true := by unfold nearB; simp only [aheadN, behindN, hx] at *; simp only [decide_eq_true_eq]; omega
  have hnw : newerB x q = true := by unfold newerB; simp only [aheadN, behindN, hx] at *; simp only [decide_eq_true_eq]; omega
  obtain ⟨kb, hkb⟩ : ∃ k : Nat, (x - q) % 65536 = (k : Int) := ⟨((x - q) % 65536).toNat, by omega⟩
  have hwb : IntKind.u16.wrap (x - q) = (kb : Int) := by rw [← hkb]; exact u16_wrap _
  have hb16 : kb ≤ 16 := by simp only [behindN, hx] at hd; omega
  have hmin : min kb 16 = kb := by omega
  obtain ⟨m, hm⟩ : ∃ m, n * 2 ^ kb % 65536 = m := ⟨_, rfl⟩
  have hshl : IntKind.u16.wrap (n * 2 ^ kb) = m := by rw [u16_wrap]; exact hm
  have hm0 : 0 ≤ m := by omega
  have hm1 : m < 65536 := by omega
  have hor : bits .or .u16 (m / 2) 32768 = 32768 + m / 2 := or_came hm0 hm1
  have HB : Hid (numN (inN true (baseN s q)) = 32768 + m / 2) := by
    unfold Hid baseN
    rw [if_neg (by simp [hy]; omega), if_neg (by omega), numN_in1 (upN_len _ HM.out.2.l), numN_up _ HM.out.2.l, hn]
    unfold behindN
    rw [hx, hkb, Int.toNat_natCast, hm]
  clear ha hd
  rw [hx, hy, hn] at R0
  clear h hn hx hy
  have d0 := R0.c0
  have d1 := R0.c1
  have d2 := R0.c2
  have df := R0.f
  have Kw : Hid (Keep (fun k => k = N) w w) := Keep.refl _ _
  have HR0 : Hid (_) := R0
  clear R0
  go_enter Try.func12, Try.ntmps12
  go_wp2_with (first | (go_at_call 24; refine (near_is hne _).mono ?_; rintro e wc ⟨rfl, rfl⟩) | (go_at_call 25; refine (newer_is hnw _).mono ?_; rintro e wc ⟨rfl, rfl⟩))
  go_region
  obtain ⟨W1, hW1⟩ : ∃ W, W = (w.setCell ⟨N, 0, none⟩ (.int .u16 m)).drew := ⟨_, rfl⟩
  have R1 := (HR0.out.set0 m).drew
  have K1 : Hid (Keep (fun k => k = N) w W1) := by rw [hW1]; exact (keepS Kw.out _ _).drew
  rw [← hW1] at R1 ⊢
  clear d0 d1 d2 df HR0 Kw hW1 
  have d0 := R1.c0
  have d1 := R1.c1
  have d2 := R1.c2
  have df := R1.f
  have HR1 : Hid (_) := R1
  clear R1
  go_wp2
  obtain ⟨W2, hW2⟩ : ∃ W, W = W1.setCell ⟨N, 1, none⟩ (.int .u16 q) := ⟨_, rfl⟩
  have R2 := (HR1.out.set1 q)
  have K2 : Hid (Keep (fun k => k = N) w W2) := by rw [hW2]; exact keepS K1.out _ _
  rw [← hW2] at R2 ⊢
  clear d0 d1 d2 df HR1 K1 hW2 W1
  have d0 := R2.c0
  have d1 := R2.c1
  have d2 := R2.c2
  have df := R2.f
  have HR2 : Hid (_) := R2
  clear R2
  go_region
  obtain ⟨W3, hW3⟩ : ∃ W, W = (W2.setCell ⟨N, 0, none⟩ (.int .u16 m)).drew := ⟨_, rfl⟩
  have R3 := (HR2.out.set0 m).drew
  have K3 : Hid (Keep (fun k => k = N) w W3) := by rw [hW3]; exact (keepS K2.out _ _).drew
  rw [← hW3] at R3 ⊢
  clear d0 d1 d2 df HR2 K2 hW3 W2
  have d0 := R3.c0
  have d1 := R3.c1
  have d2 := R3.c2
  have df := R3.f
  have HR3 : Hid (_) := R3
  clear R3
  go_wp2
  refine bodyPost_ret (v := .tuple #[]) (by simp [results, Try.results12, go_sem]) rfl ?_
  refine hello_fin HM.out.2 ?_ (keepS (keepS (keepS K3.out _ _) _ _) _ _)
  rw [HB.out, u16_wrap]
  exact ((HR3.out.set0 _).set1 _).set2 _
set_option maxHeartbeats 1000000 in
theorem phello_ahead (q : Int) (w : World) (h : MemN w N s) (hy : s.y = true) (ha : aheadN s q < 17) : Calls Try.prog 12 #[.pointer (some ⟨N, 0, none⟩), .int .u16 q] w (DoneM w N (helloN s q)) := by
  have HM : Hid (MemN w N s) := h
  have R0 := h.1
  obtain ⟨x, hx⟩ : ∃ x, s.x = x := ⟨_, rfl⟩
  obtain ⟨n, hn⟩ : ∃ n, numN s.h = n := ⟨_, rfl⟩
  have hne : nearB q x = true := by unfold nearB; simp only [aheadN, hx] at *; simp only [decide_eq_true_eq]; omega
  have hnw : newerB x q = false := by unfold newerB; simp only [aheadN, hx] at *; simp only [decide_eq_false_iff_not]; omega
  obtain ⟨ka, hka⟩ : ∃ k : Nat, (q - x) % 65536 = (k : Int) := ⟨((q - x) % 65536).toNat, by omega⟩
  have hwa : IntKind.u16.wrap (q - x) = (ka : Int) := by rw [← hka]; exact u16_wrap _
  have ha16 : ka ≤ 16 := by simp only [aheadN, hx] at ha; omega
  have hmin : min ka 16 = ka := by omega
  obtain ⟨m, hm⟩ : ∃ m, n / 2 ^ ka = m := ⟨_, rfl⟩
  have hn16 := numN16 HM.out.2.l
  have hd16 := numN16 (downN_len ka HM.out.2.l)
  rw [numN_down ka HM.out.2.l, hn, hm] at hd16
  obtain ⟨hm0, hm1⟩ := hd16
  have hor : bits .or .u16 (m / 2) 32768 = 32768 + m / 2 := or_came hm0 hm1
  have HB : Hid (numN (inN true (baseN s q)) = 32768 + m / 2) := by
    unfold Hid baseN
    rw [if_neg (by simp [hy]; omega), if_pos (by omega), numN_in1 (downN_len _ HM.out.2.l), numN_down _ HM.out.2.l, hn]
    unfold aheadN
    rw [hx, hka, Int.toNat_natCast, hm]
  clear ha hn16
  rw [hx, hy, hn] at R0
  clear h hn hx hy
  have d0 := R0.c0
  have d1 := R0.c1
  have d2 := R0.c2
  have df := R0.f
  have Kw : Hid (Keep (fun k => k = N) w w) := Keep.refl _ _
  have HR0 : Hid (_) := R0
  clear R0
  go_enter Try.func12, Try.ntmps12
  go_wp2_with (first | (go_at_call 24; refine (near_is hne _).mono ?_; rintro e wc ⟨rfl, rfl⟩) | (go_at_call 25; refine (newer_is hnw _).mono ?_; rintro e wc ⟨rfl, rfl⟩))
  go_region
  obtain ⟨W1, hW1⟩ : ∃ W, W = (w.setCell ⟨N, 0, none⟩ (.int .u16 m)).drew := ⟨_, rfl⟩
  have R1 := (HR0.out.set0 m).drew
  have K1 : Hid (Keep (fun k => k = N) w W1) := by rw [hW1]; exact (keepS Kw.out _ _).drew
  rw [← hW1] at R1 ⊢
  clear d0 d1 d2 df HR0 Kw hW1 
  have d0 := R1.c0
  have d1 := R1.c1
  have d2 := R1.c2
  have df := R1.f
  have HR1 : Hid (_) := R1
  clear R1
  go_wp2
  refine bodyPost_ret (v := .tuple #[]) (by simp [results, Try.results12, go_sem]) rfl ?_
  refine hello_fin HM.out.2 ?_ (keepS (keepS (keepS K1.out _ _) _ _) _ _)
  rw [HB.out, u16_wrap]
  exact ((HR1.out.set0 _).set1 _).set2 _
theorem phello_any (q : Int) (w : World) (h : MemN w N s) : Calls Try.prog 12 #[.pointer (some ⟨N, 0, none⟩), .int .u16 q] w (DoneM w N (helloN s q)) := by
  by_cases hy : s.y = true
  · by_cases ha : aheadN s q < 17
    · exact phello_ahead q w h hy ha
    · by_cases hd : behindN s q < 17
      · exact phello_back q w h hy (by omega) hd
      · exact phello_far q w h hy ⟨by omega, by omega⟩
  · exact phello_new q w h (by simpa using hy)
end
end Go.Proofs.Ytenkghcdhanciaa
