/- Contracts of the program's drop and prune. -/
import Derived.Test.YtifokdebocgaiaaProD
namespace Go.Proofs.Ytifokdebocgaiaa
open Go.RowKit

theorem leadN_any (N g cap : Nat) (most cnt : Int) (ns : List Nd) (k t : Nat) (w : World) (hT : TrM w N g cap most cnt ns) (hk : k < ns.length) (hu : (nd ns k).u < ns.length) :
    Calls Try.prog 40 #[.pointer (some ⟨N, 0, none⟩), .int .i64 (k : Int), .int .i64 (t : Int)] w fun e w' => e = .returned (.tuple #[]) ∧ TrM w' N g cap most cnt (leadN ns k t) ∧ Keep (twoB N g) w w' :=
  lead_any N g cap most cnt ns k t _ _ _ w hT (at_nd hk) rfl (at_nd hu)
theorem leadZ_any (N g cap : Nat) (most cnt : Int) (ns : List Nd) (k : Nat) (w : World) (hT : TrM w N g cap most cnt ns) (hk : k < ns.length) (hu : (nd ns k).u < ns.length) :
    Calls Try.prog 40 #[.pointer (some ⟨N, 0, none⟩), .int .i64 (k : Int), .int .i64 0] w fun e w' => e = .returned (.tuple #[]) ∧ TrM w' N g cap most cnt (leadN ns k 0) ∧ Keep (twoB N g) w w' := leadN_any N g cap most cnt ns k 0 w hT hk hu
theorem moveN_any (N g cap : Nat) (most cnt : Int) (ns : List Nd) (f t : Nat) (w : World) (hT : TrM w N g cap most cnt ns) (hf : f < ns.length) (hu : (nd ns f).u < ns.length) (ht : t < ns.length) (hft : f ≠ t) (ha : (nd (leadN ns f t) f).a < ns.length) (hb : (nd (leadN ns f t) f).b < ns.length) :
    Calls Try.prog 41 #[.pointer (some ⟨N, 0, none⟩), .int .i64 (f : Int), .int .i64 (t : Int)] w fun e w' => e = .returned (.tuple #[]) ∧ TrM w' N g cap most cnt (moveN (leadN ns f t) f t) ∧ Keep (twoB N g) w w' :=
  move_any N g cap most cnt ns f t _ _ _ w hT (at_nd hf) rfl (at_nd hu) ht hft ha hb
/-- The kids stay within the nodes. -/
theorem leadN_kids {ns : List Nd} {k t j : Nat} (hu : (nd ns k).u < ns.length) (ht : t < ns.length) (ha : (nd ns j).a < ns.length) (hb : (nd ns j).b < ns.length) : (nd (leadN ns k t) j).a < ns.length ∧ (nd (leadN ns k t) j).b < ns.length := by
  unfold leadN
  rw [nd_set hu]
  by_cases h : j = (nd ns k).u
  · rw [if_pos h, ← h]
    unfold swK
    constructor
    · show (if _ then _ else _) < _
      split
      · exact ht
      · exact ha
    · show (if _ then _ else _) < _
      split
      · exact ht
      · exact hb
  · rw [if_neg h]; exact ⟨ha, hb⟩
theorem leadN_u {ns : List Nd} {k t j : Nat} (hu : (nd ns k).u < ns.length) : (nd (leadN ns k t) j).u = (nd ns j).u := by
  unfold leadN
  rw [nd_set hu]
  split
  · rename_i h; rw [h]; rfl
  · rfl
set_option maxHeartbeats 2000000 in
theorem drop_any (N g cap : Nat) (most cnt : Int) (ns : List Nd) (ws : Nat → List Bool) (k : Nat) (w : World) (hT : TrM w N g cap most cnt ns) (hG : Good ns ws) (hk : k < ns.length) (h0 : k ≠ 0) :
    Calls Try.prog 39 #[.pointer (some ⟨N, 0, none⟩), .int .i64 (k : Int)] w fun e w' => ∃ r : Nat, e = .returned (.int .i64 (r : Int)) ∧ r < ns.length - 1 ∧ TrM w' N g cap most cnt (dropN ns k) ∧ Keep (twoB N g) w w' := by
  have HT : Hid (TrM w N g cap most cnt ns) := hT
  have z0 := hT.c0
  have d2 := (hT.at (at_nd hk)).2.2.1
  have ca := (hT.cap_le).1
  obtain ⟨u, hu⟩ : ∃ u, (nd ns k).u = u := ⟨_, rfl⟩
  have HU : Hid ((nd ns k).u = u) := hu
  obtain ⟨hul, -, hu2⟩ := hG.u_nd hk
  have huk := (hu2 h0).1
  rw [hu] at d2 hul huk
  obtain ⟨m, hm⟩ : ∃ m, ns.length = m + 1 := ⟨ns.length - 1, by omega⟩
  have HM : Hid (ns.length = m + 1) := hm
  have hmu := (hG.u_nd (i := m) (by omega)).1
  have hma := hG.kid_lt (at_nd (i := m) (by omega)) false
  have hmb := hG.kid_lt (at_nd (i := m) (by omega)) true
  have hm1 : (nd (leadN ns k 0) m).u < ns.length := by rw [leadN_u (by rw [hu]; exact hul)]; exact hmu
  have hm2 := leadN_kids (ns := ns) (k := k) (t := 0) (j := m) (by rw [hu]; exact hul) hG.r hma hmb
  have hm3 := leadN_kids (ns := leadN ns k 0) (k := m) (t := k) (j := m) (by rw [leadN_len]; exact hm1) (by rw [leadN_len]; exact hk) (by rw [leadN_len]; exact hm2.1) (by rw [leadN_len]; exact hm2.2)
  rw [leadN_len] at hm3
  have HK1 : Hid (k < ns.length ∧ (nd ns k).u < ns.length) := ⟨hk, by rw [hu]; exact hul⟩
  have HM1 : Hid ((nd (leadN ns k 0) m).u < (leadN ns k 0).length ∧ (nd (leadN (leadN ns k 0) m k) m).a < (leadN ns k 0).length ∧ (nd (leadN (leadN ns k 0) m k) m).b < (leadN ns k 0).length) := by unfold Hid; rw [leadN_len]; exact ⟨hm1, hm3⟩
  rw [hm] at z0 ca hk hul
  have hk' : (k : Int) < (m : Int) + 1 := by omega
  have hmc : (m : Int) ≤ (cap : Int) := by omega
  have hcm := (hT.cap_le).2
  unfold maxLen at hcm
  have wm : wrap64 (m : Int) = (m : Int) := by unfold wrap64; omega
  clear hcm
  clear hT hG hu hu2 hm hmu hma hmb hm1 hm2 hm3
  by_cases hkm : k = m
  · have HD : Hid (dropN ns k = (leadN ns k 0).take m) := by unfold Hid dropN; rw [HM.out, if_pos (by omega)]; rfl
    have t1 : ((k : Int) != (m : Int)) = false := by rw [bne_eq_false_iff_eq]; omega
    have t2 : ((u : Int) == (m : Int)) = false := by rw [beq_eq_false_iff_ne]; omega
    have hum : u < m := by omega
    clear hkm
    go_enter Try.func39, Try.ntmps39
    go_wp2
    go_quiet (fail)
    go_wp2_with (go_at_call 40; refine (leadZ_any N g cap most cnt ns k _ (HT.out.later (below_drewN (Below.refl _ _) _)) HK1.out.1 HK1.out.2).mono ?_; rintro e W1 ⟨rfl, hT1, hK1⟩; have HT1 : Hid (TrM W1 N g cap most cnt (leadN ns k 0)) := hT1; have HKp : Hid (Keep (twoB N g) w W1) := keep_then (below_drewN (Below.refl _ _) _) hK1; have z0 := hT1.c0; rw [leadN_len, HM.out] at z0; have fz := hT1.fz; clear hT1 hK1)
    go_ret
    have hP := HT1.out.cut (k := m) (by rw [leadN_len, HM.out]; omega)
    exact ⟨u, rfl, by rw [HM.out]; omega, by rw [HD.out]; exact hP, HKp.out.setCell (.inl rfl) _⟩
  · have HD : Hid (dropN ns k = (moveN (leadN (leadN ns k 0) m k) m k).take m) := by unfold Hid dropN; rw [HM.out, if_neg (by omega)]; rfl
    have t1 : ((k : Int) != (m : Int)) = true := by rw [bne_iff_ne]; omega
    have HH : Hid (k < (leadN ns k 0).length ∧ m < (leadN ns k 0).length ∧ m ≠ k ∧ (moveN (leadN (leadN ns k 0) m k) m k).length = m + 1) := ⟨by rw [leadN_len, HM.out]; omega, by rw [leadN_len, HM.out]; omega, fun e => hkm e.symm, by unfold moveN; rw [List.length_set, moveK_len, leadN_len, leadN_len, HM.out]⟩
    by_cases hum : u = m
    · have t2 : ((u : Int) == (m : Int)) = true := by rw [beq_iff_eq]; omega
      have HR : Hid (k < m) := by unfold Hid; omega
      clear hkm hum
      go_enter Try.func39, Try.ntmps39
      go_wp2
      go_quiet (fail)
      go_wp2_with (first
        | (go_at_call 40; refine (leadZ_any N g cap most cnt ns k _ (HT.out.later (below_drewN (Below.refl _ _) _)) HK1.out.1 HK1.out.2).mono ?_; rintro e W1 ⟨rfl, hT1, hK1⟩; have HT1 : Hid (TrM W1 N g cap most cnt (leadN ns k 0)) := hT1; have HKp : Hid (Keep (twoB N g) w W1) := keep_then (below_drewN (Below.refl _ _) _) hK1; clear hT1 hK1)
        | (go_at_call 41; refine (moveN_any N g cap most cnt (leadN ns k 0) m k _ HT1.out HH.out.2.1 HM1.out.1 HH.out.1 HH.out.2.2.1 HM1.out.2.1 HM1.out.2.2).mono ?_; rintro e W2 ⟨rfl, hT2, hK2⟩; have HT2 : Hid (TrM W2 N g cap most cnt (moveN (leadN (leadN ns k 0) m k) m k)) := hT2; have HKp2 : Hid (Keep (twoB N g) w W2) := HKp.out.trans hK2 (fun _ _ h => h); have z0 := hT2.c0; rw [HH.out.2.2.2] at z0; have fz := hT2.fz; clear hT2 hK2))
      go_ret
      have hP := HT2.out.cut (k := m) (by rw [HH.out.2.2.2]; omega)
      exact ⟨k, rfl, by rw [HM.out]; have := HR.out; omega, by rw [HD.out]; exact hP, HKp2.out.setCell (.inl rfl) _⟩
    · have t2 : ((u : Int) == (m : Int)) = false := by rw [beq_eq_false_iff_ne]; omega
      have HR : Hid (u < m) := by unfold Hid; omega
      clear hkm hum
      go_enter Try.func39, Try.ntmps39
      go_wp2
      go_quiet (fail)
      go_wp2_with (first
        | (go_at_call 40; refine (leadZ_any N g cap most cnt ns k _ (HT.out.later (below_drewN (Below.refl _ _) _)) HK1.out.1 HK1.out.2).mono ?_; rintro e W1 ⟨rfl, hT1, hK1⟩; have HT1 : Hid (TrM W1 N g cap most cnt (leadN ns k 0)) := hT1; have HKp : Hid (Keep (twoB N g) w W1) := keep_then (below_drewN (Below.refl _ _) _) hK1; clear hT1 hK1)
        | (go_at_call 41; refine (moveN_any N g cap most cnt (leadN ns k 0) m k _ HT1.out HH.out.2.1 HM1.out.1 HH.out.1 HH.out.2.2.1 HM1.out.2.1 HM1.out.2.2).mono ?_; rintro e W2 ⟨rfl, hT2, hK2⟩; have HT2 : Hid (TrM W2 N g cap most cnt (moveN (leadN (leadN ns k 0) m k) m k)) := hT2; have HKp2 : Hid (Keep (twoB N g) w W2) := HKp.out.trans hK2 (fun _ _ h => h); have z0 := hT2.c0; rw [HH.out.2.2.2] at z0; have fz := hT2.fz; clear hT2 hK2))
      go_ret
      have hP := HT2.out.cut (k := m) (by rw [HH.out.2.2.2]; omega)
      exact ⟨u, rfl, by rw [HM.out]; have := HR.out; omega, by rw [HD.out]; exact hP, HKp2.out.setCell (.inl rfl) _⟩
end Go.Proofs.Ytifokdebocgaiaa
