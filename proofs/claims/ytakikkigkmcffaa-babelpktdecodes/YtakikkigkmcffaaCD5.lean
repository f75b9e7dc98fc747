/- The reader's block; the contracts of isFramed and readRouter. -/
import Derived.Test.YtakikkigkmcffaaCD2
import Derived.Test.YtakikkigkmcffaaCW1
namespace Go.Proofs.Ytakikkigkmcffaa
open Go.RowKit

theorem framed_head {l : List Int} (h : l.length < 4) : framed l = false := by unfold framed; rw [decide_eq_false (by omega)]; rfl
theorem framed_0 {l : List Int} (h : (at8 l 0 == 42) = false) : framed l = false := by unfold framed; rw [h]; simp
theorem framed_1 {l : List Int} (h : (at8 l 1 == 2) = false) : framed l = false := by unfold framed; rw [h]; simp
theorem framed_is {l : List Int} (h4 : 4 ≤ l.length) (h0 : (at8 l 0 == 42) = true) (h1 : (at8 l 1 == 2) = true) : framed l = (getV l 2 2 == (l.length : Int) - 4) := by unfold framed; rw [h0, h1, decide_eq_true h4]; rfl
set_option maxHeartbeats 400000 in
theorem isFramed_any (a : Option Addr) (n cap : Nat) (l : List Int) (w : World) (hr : Row8 w a n l) (hn : n ≤ 3000) {v : Bool} (hv : framed l = v) :
    Calls Try.prog 30 #[.slice a n cap] w fun e w' => e = .returned (.bool v) ∧ w' = w := by
  subst hv
  have HR : Hid (Row8 w a n l) := hr
  have HL : Hid (l.length = n) := hr.1
  by_cases h4 : n < 4
  · have HF : Hid (framed l = false) := framed_head (by rw [HL.out]; exact h4)
    have e4 : decide (2 + 2 ≤ n) = false := by rw [decide_eq_false_iff_not]; omega
    obtain ⟨z, hz⟩ : ∃ z, g16 l 2 = z := ⟨_, rfl⟩
    have HZ : Hid (g16 l 2 = z) := hz
    clear hr h4 hz
    go_enter Try.func30, Try.ntmps30
    go_wp2_with (go_at_call 49; refine (get16_any _ _ _ l _ HR.out hn 2 HZ.out).mono ?_; rintro e w' ⟨rfl, rfl⟩; rw [e4])
    go_ret
    exact ⟨ret_bool HF.out.symm, rfl⟩
  · have e4 : decide (2 + 2 ≤ n) = true := by rw [decide_eq_true_eq]; omega
    obtain ⟨b, off, rfl, hc⟩ := hr.at (by omega)
    have d0 := hc 0 (by omega)
    have d1 := hc 1 (by omega)
    rw [Nat.add_zero] at d0
    have E0 : Hid (at8 l 0 = l[0]?.getD 0) := rfl
    have E1 : Hid (at8 l 1 = l[1]?.getD 0) := rfl
    generalize l[0]?.getD 0 = x at d0 E0
    generalize l[1]?.getD 0 = y at d1 E1
    obtain ⟨z, hz⟩ : ∃ z, getV l 2 2 = z := ⟨_, rfl⟩
    have hzb := getV_h hr.2.2.1 2
    rw [hz] at hzb
    obtain ⟨z0, z1⟩ := hzb
    have HZ : Hid (g16 l 2 = z) := by unfold Hid; rw [g16_is (by rw [HL.out]; omega)]; exact hz
    have HGV : Hid (getV l 2 2 = z) := hz
    have i0 : (0 : Int) < (n : Int) := by omega
    have i1 : (1 : Int) < (n : Int) := by omega
    have HL4 : Hid (4 ≤ l.length) := by unfold Hid; rw [HL.out]; omega
    clear hr hc hz h4
    by_cases hx : x = 42
    · subst hx
      by_cases hy : y = 2
      · subst hy
        have HF : Hid (framed l = (z == (n : Int) - 4)) := by unfold Hid; rw [framed_is HL4.out (by rw [E0.out]; rfl) (by rw [E1.out]; rfl), HGV.out, HL.out]
        go_enter Try.func30, Try.ntmps30
        go_wp2_with (go_at_call 49; refine (get16_any _ _ _ l _ HR.out hn 2 HZ.out).mono ?_; rintro e w' ⟨rfl, rfl⟩; rw [e4])
        go_ret
        exact ⟨ret_bool HF.out.symm, rfl⟩
      · have HF : Hid (framed l = false) := framed_1 (by rw [E1.out]; simpa using hy)
        have e1 : (y == 2) = false := by simpa using hy
        clear hy
        go_enter Try.func30, Try.ntmps30
        go_wp2_with (go_at_call 49; refine (get16_any _ _ _ l _ HR.out hn 2 HZ.out).mono ?_; rintro e w' ⟨rfl, rfl⟩; rw [e4])
        go_ret
        exact ⟨ret_bool HF.out.symm, rfl⟩
    · have HF : Hid (framed l = false) := framed_0 (by rw [E0.out]; simpa using hx)
      have e1 : (x == 42) = false := by simpa using hx
      clear hx
      go_enter Try.func30, Try.ntmps30
      go_wp2_with (go_at_call 49; refine (get16_any _ _ _ l _ HR.out hn 2 HZ.out).mono ?_; rintro e w' ⟨rfl, rfl⟩; rw [e4])
      go_ret
      exact ⟨ret_bool HF.out.symm, rfl⟩
/-- The five cells of a reader in block N, which may be written. -/
def RF (W : World) (N : Nat) (K : Kn) (ra : Option Addr) (m cc : Nat) (ad : Option Addr) (k cp : Nat) : Prop :=
  W.cell? ⟨N, 0, none⟩ = some (.bool K.told) ∧ W.cell? ⟨N, 1, none⟩ = some (.int .u64 K.r) ∧ W.cell? ⟨N, 2, none⟩ = some (.int .u32 K.a) ∧ W.cell? ⟨N, 3, none⟩ = some (.slice ra m cc) ∧ W.cell? ⟨N, 4, none⟩ = some (.slice ad k cp) ∧ (∀ o, W.frozen? ⟨N, o, none⟩ = false) ∧ N < W.heap.size
section
variable {W W' : World} {B N : Nat} {K : Kn} {ra ad : Option Addr} {m cc k cp : Nat}
theorem RF.lift (h : RF W N K ra m cc ad k cp) (hb : Below B W W') (hN : N < B) : RF W' N K ra m cc ad k cp := by
  obtain ⟨h0, h1, h2, h3, h4, hf, hz⟩ := h
  exact ⟨(hb.cell (p := ⟨N, 0, none⟩) hN).trans h0, (hb.cell (p := ⟨N, 1, none⟩) hN).trans h1, (hb.cell (p := ⟨N, 2, none⟩) hN).trans h2, (hb.cell (p := ⟨N, 3, none⟩) hN).trans h3, (hb.cell (p := ⟨N, 4, none⟩) hN).trans h4, fun o => (hb.frozen (p := ⟨N, o, none⟩) hN).trans (hf o), Nat.lt_of_lt_of_le hz hb.size⟩
theorem RF.later (h : RF W N K ra m cc ad k cp) (hb : Below W.heap.size W W') : RF W' N K ra m cc ad k cp := h.lift hb h.2.2.2.2.2.2
theorem RF.setA (h : RF W N K ra m cc ad k cp) (a' : Int) : RF (W.setCell ⟨N, 2, none⟩ (.int .u32 a')) N ⟨K.told, K.r, a'⟩ ra m cc ad k cp := by
  obtain ⟨h0, h1, h2, h3, h4, hf, hz⟩ := h
  exact ⟨by simp [go_sem, h0], by simp [go_sem, h1], by simp [go_sem, h2], by simp [go_sem, h3], by simp [go_sem, h4], fun o => by simp [go_sem, hf], by simpa using hz⟩
theorem RF.setR (h : RF W N K ra m cc ad k cp) (r' : Int) : RF ((W.setCell ⟨N, 0, none⟩ (.bool true)).setCell ⟨N, 1, none⟩ (.int .u64 r')) N ⟨true, r', K.a⟩ ra m cc ad k cp := by
  obtain ⟨h0, h1, h2, h3, h4, hf, hz⟩ := h
  exact ⟨by simp [go_sem, h0], by simp [go_sem, h1], by simp [go_sem, h2], by simp [go_sem, h3], by simp [go_sem, h4], fun o => by simp [go_sem, hf], by simpa using hz⟩
theorem RF.set3 (h : RF W N K ra m cc ad k cp) (ra' : Option Addr) (m' cc' : Nat) : RF (W.setCell ⟨N, 3, none⟩ (.slice ra' m' cc')) N K ra' m' cc' ad k cp := by
  obtain ⟨h0, h1, h2, h3, h4, hf, hz⟩ := h
  exact ⟨by simp [go_sem, h0], by simp [go_sem, h1], by simp [go_sem, h2], by simp [go_sem, h3], by simp [go_sem, h4], fun o => by simp [go_sem, hf], by simpa using hz⟩
theorem RF.set4 (h : RF W N K ra m cc ad k cp) (ad' : Option Addr) (k' cp' : Nat) : RF (W.setCell ⟨N, 4, none⟩ (.slice ad' k' cp')) N K ra m cc ad' k' cp' := by
  obtain ⟨h0, h1, h2, h3, h4, hf, hz⟩ := h
  exact ⟨by simp [go_sem, h0], by simp [go_sem, h1], by simp [go_sem, h2], by simp [go_sem, h3], by simp [go_sem, h4], fun o => by simp [go_sem, hf], by simpa using hz⟩
end
theorem OwnT.set {W : World} {M o : Nat} {x : Value} {base : Nat} {v : Value} {n : Nat} {es : List Tlv} (h : OwnT W base v n es) (hM : M < base) : OwnT (W.setCell ⟨M, o, none⟩ x) base v n es :=
  h.keep fun k hk => setCell_block W _ x k (by show M ≠ k; omega)
set_option maxHeartbeats 400000 in
theorem readRouter_any (N : Nat) (K : Kn) (ra ad : Option Addr) (m cc k cp : Nat) (a : Option Addr) (n cap : Nat) (l : List Int) (w : World) (hF : RF w N K ra m cc ad k cp) (hr : Row8 w a n l) (hn : n ≤ 3000) {r' : Int} (hr' : g64 l 2 = r') {v : Bool} (hv : routB l = v) :
    Calls Try.prog 62 #[.pointer (some ⟨N, 0, none⟩), .slice a n cap] w fun e w' => e = .returned (.bool v) ∧ w' = (w.setCell ⟨N, 0, none⟩ (.bool true)).setCell ⟨N, 1, none⟩ (.int .u64 r') := by
  have HR : Hid (Row8 w a n l) := hr
  have HL : Hid (l.length = n) := hr.1
  have HR' : Hid (g64 l 2 = r') := hr'
  obtain ⟨z, hz⟩ : ∃ z, g16 l 0 = z := ⟨_, rfl⟩
  have HZ : Hid (g16 l 0 = z) := hz
  have HV : Hid (v = (decide (n = 10) && z == 0)) := by
    unfold Hid; rw [← hv, ← hz]; unfold routB
    rw [HL.out]
    by_cases h6 : n = 10
    · rw [g16_is (by rw [HL.out]; omega)]
    · simp [h6]
  obtain ⟨h0, h1, h2, h3, h4, hf, hz'⟩ := hF
  clear hr hr' hz hv
  by_cases h6 : n = 10
  · subst h6
    go_enter Try.func62, Try.ntmps62
    go_wp2_with (first
      | (go_at_call 49; refine (get16_any _ _ _ l _ HR.out hn 0 HZ.out).mono ?_; rintro e w' ⟨rfl, rfl⟩)
      | (go_at_call 69; refine (get64_any _ _ _ l _ HR.out hn 2 (by omega) HR'.out).mono ?_; rintro e w' ⟨rfl, rfl⟩))
    go_ret
    exact ⟨ret_bool (by rw [HV.out]; rfl), rfl⟩
  · have e6 : ((n : Int) == 10) = false := by rw [beq_eq_false_iff_ne]; omega
    have HV' : Hid (v = false) := by unfold Hid; rw [HV.out]; simp [h6]
    clear HV h6
    go_enter Try.func62, Try.ntmps62
    go_wp2_with (first
      | (go_at_call 49; refine (get16_any _ _ _ l _ HR.out hn 0 HZ.out).mono ?_; rintro e w' ⟨rfl, rfl⟩)
      | (go_at_call 69; refine (get64_any _ _ _ l _ HR.out hn 2 (by omega) HR'.out).mono ?_; rintro e w' ⟨rfl, rfl⟩))
    go_ret
    exact ⟨ret_bool (by rw [HV'.out]), rfl⟩
end Go.Proofs.Ytakikkigkmcffaa
