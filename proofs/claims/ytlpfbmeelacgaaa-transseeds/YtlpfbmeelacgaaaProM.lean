/- The program's translation: May. -/
import Derived.Test.YtlpfbmeelacgaaaRowB
namespace Go.Proofs.Ytlpfbmeelacgaaa
open Go.RowKit

/-- The band ahead in its block. -/
structure AhF (W : World) (N : Nat) (u m : Int) : Prop where
  c0 : W.cell? ⟨N, 0, none⟩ = some (.int .i64 u)
  c1 : W.cell? ⟨N, 1, none⟩ = some (.int .i64 m)
  f : ∀ o, W.frozen? ⟨N, o, none⟩ = false
  z : N < W.heap.size
theorem AhF.new (w : World) (u m : Int) : AhF (w.alloc (objB u m)) w.heap.size u m := ⟨by simp [go_sem], by simp [go_sem], fun o => by simp [go_sem], by simp⟩
theorem AhF.later {W W' : World} {N : Nat} {u m : Int} (h : AhF W N u m) (hb : Below W.heap.size W W') : AhF W' N u m :=
  ⟨(hb.cell h.z).trans h.c0, (hb.cell h.z).trans h.c1, fun o => (hb.frozen (p := ⟨N, o, none⟩) h.z).trans (h.f o), Nat.lt_of_lt_of_le h.z hb.size⟩
theorem AhF.put {W : World} {N : Nat} {u m : Int} (h : AhF W N u m) (u' m' : Int) : AhF ((W.setCell ⟨N, 0, none⟩ (.int .i64 u')).setCell ⟨N, 1, none⟩ (.int .i64 m')) N u' m' := by
  obtain ⟨c0, c1, f, z⟩ := h
  exact ⟨by simp [go_sem, c0], by simp [go_sem, c1], fun o => by simp [go_sem, f], by simpa using z⟩
/-- What stands ahead of band j. -/
def ahB (L : List Ba) (j : Nat) : Ba := (pvB L j).getD ⟨-1, 1⟩
def okp (p : Option Ba) : Prop := ∀ a, p = some a → okB a = true
theorem lnk_ah {p : Option Ba} {b : Ba} (hp : okp p) : (okB b && lnkB p b) = decide ((p.getD ⟨-1, 1⟩).u < b.u ∧ b.u ≤ 4294967295 ∧ (p.getD ⟨-1, 1⟩).m ≤ b.m ∧ b.m ≤ 4294967294) := by
  unfold okB
  rw [Bool.eq_iff_iff, Bool.and_eq_true, decide_eq_true_eq, decide_eq_true_eq]
  cases p with
  | none => unfold lnkB; simp; omega
  | some a =>
    have h := hp a rfl
    unfold okB at h
    rw [decide_eq_true_eq] at h
    unfold lnkB
    rw [decide_eq_true_eq, Option.getD_some]
    omega
set_option maxHeartbeats 2000000 in
theorem may_trans (ad : Option Addr) (n cap : Nat) (L : List Ba) (w : World) (hr : RowB w ad n L) (hn : n ≤ 1000) {c : Bool} (hc : bandsB L = c) :
    Calls Try.prog 10 #[.slice ad n cap] w fun e w' => e = .returned (.bool c) ∧ Below w.heap.size w w' := by
  have HL : Hid (L.length = n) := hr.1
  have HR : Hid (RowB w ad n L) := hr
  clear hr
  by_cases h32 : (32 : Int) < (n : Int)
  · have HE : Hid (false = c) := by rw [← hc]; exact (bands_long (by rw [HL.out]; omega)).symm
    have h32' : (n : Int) > 32 := h32
    clear hc
    go_enter Try.func10, Try.ntmps10
    go_wp2
    go_ret
    rw [HE.out]
    exact ⟨rfl, Below.refl _ _⟩
  have h32' : ¬ (n : Int) > 32 := h32
  have HC : Hid (chnB none L = c) := by unfold Hid; rw [← hc]; exact (bands_short (by rw [HL.out]; omega)).symm
  clear hc
  go_enter Try.func10, Try.ntmps10
  go_wp2
  have hA := AhF.new w (-1) 1
  go_loopw [12] (fun i_ W => ∃ j : Nat, j ≤ n ∧ i_ = .int .i64 j ∧ Hid (Below w.heap.size w W) ∧ Hid (okp (pvB L j) ∧ c = chnB (pvB L j) (L.drop j)) ∧ AhF W w.heap.size (ahB L j).u (ahB L j).m) (fun i_ _ => n - (intOf i_).toNat)
  case atStart => exact ⟨0, Nat.zero_le _, rfl, below1 _ _, ⟨(fun a h => by cases h), HC.out.symm⟩, hA⟩
  case round =>
    obtain ⟨j, hj, rfl, HB, HJ, ha⟩ := hrel
    by_cases hlt : j < n
    · have hlt' : (j : Int) < (n : Int) := by omega
      obtain ⟨⟨u, m⟩, b, off, he, -, hab, q⟩ := (HR.out.later HB.out).at hlt
      obtain ⟨q0, q1⟩ := q
      simp only at q0 q1
      have HF : Hid (c = ((okB ⟨u, m⟩ && lnkB (pvB L j) ⟨u, m⟩) && chnB (pvB L (j + 1)) (L.drop (j + 1)))) := by unfold Hid; rw [HJ.out.2, chn_at he]
      have HK : Hid ((okB ⟨u, m⟩ && lnkB (pvB L j) ⟨u, m⟩) = decide ((ahB L j).u < u ∧ u ≤ 4294967295 ∧ (ahB L j).m ≤ m ∧ m ≤ 4294967294)) := lnk_ah HJ.out.1
      have HE : Hid (L[j]? = some ⟨u, m⟩) := he
      have HA : Hid (ahB L (j + 1) = ⟨u, m⟩) := by show (L[j]?).getD _ = _; rw [he]; rfl
      have HP : Hid ((okB ⟨u, m⟩ && lnkB (pvB L j) ⟨u, m⟩) = true → okp (pvB L (j + 1))) := fun h a ha => by
        rw [pvB, he] at ha
        simp only [Option.some.injEq] at ha
        subst ha
        rw [Bool.and_eq_true] at h
        exact h.1
      obtain ⟨⟨pu, pm⟩, hah⟩ : ∃ p, ahB L j = p := ⟨_, rfl⟩
      rw [hah] at HK ha
      simp only at HK ha
      clear he hah HJ
      subst hab
      by_cases hall : pu < u ∧ u ≤ 4294967295 ∧ pm ≤ m ∧ m ≤ 4294967294
      · have HN : Hid (okp (pvB L (j + 1)) ∧ c = chnB (pvB L (j + 1)) (L.drop (j + 1))) := by
          have h1 := HK.out
          rw [decide_eq_true hall] at h1
          exact ⟨HP.out h1, by rw [HF.out, h1, Bool.true_and]⟩
        obtain ⟨k1, k2, k3, k4⟩ := hall
        have k1' : ¬ u ≤ pu := by omega
        have k2' : ¬ u > 4294967295 := by omega
        have k3' : ¬ m < pm := by omega
        have k4' : ¬ m > 4294967294 := by omega
        obtain ⟨a0, a1, f, z⟩ := ha
        have f0 := f 0
        have f1 := f 1
        go_wp2
        go_roundw
        case rel =>
          refine ⟨j + 1, by omega, by go_num, ?_, HN, ?_⟩
          · exact ((HB.out.setCell (Nat.le_refl _) _).setCell (Nat.le_refl _) _).alloc (by have := HB.out.size; simpa [World.setCell] using this) _
          · rw [HA.out]
            exact (AhF.put ⟨a0, a1, f, z⟩ u m).later (below1 _ _)
        case measure => simp [intOf]; omega
      · have HN : Hid (false = c) := by unfold Hid; rw [HF.out, HK.out, decide_eq_false hall, Bool.false_and]
        obtain ⟨a0, a1, f, z⟩ := ha
        have key : u ≤ pu ∨ (¬ u ≤ pu ∧ u > 4294967295) ∨ (¬ u ≤ pu ∧ ¬ u > 4294967295 ∧ m < pm) ∨ (¬ u ≤ pu ∧ ¬ u > 4294967295 ∧ ¬ m < pm ∧ m > 4294967294) := by omega
        clear hall
        rcases key with h1 | ⟨h1, h2⟩ | ⟨h1, h2, h3⟩ | ⟨h1, h2, h3, h4⟩
        all_goals
          go_wp2
          go_ret
          rw [HN.out]
          exact ⟨rfl, HB.out.alloc (by have := HB.out.size; omega) _⟩
    · have hlt' : ¬ (j : Int) < (n : Int) := by omega
      obtain rfl : j = n := by omega
      have HE : Hid (true = c) := by rw [HJ.out.2]; exact (chn_end HL.out.symm).symm
      go_wp2
      go_ret
      rw [HE.out]
      exact ⟨rfl, HB.out⟩
end Go.Proofs.Ytlpfbmeelacgaaa
