/- The law JournalFull over what is asked of the program's journal. -/
import Derived.Test.YtofmgkpghkeegaaLawK
namespace Go.Proofs.Ytofmgkpghkeegaa
open Go.RowKit

section
variable {JM : World → (Nat → Prop) → Addr → Int → List Fc → Nat → Nat → Prop}
set_option maxRecDepth 100000 in
set_option maxHeartbeats 4000000 in
theorem law_full (C : JouC JM) (room : Int) (ad : Option Addr) (n cap : Nat) (l : List Fc) (k y m : Int) (w : World) (hr : RowF w ad n l) (h1 : I64 room) (hf : Fc.Ok ⟨k, y, m⟩) :
    Calls Try.prog 7 #[.int .i64 room, .slice ad n cap, .agg #[.int .i64 k, .int .u32 y, .int .u32 m]] w fun e w' => e = .returned (.bool true) ∧ Below w.heap.size w w' := by
  have HC : Hid (JouC JM) := C
  have H1 : Hid (I64 room) := h1
  have HF : Hid (Fc.Ok ⟨k, y, m⟩) := hf
  obtain ⟨w1, hw1⟩ : ∃ w1, w.alloc (objF k y m) = w1 := ⟨_, rfl⟩
  have HR : Hid (RowF w1 ad n l) := by rw [← hw1]; exact hr.later (below1 _ _)
  have HW : Hid (Below w.heap.size w w1) := by rw [← hw1]; exact below1 _ _
  have HBx : Hid (F3 w1 w.heap.size 0 ⟨k, y, m⟩) := by rw [← hw1]; exact F3.new w k y m
  have HBZ : Hid (∀ W, Below w1.heap.size w1 W → W.cell? ⟨w.heap.size, 0, none⟩ = some (.int .i64 k) ∧ W.cell? ⟨w.heap.size, 1, none⟩ = some (.int .u32 y) ∧ W.cell? ⟨w.heap.size, 2, none⟩ = some (.int .u32 m)) := fun W hW => (HBx.out.later hW).z
  have HEnd : Hid (∀ W, Below w1.heap.size w1 W → Below w.heap.size w W) := fun W hW => HW.out.trans (hW.mono HW.out.size)
  clear C hr h1 hf
  by_cases hn : n ≤ 150
  case neg =>
    have hn' : (150 : Int) < (n : Int) := by omega
    go_enter Try.func7, Try.ntmps7
    go_wp2_with (first
      | (go_at_call 9; refine (awake_any HC.out _).mono ?_; rintro e W1 ⟨rfl, hb1⟩)
      | (go_at_call 10; refine (HC.out.new _ room H1.out).mono ?_; rintro e W2 ⟨p, B, rfl, T2, hB2, hb2⟩; have he : ∀ W : World, (binOp .eql 24 (.pointer (some p)) (.pointer none)).run Try.prog W = .ok (.bool false) W := run_nilP _; have he' : ∀ W : World, (binOp .neq 24 (.pointer (some p)) (.pointer none)).run Try.prog W = .ok (.bool true) W := run_nilN _))
    go_ret
    exact ⟨rfl, HEnd.out _ (stp hb1 hb2)⟩
  have hn' : ¬ (150 : Int) < (n : Int) := by omega
  by_cases hbad : room < 1 ∨ ¬ room < 1 ∧ k < 0 ∨ ¬ room < 1 ∧ ¬ k < 0 ∧ 255 < k
  · have HBad : Hid (_) := hbad
    clear hbad
    rcases HBad.out with r1 | ⟨r1, r2⟩ | ⟨r1, r2, r3⟩
    all_goals
      clear HBad
      go_enter Try.func7, Try.ntmps7
      go_wp2_with (first
        | (go_at_call 9; refine (awake_any HC.out _).mono ?_; rintro e W1 ⟨rfl, hb1⟩)
        | (go_at_call 10; refine (HC.out.new _ room H1.out).mono ?_; rintro e W2 ⟨p, B, rfl, T2, hB2, hb2⟩; have he : ∀ W : World, (binOp .eql 24 (.pointer (some p)) (.pointer none)).run Try.prog W = .ok (.bool false) W := run_nilP _; have he' : ∀ W : World, (binOp .neq 24 (.pointer (some p)) (.pointer none)).run Try.prog W = .ok (.bool true) W := run_nilN _; obtain ⟨z0, z1, z2⟩ := HBZ.out W2 (stp hb1 hb2)))
      go_ret
      exact ⟨rfl, HEnd.out _ (stp hb1 hb2)⟩
  have r1 : ¬ room < 1 := by omega
  have r2 : ¬ k < 0 := by omega
  have r3 : ¬ 255 < k := by omega
  have hMay : MayF ⟨k, y, m⟩ := ⟨by simp only; omega, by simp only; omega⟩
  have HMay : Hid (MayF ⟨k, y, m⟩) := hMay
  clear hbad hMay
  go_enter Try.func7, Try.ntmps7
  go_wp2_with (first
    | (go_at_call 9; refine (awake_any HC.out _).mono ?_; rintro e W1 ⟨rfl, hb1⟩)
    | (go_at_call 10; refine (HC.out.new _ room H1.out).mono ?_; rintro e W2 ⟨p, B, rfl, T2, hB2, hb2⟩; have HO0 : Hid (OneJ JM w1 p room [] 0 0 B W2) := OneJ.new T2 hB2 hb1 hb2; have he : ∀ W : World, (binOp .eql 24 (.pointer (some p)) (.pointer none)).run Try.prog W = .ok (.bool false) W := run_nilP _; obtain ⟨z0, z1, z2⟩ := HBZ.out W2 (stp hb1 hb2); clear T2 hB2 hb1 hb2))
  clear he hw1 z0 z1 z2
  go_loopw [9] (fun i_ W => ∃ (j : Nat) (L : List Fc) (B : Nat → Prop), j ≤ n ∧ i_ = .int .i64 j ∧ Hid (OneJ JM w1 p room L 0 j B W)) (fun i_ _ => n - (intOf i_).toNat)
  case atStart => exact ⟨0, [], B, Nat.zero_le _, rfl, HO0⟩
  case round =>
    clear HO0
    obtain ⟨j, L, B, hj, rfl, HO⟩ := hrel
    by_cases hlt : j < n
    · have hlt' : (j : Int) < (n : Int) := by omega
      obtain ⟨⟨pk, py, pn⟩, b, off, -, hok, rfl, q⟩ := (HR.out.later HO.out.b).at hlt
      obtain ⟨q0, q1, q2⟩ := q
      simp only at q0 q1 q2
      have HK : Hid (Fc.Ok ⟨pk, py, pn⟩) := hok
      clear hok
      go_wp2_with (go_at_call 11; refine (HC.out.put pk py pn HO.out.t (by omega) HK.out).mono ?_; intro e W3 hd; obtain ⟨rfl, B3, hO3⟩ := HO.out.step hd; have HO3 : Hid (OneJ JM w1 p room (putJ room L ⟨pk, py, pn⟩) 0 (j + 1) B3 W3) := hO3; clear hd hO3)
      go_roundw
      case rel => exact ⟨j + 1, _, B3, by omega, by go_num, HO3⟩
      case measure => simp [intOf]; omega
    · have hlt' : ¬ (j : Int) < (n : Int) := by omega
      obtain ⟨hgP, -, -, hgM, hgR⟩ := HC.out.good HO.out.t
      obtain ⟨F, hF⟩ : ∃ F, factsJ L = F := ⟨_, rfl⟩
      have HFc : Hid (factsJ L = F) := hF
      have HP : Hid (Fcs F) := by unfold Hid; rw [← hF]; exact factsJ_sub hgP
      obtain ⟨nl, hnl⟩ : ∃ k, L.length = k := ⟨_, rfl⟩
      obtain ⟨nf, hnf⟩ : ∃ k, F.length = k := ⟨_, rfl⟩
      have hle : nf ≤ nl := by have := factsJ_len L; rw [hF, hnf, hnl] at this; exact this
      have HL : Hid (L.length = nl) := hnl
      have HN : Hid (F.length = nf) := hnf
      have hnr : (nl : Int) ≤ room := by rcases hgR with h | h <;> omega
      have hnf3 : nf ≤ 3000 := by omega
      by_cases hfull : (nl : Int) < room
      · have HPX : Hid (putX room L ⟨k, y, m⟩ = 0) := putX_ok HMay.out (by rw [hnl]; omega)
        have hnr' : ¬ room < (nl : Int) := by omega
        have hne : ((nl : Int) == room) = false := by simp; omega
        clear hgP hgM hgR hF hnl hnf hnr hfull
        go_wp2_with (first
          | (go_at_call 24; refine (HC.out.len HO.out.t (by omega)).mono ?_; rw [HL.out]; rintro e W4 ⟨rfl, hb⟩; have HO4 : Hid (OneJ JM w1 p room L 0 j B W4) := HO.out.later HC.out hb; clear hb HO)
          | (go_at_call 22; refine (HC.out.facts HO4.out.t (by omega)).mono ?_; rw [HFc.out]; rintro e W5 ⟨fa, fk, fc, rfl, own, hb⟩; have HO5 : Hid (OneJ JM w1 p room L 0 j B W5) := HO4.out.later HC.out hb; obtain ⟨z0, z1, z2⟩ := HBZ.out W5 HO5.out.b; clear own hb HO4)
          | (go_at_call 11; refine (HC.out.put k y m HO5.out.t (by omega) HF.out).mono ?_; rw [HPX.out]; intro e W6 hd; obtain ⟨rfl, B6, hO6⟩ := HO5.out.step hd; have HO6 : Hid (_) := hO6; clear hO6 hd))
        go_ret
        exact ⟨rfl, HEnd.out _ HO6.out.b⟩
      · have heq : ((nl : Int) == room) = true := by simp; omega
        have HPX : Hid (putX room L ⟨k, y, m⟩ = 4 ∧ putJ room L ⟨k, y, m⟩ = L) := by
          have hx : putX room L ⟨k, y, m⟩ = 4 := putX_full HMay.out (by rw [hnl]; omega)
          exact ⟨hx, putJ_no (by rw [hx]; decide)⟩
        have hnr' : ¬ room < (nl : Int) := by omega
        obtain ⟨g, hg⟩ : ∃ g, putX room F ⟨k, y, m⟩ = g := ⟨_, rfl⟩
        have HG : Hid (putX room F ⟨k, y, m⟩ = g) := hg
        have hgv : (g == 0) = decide ((nf : Int) < room) := by
          rw [← hg]
          by_cases h3 : (nf : Int) < room
          · rw [putX_ok HMay.out (by rw [hnf]; omega)]; simp [h3]
          · rw [putX_full HMay.out (by rw [hnf]; omega)]; simp [h3]
        clear hgP hgM hgR hF hnl hnf hnr hfull hg
        go_wp2_with (first
          | (go_at_call 24; refine (HC.out.len HO.out.t (by omega)).mono ?_; rw [HL.out]; rintro e W4 ⟨rfl, hb⟩; have HO4 : Hid (OneJ JM w1 p room L 0 j B W4) := HO.out.later HC.out hb; clear hb HO)
          | (go_at_call 22; refine (HC.out.facts HO4.out.t (by omega)).mono ?_; rw [HFc.out]; rintro e W5 ⟨fa, fk, fc, rfl, own, hb⟩; have HO5 : Hid (OneJ JM w1 p room L 0 j B W5) := HO4.out.later HC.out hb; have HH5 : Hid (HeldF B W5 (.slice fa fk fc) fk F) := HeldF.of HC.out HO4.out own; have hfk : fk = nf := own.len.symm.trans HN.out; subst hfk; obtain ⟨z0, z1, z2⟩ := HBZ.out W5 HO5.out.b; clear own hb HO4)
          | (go_at_call 11; refine (HC.out.put k y m HO5.out.t (by omega) HF.out).mono ?_; rw [HPX.out.1, HPX.out.2]; intro e W6 hd; obtain ⟨rfl, B6, h1, h2⟩ := HO5.out.stepH HH5.out hd; have HO6 : Hid (OneJ JM w1 p room L 0 (j + 1) B6 W6) := h1; have HH6 : Hid (HeldF B6 W6 (.slice fa fk fc) fk F) := h2; clear h1 h2 hd HO5 HH5 z0 z1 z2)
          | (go_at_call 22; refine (HC.out.facts HO6.out.t (by omega)).mono ?_; rw [HFc.out]; rintro e W7 ⟨ga, gk, gc, rfl, own, hb⟩; have HO7 : Hid (OneJ JM w1 p room L 0 (j + 1) B6 W7) := HO6.out.later HC.out hb; have HH7 : Hid (HeldF B6 W7 (.slice fa fk fc) fk F) := HH6.out.later hb; have hgk : gk = fk := own.len.symm.trans HN.out; subst hgk; have HR1 : Hid (RowF W7 ga gk F) := own.row HP.out; have HR2 : Hid (RowF W7 fa gk F) := HH7.out.own.row HP.out; clear own hb HO6 HH6)
          | (go_at_call 21; refine (same_any _ _ _ _ _ F _ HR1.out HR2.out (by omega)).mono ?_; rintro e W8 ⟨rfl, hb⟩; have HO8 : Hid (OneJ JM w1 p room L 0 (j + 1) B6 W8) := HO7.out.later HC.out hb; clear hb)
          | (go_at_call 17; refine (HC.out.pack HO8.out.t (by omega)).mono ?_; rw [HFc.out]; intro e W9 hd; obtain ⟨rfl, B9, hO9⟩ := HO8.out.step hd; have HO9 : Hid (OneJ JM w1 p room F F.length (j + 1 + 1) B9 W9) := hO9; obtain ⟨z0, z1, z2⟩ := HBZ.out W9 HO9.out.b; clear hO9 hd)
          | (go_at_call 11; refine (HC.out.put k y m HO9.out.t (by omega) HF.out).mono ?_; rw [HG.out]; intro e W10 hd; obtain ⟨rfl, B10, hO10⟩ := HO9.out.step hd; have HO10 : Hid (_) := hO10; clear hO10 hd))
        go_ret
        exact ⟨rfl, HEnd.out _ HO10.out.b⟩
end
end Go.Proofs.Ytofmgkpghkeegaa
