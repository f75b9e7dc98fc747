/- The law JournalPacks over what is asked of the program's journal. -/
import Derived.Test.YtofmgkpghkeegaaLawA
namespace Go.Proofs.Ytofmgkpghkeegaa
open Go.RowKit

section
variable {JM : World → (Nat → Prop) → Addr → Int → List Fc → Nat → Nat → Prop}
/-- A row that is held while the journal changes. -/
structure HeldF (B : Nat → Prop) (W : World) (v : Value) (k : Nat) (F : List Fc) : Prop where
  own : OwnF W 0 v k F
  far : ∀ g, v.ownBlock = some g → ¬ B g
theorem HeldF.later {B : Nat → Prop} {W W1 : World} {v : Value} {k : Nat} {F : List Fc} (h : HeldF B W v k F) (hb : Below W.heap.size W W1) : HeldF B W1 v k F := ⟨h.own.later hb, h.far⟩
theorem HeldF.of (C : JouC JM) {w W W1 : World} {p : Addr} {room : Int} {L : List Fc} {K m : Nat} {B : Nat → Prop} {v : Value} {k : Nat} {F : List Fc} (h : OneJ JM w p room L K m B W) (own : OwnF W1 W.heap.size v k F) : HeldF B W1 v k F :=
  ⟨own.base (Nat.zero_le _), fun g hg hB => by have := own.lt g hg; have := C.lt h.t g hB; omega⟩
theorem OneJ.stepH {w W W1 : World} {p : Addr} {room : Int} {L L2 : List Fc} {K K2 m m2 : Nat} {B : Nat → Prop} {e e0 : Ending} {v : Value} {k : Nat} {F : List Fc} (h : OneJ JM w p room L K m B W) (hh : HeldF B W v k F) (hd : DoneJ JM W B p room L2 K2 m2 e0 e W1) :
    e = e0 ∧ ∃ B1, OneJ JM w p room L2 K2 m2 B1 W1 ∧ HeldF B1 W1 v k F := by
  obtain ⟨B1, rfl, h1, h2, h3⟩ := hd
  refine ⟨rfl, B1, ⟨h1, fun k hk => ?_, h.b.trans (h3.below (fun i _ hi => h.d i hi) h.b.size)⟩, hh.own.same fun g hg => h3.block g (hh.own.own_lt hg) (hh.far g hg), fun g hg hB => ?_⟩
  · rcases h2 k hk with hk | hk
    · exact h.d k hk
    · exact Nat.le_trans h.b.size hk
  · rcases h2 g hB with h4 | h4
    · exact hh.far g hg h4
    · have := hh.own.own_lt hg; omega
set_option maxRecDepth 100000 in
set_option maxHeartbeats 4000000 in
theorem law_packs (C : JouC JM) (ad : Option Addr) (n cap : Nat) (l : List Fc) (keep : Int) (w : World) (hr : RowF w ad n l) (h1 : I64 keep) :
    Calls Try.prog 5 #[.slice ad n cap, .int .i64 keep] w fun e w' => e = .returned (.bool true) ∧ Below w.heap.size w w' := by
  have HC : Hid (JouC JM) := C
  have HR : Hid (RowF w ad n l) := hr
  have H1 : Hid (I64 keep) := h1
  clear C hr h1
  by_cases hn : n ≤ 150
  case neg =>
    have hn' : (150 : Int) < (n : Int) := by omega
    go_enter Try.func5, Try.ntmps5
    go_wp2_with (first
      | (go_at_call 9; refine (awake_any HC.out _).mono ?_; rintro e W1 ⟨rfl, hb1⟩)
      | (go_at_call 10; refine (HC.out.new _ 1000 (by decide)).mono ?_; rintro e W2 ⟨p, B, rfl, T2, hB2, hb2⟩; have he : ∀ W : World, (binOp .eql 24 (.pointer (some p)) (.pointer none)).run Try.prog W = .ok (.bool false) W := run_nilP _; have he' : ∀ W : World, (binOp .neq 24 (.pointer (some p)) (.pointer none)).run Try.prog W = .ok (.bool true) W := run_nilN _))
    go_ret
    exact ⟨rfl, stp hb1 hb2⟩
  have hn' : ¬ (150 : Int) < (n : Int) := by omega
  go_enter Try.func5, Try.ntmps5
  go_wp2_with (first
    | (go_at_call 9; refine (awake_any HC.out _).mono ?_; rintro e W1 ⟨rfl, hb1⟩)
    | (go_at_call 10; refine (HC.out.new _ 1000 (by decide)).mono ?_; rintro e W2 ⟨p, B, rfl, T2, hB2, hb2⟩; have HO0 : Hid (OneJ JM w p 1000 [] 0 0 B W2) := OneJ.new T2 hB2 hb1 hb2; have he : ∀ W : World, (binOp .eql 24 (.pointer (some p)) (.pointer none)).run Try.prog W = .ok (.bool false) W := run_nilP _; clear T2 hB2 hb1 hb2))
  clear he
  go_loopw [7] (fun i_ W => ∃ (j : Nat) (L : List Fc) (B : Nat → Prop), j ≤ n ∧ i_ = .int .i64 j ∧ Hid (OneJ JM w p 1000 L 0 j B W)) (fun i_ _ => n - (intOf i_).toNat)
  case atStart => exact ⟨0, [], B, Nat.zero_le _, rfl, HO0⟩
  case round =>
    clear HO0
    obtain ⟨j, L, B, hj, rfl, HO⟩ := hrel
    by_cases hlt : j < n
    · have hlt' : (j : Int) < (n : Int) := by omega
      obtain ⟨⟨pk, py, pn⟩, b, off, -, hok, rfl, q⟩ := (HR.out.later HO.out.b).at hlt
      obtain ⟨q0, q1, q2⟩ := q
      simp only at q0 q1 q2
      have HK : Hid (Fc.Ok ⟨pk, py, pn⟩) := hok
      clear hok
      go_wp2_with (go_at_call 11; refine (HC.out.put pk py pn HO.out.t (by omega) HK.out).mono ?_; intro e W3 hd; obtain ⟨rfl, B3, hO3⟩ := HO.out.step hd; have HO3 : Hid (OneJ JM w p 1000 (putJ 1000 L ⟨pk, py, pn⟩) 0 (j + 1) B3 W3) := hO3; clear hd hO3)
      go_roundw
      case rel => exact ⟨j + 1, _, B3, by omega, by go_num, HO3⟩
      case measure => simp [intOf]; omega
    · have hlt' : ¬ (j : Int) < (n : Int) := by omega
      obtain ⟨F, hF⟩ : ∃ F, factsJ L = F := ⟨_, rfl⟩
      have HF : Hid (factsJ L = F) := hF
      have HFF : Hid (factsJ F = F) := by unfold Hid; rw [← hF]; exact facts_twice L
      have HP : Hid (Fcs F) := by unfold Hid; rw [← hF]; exact factsJ_sub (HC.out.good HO.out.t).1
      obtain ⟨S, hS⟩ : ∃ S, strOfNums (bytesJ F) = S := ⟨_, rfl⟩
      have HS : Hid (strOfNums (bytesJ F) = S) := hS
      obtain ⟨nl, hnl⟩ : ∃ k, L.length = k := ⟨_, rfl⟩
      obtain ⟨nf, hnf⟩ : ∃ k, F.length = k := ⟨_, rfl⟩
      have hle : (nf : Int) ≤ (nl : Int) := by have := factsJ_len L; rw [hF, hnf, hnl] at this; omega
      have HL : Hid (L.length = nl) := hnl
      have HN : Hid (F.length = nf) := hnf
      have hnf3 : nf ≤ 3000 := by have := (HC.out.good HO.out.t).2.2.2.1; rw [hnl] at this; omega
      clear hF hS hnl hnf
      have HM : Hid True := trivial
      have HM2 : Hid True := trivial
      go_wp2_with (first
        | (go_at_call 24; refine (HC.out.len HO12.out.t (by omega)).mono ?_; rw [HN.out]; rintro e W13 ⟨rfl, hb⟩; have HO13 : Hid (OneJ JM w p 1000 F F.length (j + 1 + 1 + 1) B10 W13) := HO12.out.later HC.out hb; clear hb)
        | (go_at_call 24; refine (HC.out.len HO6.out.t (by omega)).mono ?_; rw [HN.out]; rintro e W7 ⟨rfl, hb⟩; have HO7 : Hid (OneJ JM w p 1000 F F.length (j + 1) B6 W7) := HO6.out.later HC.out hb; have HH7 : Hid (HeldF B6 W7 (.slice fa fk fc) fk F) := HH6.out.later hb; clear hb HO6 HH6)
        | (go_at_call 24; refine (HC.out.len HO.out.t (by omega)).mono ?_; rw [HL.out]; rintro e W4 ⟨rfl, hb⟩; have HO4 : Hid (OneJ JM w p 1000 L 0 j B W4) := HO.out.later HC.out hb; clear hb HO)
        | (go_at_call 22; refine (HC.out.facts HO4.out.t (by omega)).mono ?_; rw [HF.out]; rintro e W5 ⟨fa, fk, fc, rfl, own, hb⟩; have HO5 : Hid (OneJ JM w p 1000 L 0 j B W5) := HO4.out.later HC.out hb; have HH5 : Hid (HeldF B W5 (.slice fa fk fc) fk F) := HeldF.of HC.out HO4.out own; have hfk : fk = nf := own.len.symm.trans HN.out; subst hfk; clear own hb HO4)
        | (go_at_call 17; refine (HC.out.pack HO5.out.t (by omega)).mono ?_; rw [HF.out]; intro e W6 hd; obtain ⟨rfl, B6, h1, h2⟩ := HO5.out.stepH HH5.out hd; have HO6 : Hid (OneJ JM w p 1000 F F.length (j + 1) B6 W6) := h1; have HH6 : Hid (HeldF B6 W6 (.slice fa fk fc) fk F) := h2; clear h1 h2 hd HO5 HH5)
        | (go_at_call 15; refine (HC.out.crash keep HO7.out.t (by omega) H1.out).mono ?_; rw [crJ_all]; intro e W8 hd; obtain ⟨rfl, B8, h1, h2⟩ := HO7.out.stepH HH7.out hd; have HO8 : Hid (OneJ JM w p 1000 F F.length (j + 1 + 1) B8 W8) := h1; have HH8 : Hid (HeldF B8 W8 (.slice fa fk fc) fk F) := h2; clear h1 h2 hd HO7 HH7)
        | (go_at_call 25; refine (HC.out.bytes HO8.out.t (by omega)).mono ?_; rintro e W9 ⟨b9, k9, c9, rfl, row9, hb⟩; have HO9 : Hid (OneJ JM w p 1000 F F.length (j + 1 + 1) B8 W9) := HO8.out.later HC.out hb; have HH9 : Hid (HeldF B8 W9 (.slice fa fk fc) fk F) := HH8.out.later hb; have hcv9 := conv_any c9 row9; rw [HS.out] at hcv9; clear row9 hb HO8 HH8)
        | (go_at_call 17; refine (HC.out.pack HO9.out.t (by omega)).mono ?_; rw [HFF.out]; intro e W10 hd; obtain ⟨rfl, B10, h1, h2⟩ := HO9.out.stepH HH9.out hd; have HO10 : Hid (OneJ JM w p 1000 F F.length (j + 1 + 1 + 1) B10 W10) := h1; have HH10 : Hid (HeldF B10 W10 (.slice fa fk fc) fk F) := h2; clear h1 h2 hd HO9 HH9)
        | (go_at_call 22; refine (HC.out.facts HO10.out.t (by omega)).mono ?_; rw [HFF.out]; rintro e W11 ⟨ga, gk, gc, rfl, own, hb⟩; have HO11 : Hid (OneJ JM w p 1000 F F.length (j + 1 + 1 + 1) B10 W11) := HO10.out.later HC.out hb; have HH11 : Hid (HeldF B10 W11 (.slice fa fk fc) fk F) := HH10.out.later hb; have hgk : gk = fk := own.len.symm.trans HN.out; subst hgk; have HR1 : Hid (RowF W11 ga gk F) := own.row HP.out; have HR2 : Hid (RowF W11 fa gk F) := HH11.out.own.row HP.out; clear own hb HO10 HH10)
        | (go_at_call 21; refine (same_any _ _ _ _ _ F _ HR1.out HR2.out (by omega)).mono ?_; rintro e W12 ⟨rfl, hb⟩; have HO12 : Hid (OneJ JM w p 1000 F F.length (j + 1 + 1 + 1) B10 W12) := HO11.out.later HC.out hb; clear hb)
        | (go_at_call 25; refine (HC.out.bytes HO13.out.t (by omega)).mono ?_; rintro e W14 ⟨b14, k14, c14, rfl, row14, hb⟩; have HO14 : Hid (OneJ JM w p 1000 F F.length (j + 1 + 1 + 1) B10 W14) := HO13.out.later HC.out hb; have hcv14 := conv_any c14 row14; rw [HS.out] at hcv14; clear row14 hb))
      go_ret
      exact ⟨rfl, HO14.out.b⟩
end
end Go.Proofs.Ytofmgkpghkeegaa
