/- The law JournalLasts over what is asked of the program's journal. -/
import Derived.Test.YtofmgkpghkeegaaLawA
namespace Go.Proofs.Ytofmgkpghkeegaa
open Go.RowKit

def keptS (s j : Nat) : Nat := if s ≤ j then s else 0
theorem keptS_sync {s j : Nat} (h : j + 1 = s) : keptS s (j + 1) = j + 1 := by unfold keptS; rw [if_pos (by omega)]; exact h.symm
theorem keptS_go {s j : Nat} (h : ¬ j + 1 = s) : keptS s (j + 1) = keptS s j := by
  unfold keptS
  by_cases h1 : s ≤ j
  · rw [if_pos h1, if_pos (by omega)]
  · rw [if_neg h1, if_neg (by omega)]
theorem keptS_end {s n : Nat} (h : s ≤ n) : keptS s n = s := by unfold keptS; rw [if_pos h]
theorem put_take {l : List Fc} {j : Nat} {f : Fc} (h : l[j]? = some f) (hm : MayF f) (hj : j ≤ 150) : putX 1000 (l.take j) f = 0 ∧ putJ 1000 (l.take j) f = l.take (j + 1) := by
  have hx : putX 1000 (l.take j) f = 0 := putX_ok hm (by rw [List.length_take]; omega)
  refine ⟨hx, ?_⟩
  rw [putJ_ok hx, List.take_add_one, h]
  rfl
section
variable {JM : World → (Nat → Prop) → Addr → Int → List Fc → Nat → Nat → Prop}
/-- Two journals that share no block. -/
structure TwoJ (JM : World → (Nat → Prop) → Addr → Int → List Fc → Nat → Nat → Prop) (w : World) (p : Addr) (L : List Fc) (K m : Nat) (B : Nat → Prop) (p2 : Addr) (L2 : List Fc) (K2 m2 : Nat) (B2 : Nat → Prop) (W : World) : Prop where
  a : OneJ JM w p 1000 L K m B W
  b : OneJ JM w p2 1000 L2 K2 m2 B2 W
  d : ∀ k, B k → ¬ B2 k
variable {w : World} {p p2 : Addr} {L L2 L3 : List Fc} {K K2 K3 m m2 m3 : Nat} {B B2 : Nat → Prop} {W W1 : World} {e e0 : Ending}
theorem TwoJ.later (C : JouC JM) (h : TwoJ JM w p L K m B p2 L2 K2 m2 B2 W) (hb : Below W.heap.size W W1) : TwoJ JM w p L K m B p2 L2 K2 m2 B2 W1 := ⟨h.a.later C hb, h.b.later C hb, h.d⟩
theorem TwoJ.new (C : JouC JM) (h : OneJ JM w p 1000 L K m B W) (h2 : JM W1 B2 p2 1000 [] 0 0) (hB : ∀ k, B2 k → W.heap.size ≤ k) (hb : Below W.heap.size W W1) : TwoJ JM w p L K m B p2 [] 0 0 B2 W1 :=
  ⟨h.later C hb, OneJ.new h2 hB h.b hb, fun k h1 h2 => by have := C.lt h.t k h1; have := hB k h2; omega⟩
theorem TwoJ.step (C : JouC JM) (h : TwoJ JM w p L K m B p2 L2 K2 m2 B2 W) (hd : DoneJ JM W B2 p2 1000 L3 K3 m3 e0 e W1) : e = e0 ∧ ∃ B3, TwoJ JM w p L K m B p2 L3 K3 m3 B3 W1 := by
  have hd' := hd
  obtain ⟨B3, rfl, h1, h2, h3⟩ := hd
  have hbel : Below w.heap.size w W1 := h.b.b.trans (h3.below (fun i _ hi => h.b.d i hi) h.b.b.size)
  refine ⟨rfl, B3, ⟨C.keep h.a.t h3 h.d, h.a.d, hbel⟩, ⟨h1, fun k hk => ?_, hbel⟩, fun k h4 h5 => ?_⟩
  · rcases h2 k hk with hk | hk
    · exact h.b.d k hk
    · exact Nat.le_trans h.b.b.size hk
  · rcases h2 k h5 with h6 | h6
    · exact h.d k h4 h6
    · have := C.lt h.a.t k h4; omega
set_option maxRecDepth 100000 in
set_option maxHeartbeats 4000000 in
theorem law_lasts (C : JouC JM) (ad : Option Addr) (n cap : Nat) (l : List Fc) (synced keep : Int) (w : World) (hr : RowF w ad n l) (h2 : I64 keep) :
    Calls Try.prog 4 #[.slice ad n cap, .int .i64 synced, .int .i64 keep] w fun e w' => e = .returned (.bool true) ∧ Below w.heap.size w w' := by
  have HC : Hid (JouC JM) := C
  have HR : Hid (RowF w ad n l) := hr
  have H2 : Hid (I64 keep) := h2
  clear C hr h2
  by_cases hbad : 150 < n ∨ ¬ 150 < n ∧ synced < 0 ∨ ¬ 150 < n ∧ ¬ synced < 0 ∧ (n : Int) < synced
  · have HBad : Hid (_) := hbad
    clear hbad
    rcases HBad.out with r1 | ⟨r1, r2⟩ | ⟨r1, r2, r3⟩
    case' inl => have r1' : (150 : Int) < (n : Int) := by omega
    case' inr.inl => have r1' : ¬ (150 : Int) < (n : Int) := by omega
    case' inr.inr => have r1' : ¬ (150 : Int) < (n : Int) := by omega
    all_goals
      clear HBad
      go_enter Try.func4, Try.ntmps4
      go_wp2_with (first
        | (go_at_call 9; refine (awake_any HC.out _).mono ?_; rintro e W1 ⟨rfl, hb1⟩)
        | (go_at_call 10; refine (HC.out.new _ 1000 (by decide)).mono ?_; rintro e W2 ⟨p, B, rfl, T2, hB2, hb2⟩; have he : ∀ W : World, (binOp .eql 24 (.pointer (some p)) (.pointer none)).run Try.prog W = .ok (.bool false) W := run_nilP _; have he' : ∀ W : World, (binOp .neq 24 (.pointer (some p)) (.pointer none)).run Try.prog W = .ok (.bool true) W := run_nilN _))
      go_ret
      exact ⟨rfl, stp hb1 hb2⟩
  have r1' : ¬ (150 : Int) < (n : Int) := by omega
  have hn : n ≤ 150 := by omega
  obtain ⟨s, rfl⟩ : ∃ s : Nat, synced = (s : Int) := ⟨synced.toNat, by omega⟩
  have hs : s ≤ n := by omega
  have r2 : ¬ (s : Int) < 0 := by omega
  have r3 : ¬ (n : Int) < (s : Int) := by omega
  have r3' : ¬ n < s := by omega
  have r3d : decide (n < s) = false := by simpa using r3'
  have r1d : decide ((150 : Int) < (n : Int)) = false := by simpa using r1'
  have r2d : decide ((s : Int) < 0) = false := by simp
  clear hbad
  go_enter Try.func4, Try.ntmps4
  go_wp2_with (first
    | (go_at_call 9; refine (awake_any HC.out _).mono ?_; rintro e W1 ⟨rfl, hb1⟩)
    | (go_at_call 10; refine (HC.out.new _ 1000 (by decide)).mono ?_; rintro e W2 ⟨p, B, rfl, T2, hB2, hb2⟩; have HO0 : Hid (OneJ JM w p 1000 [] 0 0 B W2) := OneJ.new T2 hB2 hb1 hb2; have he : ∀ W : World, (binOp .eql 24 (.pointer (some p)) (.pointer none)).run Try.prog W = .ok (.bool false) W := run_nilP _; clear T2 hB2 hb1 hb2))
  clear he
  go_loopw [9] (fun i_ W => ∃ (j : Nat) (B : Nat → Prop), j ≤ n ∧ i_ = .int .i64 j ∧ Hid (OneJ JM w p 1000 (l.take j) (keptS s j) (2 * j) B W)) (fun i_ _ => n - (intOf i_).toNat)
  case atStart => exact ⟨0, B, Nat.zero_le _, rfl, by have h : keptS s 0 = 0 := by unfold keptS; split <;> omega
                                                      unfold Hid; rw [h]; exact HO0.out⟩
  case round =>
    clear HO0
    obtain ⟨j, B, hj, rfl, HO⟩ := hrel
    by_cases hlt : j < n
    · have hlt' : (j : Int) < (n : Int) := by omega
      obtain ⟨⟨pk, py, pn⟩, b, off, he, hok, rfl, q⟩ := (HR.out.later HO.out.b).at hlt
      obtain ⟨q0, q1, q2⟩ := q
      simp only at q0 q1 q2
      have HK : Hid (Fc.Ok ⟨pk, py, pn⟩) := hok
      by_cases hmay : 0 ≤ pk ∧ pk ≤ 255
      · have HPX : Hid (putX 1000 (l.take j) ⟨pk, py, pn⟩ = 0 ∧ putJ 1000 (l.take j) ⟨pk, py, pn⟩ = l.take (j + 1)) := put_take he (f := ⟨pk, py, pn⟩) hmay (by omega)
        have hjn : j ≤ 150 := by omega
        clear hok hmay he
        by_cases hsy : j + 1 = s
        · have hsy' : (j : Int) + 1 = (s : Int) := by omega
          have hsy2 : ((j : Int) + 1 == (s : Int)) = true := by simpa using hsy'
          have HKp : Hid ((l.take (j + 1)).length = keptS s (j + 1)) := by
            unfold Hid
            rw [keptS_sync hsy, List.length_take, HR.out.1]
            omega
          clear hsy hsy'
          go_wp2_with (first
            | (go_at_call 11; refine (HC.out.put pk py pn HO.out.t (by omega) HK.out).mono ?_; rw [HPX.out.1, HPX.out.2]; intro e W3 hd; obtain ⟨rfl, B3, hO3⟩ := HO.out.step hd; have HO3 : Hid (OneJ JM w p 1000 (l.take (j + 1)) (keptS s j) (2 * j + 1) B3 W3) := hO3; clear hd hO3)
            | (go_at_call 13; refine (HC.out.sync HO3.out.t (by omega)).mono ?_; rw [HKp.out]; intro e W4 hd; obtain ⟨rfl, B4, hO4⟩ := HO3.out.step hd; have HO4 : Hid (OneJ JM w p 1000 (l.take (j + 1)) (keptS s (j + 1)) (2 * j + 1 + 1) B4 W4) := hO4; clear hd hO4))
          go_roundw
          case rel => exact ⟨j + 1, B4, by omega, by go_num, HO4⟩
          case measure => simp [intOf]; omega
        · have hsy' : ¬ (j : Int) + 1 = (s : Int) := by omega
          have hsy2 : ((j : Int) + 1 == (s : Int)) = false := by simpa using hsy'
          have HKp : Hid (keptS s (j + 1) = keptS s j) := keptS_go hsy
          clear hsy hsy'
          go_wp2_with (go_at_call 11; refine (HC.out.put pk py pn HO.out.t (by omega) HK.out).mono ?_; rw [HPX.out.1, HPX.out.2]; intro e W3 hd; obtain ⟨rfl, B3, hO3⟩ := HO.out.step hd; have HO3 : Hid (OneJ JM w p 1000 (l.take (j + 1)) (keptS s j) (2 * j + 1) B3 W3) := hO3; clear hd hO3)
          go_roundw
          case rel => exact ⟨j + 1, B3, by omega, by go_num, by unfold Hid; rw [HKp.out]; exact HO3.out.upto HC.out (by omega)⟩
          case measure => simp [intOf]; omega
      · have HPX : Hid (putX 1000 (l.take j) ⟨pk, py, pn⟩ = 1) := putX_arg (by simp only; omega)
        clear hok hmay he
        go_wp2_with (go_at_call 11; refine (HC.out.put pk py pn HO.out.t (by omega) HK.out).mono ?_; rw [HPX.out]; intro e W3 hd; obtain ⟨rfl, B3, hO3⟩ := HO.out.step hd; have HO3 : Hid (_) := hO3; clear hd hO3)
        go_ret
        exact ⟨rfl, HO3.out.b⟩
    · have hlt' : ¬ (j : Int) < (n : Int) := by omega
      obtain rfl : j = n := by omega
      have hl := HR.out.1
      have HO1 : Hid (OneJ JM w p 1000 l s (2 * j) B wr) := by
        have := HO.out
        rw [keptS_end hs, ← hl, List.take_length, hl] at this
        exact this
      have HMay : Hid (∀ f ∈ l, MayF f) := (HC.out.good HO1.out.t).2.1
      obtain ⟨c, hc⟩ : ∃ c, s + crN keep (l.length - s) = c := ⟨_, rfl⟩
      have hcl : c ≤ j := by have := crN_le keep (l.length - s); omega
      have HCr : Hid (crJ l s keep = l.take c ∧ (l.take c).length = c) := by
        refine ⟨by unfold crJ; rw [hc], ?_⟩
        rw [List.length_take]
        omega
      have hc1 : ¬ (c : Int) < (s : Int) := by omega
      have hc2 : ¬ (j : Int) < (c : Int) := by omega
      clear HO hc hl
      go_wp2_with (first
        | (go_at_call 15; refine (HC.out.crash keep HO1.out.t (by omega) H2.out).mono ?_; rw [HCr.out.1, HCr.out.2]; intro e W5 hd; obtain ⟨rfl, B5, hO5⟩ := HO1.out.step hd; have HO5 : Hid (OneJ JM w p 1000 (l.take c) c (2 * j + 1) B5 W5) := hO5; clear hd hO5)
        | (go_at_call 24; refine (HC.out.len HO5.out.t (by omega)).mono ?_; rw [HCr.out.2]; rintro e W6 ⟨rfl, hb⟩; have HO6 : Hid (OneJ JM w p 1000 (l.take c) c (2 * j + 1) B5 W6) := HO5.out.later HC.out hb; clear hb)
        | (go_at_call 10; refine (HC.out.new _ 1000 (by decide)).mono ?_; rintro e W7 ⟨p2, B7, rfl, T7, hB7, hb7⟩; have HT0 : Hid (TwoJ JM w p (l.take c) c (2 * j + 1) B5 p2 [] 0 0 B7 W7) := TwoJ.new HC.out HO6.out T7 hB7 hb7; have he : ∀ W : World, (binOp .eql 24 (.pointer (some p2)) (.pointer none)).run Try.prog W = .ok (.bool false) W := run_nilP _; clear T7 hB7 hb7))
      clear he
      go_loopw [13] (fun i_ W => ∃ (i : Nat) (B2 : Nat → Prop), i ≤ c ∧ i_ = .int .i64 i ∧ Hid (TwoJ JM w p (l.take c) c (2 * j + 1) B5 p2 (l.take i) 0 i B2 W)) (fun i_ _ => c - (intOf i_).toNat)
      case atStart => exact ⟨0, B7, Nat.zero_le _, rfl, HT0⟩
      case round =>
        clear HT0
        obtain ⟨i, B2, hi, rfl, HT⟩ := hrel
        by_cases hic : i < c
        · have hic' : (i : Int) < (c : Int) := by omega
          obtain ⟨⟨pk, py, pn⟩, b, off, he, hok, rfl, q⟩ := (HR.out.later HT.out.a.b).at (show i < j by omega)
          obtain ⟨q0, q1, q2⟩ := q
          simp only at q0 q1 q2
          have HK : Hid (Fc.Ok ⟨pk, py, pn⟩) := hok
          have HPX : Hid (putX 1000 (l.take i) ⟨pk, py, pn⟩ = 0 ∧ putJ 1000 (l.take i) ⟨pk, py, pn⟩ = l.take (i + 1)) := put_take he (f := ⟨pk, py, pn⟩) (HMay.out _ (List.mem_of_getElem? he)) (by omega)
          have hij : (i : Int) < (j : Int) := by omega
          clear hok he
          go_wp2_with (go_at_call 11; refine (HC.out.put pk py pn HT.out.b.t (by omega) HK.out).mono ?_; rw [HPX.out.1, HPX.out.2]; intro e W8 hd; obtain ⟨rfl, B8, hT8⟩ := HT.out.step HC.out hd; have HT8 : Hid (TwoJ JM w p (l.take c) c (2 * j + 1) B5 p2 (l.take (i + 1)) 0 (i + 1) B8 W8) := hT8; clear hd hT8)
          go_roundw
          case rel => exact ⟨i + 1, B8, by omega, by go_num, HT8⟩
          case measure => simp [intOf]; omega
        · have hic' : ¬ (i : Int) < (c : Int) := by omega
          obtain rfl : i = c := by omega
          obtain ⟨F, hF⟩ : ∃ F, factsJ (l.take i) = F := ⟨_, rfl⟩
          have HF : Hid (factsJ (l.take i) = F) := hF
          have HP : Hid (Fcs F) := by unfold Hid; rw [← hF]; exact factsJ_sub (HC.out.good HT.out.a.t).1
          have hnf3 : F.length ≤ 3000 := by have h1 := factsJ_len (l.take i); rw [hF, List.length_take] at h1; omega
          have HL3 : Hid (F.length ≤ 3000) := hnf3
          obtain ⟨S, hS⟩ : ∃ S, strOfNums (bytesJ (l.take i)) = S := ⟨_, rfl⟩
          have HS : Hid (strOfNums (bytesJ (l.take i)) = S) := hS
          clear hF hS hnf3
          have HM : Hid True := trivial
          go_wp2_with (first
            | (go_at_call_of 22 (Value.pointer (some p2)); refine (HC.out.facts HT9.out.b.t (by omega)).mono ?_; rw [HF.out]; rintro e W10 ⟨ga, gk, gc, rfl, own, hb⟩; have HT10 : Hid (TwoJ JM w p (l.take i) i (2 * j + 1) B5 p2 (l.take i) 0 i B2 W10) := HT9.out.later HC.out hb; have hgk : gk = fk := own.len.symm.trans HO9.out.len; subst hgk; have HR1 : Hid (RowF W10 fa gk F) := (HO9.out.later hb).row HP.out; have HR2 : Hid (RowF W10 ga gk F) := own.row HP.out; have hk3 : gk ≤ 3000 := (by have := own.len; have := HL3.out; omega); clear own hb)
            | (go_at_call 22; refine (HC.out.facts HT.out.a.t (by omega)).mono ?_; rw [HF.out]; rintro e W9 ⟨fa, fk, fc, rfl, own, hb⟩; have HT9 : Hid (TwoJ JM w p (l.take i) i (2 * j + 1) B5 p2 (l.take i) 0 i B2 W9) := HT.out.later HC.out hb; have HO9 : Hid (OwnF W9 wr.heap.size (.slice fa fk fc) fk F) := own; clear own hb)
            | (go_at_call 21; refine (same_any _ _ _ _ _ F _ HR1.out HR2.out hk3).mono ?_; rintro e W11 ⟨rfl, hb⟩; have HT11 : Hid (TwoJ JM w p (l.take i) i (2 * j + 1) B5 p2 (l.take i) 0 i B2 W11) := HT10.out.later HC.out hb; clear hb))
          go_region_with
            ((first
              | (go_at_call_of 25 (Value.pointer (some p2)); refine (HC.out.bytes HT12.out.b.t (by omega)).mono ?_; rintro e W13 ⟨ca, ck, cc, rfl, row, hb⟩; have HT13 : Hid (TwoJ JM w p (l.take i) i (2 * j + 1) B5 p2 (l.take i) 0 i B2 W13) := HT12.out.later HC.out hb; have hcv2 := conv_any cc row; have hcv1b := conv_any bc (HR12.out.later hb); rw [HS.out] at hcv2 hcv1b; clear row hb)
              | (go_at_call 25; refine (HC.out.bytes (HT11.out.later HC.out (Below.refl _ _).drew).a.t (by omega)).mono ?_; rintro e W12 ⟨ba, bk, bc, rfl, row, hb⟩; have HT12 : Hid (TwoJ JM w p (l.take i) i (2 * j + 1) B5 p2 (l.take i) 0 i B2 W12) := (HT11.out.later HC.out (Below.refl _ _).drew).later HC.out hb; have HR12 : Hid (Row8 W12 ba bk (bytesJ (l.take i))) := row; have hcv1 := conv_any bc row; rw [HS.out] at hcv1; clear row hb)))
          all_goals
            go_wp2
            go_ret
            exact ⟨rfl, HT13.out.a.b⟩
end
end Go.Proofs.Ytofmgkpghkeegaa
