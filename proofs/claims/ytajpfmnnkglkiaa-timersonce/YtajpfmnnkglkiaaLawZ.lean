/- The law TimersOnce over what is asked of the program's timers. -/
import Derived.Test.YtajpfmnnkglkiaaLawO
import Derived.Test.YtajpfmnnkglkiaaLawB
import Derived.Test.YtajpfmnnkglkiaaMatZ
namespace Go.Proofs.Ytajpfmnnkglkiaa
open Go.RowKit

/-- What has become of what was set: it stands there, or it was due, and is gone. -/
def OnceT (L : List Tm) (id at_ now f : Int) : Prop := (f = 0 ∧ ⟨id, at_⟩ ∈ L) ∨ (f = 1 ∧ (∀ p ∈ L, p.i ≠ id) ∧ at_ ≤ now)
theorem once_set {L : List Tm} {id at_ i a : Int} (h : ⟨id, at_⟩ ∈ L) (hi : i ≠ id) : ⟨id, at_⟩ ∈ setT L i a := by
  by_cases hx : setTX L i a = 0
  · exact (mem_setT hx).2 (.inr ⟨h, fun e => hi e.symm⟩)
  · rw [setT_same hx]; exact h
theorem once_stop {L : List Tm} {id at_ i : Int} (h : ⟨id, at_⟩ ∈ L) (hi : i ≠ id) : ⟨id, at_⟩ ∈ stopT L i := mem_stopT.2 ⟨h, fun e => hi e.symm⟩
/-- How many of the first that are due bear the id. -/
theorem once_due {L : List Tm} (G : GoodT L) {id at_ now now' f0 : Int} (h : OnceT L id at_ now f0) (hle : now ≤ now') :
    ∃ f : Nat → Int, f 0 = f0 ∧ (∀ k p, (dueL now' L)[k]? = some p → (0 ≤ f k ∧ f k ≤ 1) ∧ (p.i = id → p.a = at_ ∧ at_ ≤ now' ∧ f (k + 1) = f k + 1) ∧ (p.i ≠ id → f (k + 1) = f k)) ∧
      OnceT (dueR now' L) id at_ now' (f (dueL now' L).length) ∧ ((f (dueL now' L).length = 1 ∧ at_ ≤ now') ∨ (f (dueL now' L).length = 0 ∧ ¬ at_ ≤ now')) := by
  obtain ⟨mL, mR⟩ := mem_due now' G.s
  rcases h with ⟨rfl, hX⟩ | ⟨rfl, hn, ha⟩
  · by_cases hc : at_ ≤ now'
    · obtain ⟨q, hq⟩ := List.mem_iff_getElem?.1 ((mL ⟨id, at_⟩).2 ⟨hX, hc⟩)
      have hql : q < (dueL now' L).length := (List.getElem?_eq_some_iff.1 hq).1
      have hnd := List.pairwise_iff_getElem.1 (goodT_due G now').1.s
      refine ⟨fun k => if q < k then 1 else 0, rfl, fun k p hp => ⟨by simp only; split <;> omega, fun hi => ?_, fun hi => ?_⟩, .inr ⟨if_pos hql, fun p hp hi => ?_, hc⟩, .inl ⟨if_pos hql, hc⟩⟩
      · have hpL := ((mL p).1 (List.mem_of_getElem? hp)).1
        have hpx : p = ⟨id, at_⟩ := uniqT G.u hpL hX hi
        subst hpx
        have hkq : k = q := by
          obtain ⟨l1, e1⟩ := List.getElem?_eq_some_iff.1 hp
          obtain ⟨l2, e2⟩ := List.getElem?_eq_some_iff.1 hq
          rcases Nat.lt_trichotomy k q with h | h | h
          · have := hnd k q l1 l2 h; rw [e1, e2] at this; exact absurd this (Tm.lt_irrefl _)
          · exact h
          · have := hnd q k l2 l1 h; rw [e1, e2] at this; exact absurd this (Tm.lt_irrefl _)
        subst hkq
        refine ⟨rfl, hc, ?_⟩
        simp
      · have hkq : k ≠ q := by
          rintro rfl
          rw [hp] at hq
          simp only [Option.some.injEq] at hq
          exact hi (by rw [hq])
        simp only
        split <;> split <;> omega
      · have h1 := (mR p).1 hp
        have hpx : p = ⟨id, at_⟩ := uniqT G.u h1.1 hX hi
        subst hpx
        have := h1.2
        simp only at this
        omega
    · refine ⟨fun _ => 0, rfl, fun k p hp => ⟨by simp only; omega, fun hi => ?_, fun _ => rfl⟩, .inl ⟨rfl, (mR _).2 ⟨hX, by simp only; omega⟩⟩, .inr ⟨rfl, hc⟩⟩
      have h1 := (mL p).1 (List.mem_of_getElem? hp)
      have hpx : p = ⟨id, at_⟩ := uniqT G.u h1.1 hX hi
      subst hpx
      exact absurd h1.2 hc
  · refine ⟨fun _ => 1, rfl, fun k p hp => ⟨by simp only; omega, fun hi => ?_, fun _ => rfl⟩, .inr ⟨rfl, fun p hp => hn p ((mR p).1 hp).1, by omega⟩, .inl ⟨rfl, by omega⟩⟩
    exact absurd hi (hn p ((mL p).1 (List.mem_of_getElem? hp)).1)
section
variable {TM : World → (Nat → Prop) → Addr → List Tm → Nat → Prop}
theorem OneK.up (C : TimC TM) {w : World} {p : Addr} {L : List Tm} {m : Nat} {B : Nat → Prop} {W : World} (h : OneK TM w p L m B W) : OneK TM w p L (m + 1) B W := ⟨C.up h.t, h.d, h.b⟩
theorem OneK.upto (C : TimC TM) {w : World} {p : Addr} {L : List Tm} {B : Nat → Prop} {W : World} {m m2 : Nat} (h : OneK TM w p L m B W) (hle : m ≤ m2) : OneK TM w p L m2 B W := by
  obtain ⟨d, rfl⟩ : ∃ d, m2 = m + d := ⟨m2 - m, by omega⟩
  clear hle
  induction d with
  | zero => exact h
  | succ d ih => exact ih.up C
set_option maxRecDepth 100000 in
set_option maxHeartbeats 1000000 in
theorem law_once (C : TimC TM) (ad : Option Addr) (n cap : Nat) (cs : List Op) (id at_ : Int) (az : Option Addr) (nz capz : Nat) (zs : List Int) (w : World) (hr : RowP w ad n cs) (hi : -9223372036854775808 ≤ id ∧ id ≤ 9223372036854775807) (ha : -9223372036854775808 ≤ at_ ∧ at_ ≤ 9223372036854775807) (hz : nz ≤ 100 → RowZ w az nz zs) :
    Calls Try.prog 4 #[.slice ad n cap, .int .i64 id, .int .i64 at_, .slice az nz capz] w fun e w' => e = .returned (.bool true) ∧ Below w.heap.size w w' := by
  have HC : Hid (TimC TM) := C
  have HR : Hid (RowP w ad n cs) := hr
  have HI : Hid (_) := hi
  clear C hr hi
  by_cases hbad : 200 < n ∨ ¬ 200 < n ∧ 100 < nz ∨ ¬ 200 < n ∧ ¬ 100 < nz ∧ at_ < 0 ∨ ¬ 200 < n ∧ ¬ 100 < nz ∧ ¬ at_ < 0 ∧ 1000000 < at_
  · clear hz ha
    have HB : Hid (_) := hbad
    clear hbad
    rcases HB.out with r1 | ⟨r1, r2⟩ | ⟨r1, r2, r3⟩ | ⟨r1, r2, r3, r4⟩
    case' inl => have r1' : (200 : Int) < (n : Int) := by omega
    case' inr.inl => have r1' : ¬ (200 : Int) < (n : Int) := by omega
    case' inr.inl => have r2' : (100 : Int) < (nz : Int) := by omega
    case' inr.inr.inl => have r1' : ¬ (200 : Int) < (n : Int) := by omega
    case' inr.inr.inl => have r2' : ¬ (100 : Int) < (nz : Int) := by omega
    case' inr.inr.inr => have r1' : ¬ (200 : Int) < (n : Int) := by omega
    case' inr.inr.inr => have r2' : ¬ (100 : Int) < (nz : Int) := by omega
    all_goals
      clear HB
      go_enter Try.func4, Try.ntmps4
      go_wp2_with (first
        | (go_at_call 8; refine (awake_any HC.out _).mono ?_; rintro e W1 ⟨rfl, hb1⟩)
        | (go_at_call 9; refine (HC.out.new _).mono ?_; rintro e W2 ⟨p, B, rfl, T2, hB2, hb2⟩; have he : ∀ W : World, (binOp .eql 24 (.pointer (some p)) (.pointer none)).run Try.prog W = .ok (.bool false) W := run_nilP _; have he' : ∀ W : World, (binOp .neq 24 (.pointer (some p)) (.pointer none)).run Try.prog W = .ok (.bool true) W := run_nilN _))
      go_ret
      exact ⟨rfl, stp hb1 hb2⟩
  have r1' : ¬ (200 : Int) < (n : Int) := by omega
  have r2' : ¬ (100 : Int) < (nz : Int) := by omega
  have r3 : ¬ at_ < 0 := by omega
  have r4 : ¬ 1000000 < at_ := by omega
  have hn200 : n ≤ 200 := by omega
  have hz100 : nz ≤ 100 := by omega
  have HZ : Hid (RowZ w az nz zs) := hz hz100
  have HX : Hid (_) := one_set (i := id) (a := at_) (c := at_) ⟨by omega, by omega⟩ ⟨by omega, by omega⟩
  have HO1 : Hid (Tm.Ok ⟨id, at_⟩) := ok10 ⟨HI.out.1, HI.out.2, ha.1, ha.2⟩
  clear hbad hz ha
  go_enter Try.func4, Try.ntmps4
  go_wp2_with (first
    | (go_at_call 8; refine (awake_any HC.out _).mono ?_; rintro e W1 ⟨rfl, hb1⟩)
    | (go_at_call 9; refine (HC.out.new _).mono ?_; rintro e W2 ⟨p, B, rfl, T2, hB2, hb2⟩; have hO := OneK.new (w := w) T2 hB2 hb1 hb2; have he : ∀ W : World, (binOp .eql 24 (.pointer (some p)) (.pointer none)).run Try.prog W = .ok (.bool false) W := run_nilP _; clear T2 hB2 hb1 hb2)
    | (go_at_call 10; refine (HC.out.set id at_ hO.t (by decide) HO1.out).mono ?_; rw [HX.out.1, HX.out.2.1]; intro e W3 hd; obtain ⟨rfl, B3, hO3⟩ := hO.step hd; clear hd))
  clear he
  have HF0 : Hid (OneK TM w p [⟨id, at_⟩] 1 B3 W3) := hO3
  clear hO hO3
  go_loopw [12] (fun i_ W => ∃ (j : Nat) (L : List Tm) (B : Nat → Prop), j ≤ n ∧ i_ = .int .i64 j ∧ Hid (OneK TM w p L (1 + j) B W ∧ ⟨id, at_⟩ ∈ L)) (fun i_ _ => n - (intOf i_).toNat)
  case atStart => exact ⟨0, _, B3, Nat.zero_le _, rfl, HF0.out, List.mem_singleton_self _⟩
  case round =>
    clear HF0
    obtain ⟨j, L, B, hj, rfl, HB⟩ := hrel
    by_cases hlt : j < n
    · have hlt' : (j : Int) < (n : Int) := by omega
      obtain ⟨⟨ck, ci, ca⟩, b, off, he, hok, rfl, q5⟩ := HR.out.at hlt
      have HOK : Hid (Tm.Ok ⟨ci, ca⟩) := ⟨hok.i0, hok.i1, hok.a0, hok.a1⟩
      have HQ : Hid (∀ W, Below w.heap.size w W → _) := fun W hb => ops_tail (q5.later (W' := W) hb)
      obtain ⟨d0, d1, d2⟩ := HQ.out wr HB.out.1.b
      clear hok q5 he
      by_cases hci : ci = id
      · subst hci
        go_wp2
        go_roundw
        case rel => exact ⟨j + 1, L, B, by omega, by go_num, HB.out.1.upto HC.out (by omega), HB.out.2⟩
        case measure => simp [intOf]; omega
      · have hci' : (ci == id) = false := by simpa using hci
        have HCi : Hid (ci ≠ id) := hci
        clear hci
        by_cases hk0 : ck = 0
        · subst hk0
          go_wp2
          go_region_held3 (fun w' => w'.cell? ⟨b, off + j * 3 + 1, none⟩ = some (.int .i64 ci) ∧ w'.cell? ⟨b, off + j * 3 + 2, none⟩ = some (.int .i64 ca)) (first | exact ⟨d1, d2⟩ | exact ⟨e1, e2⟩)
            ((go_at_call 10; refine (HC.out.set ci ca (HB.out.1.later HC.out (Below.refl _ _).drew).t (by omega) HOK.out).mono ?_; intro e W1 hd; obtain ⟨rfl, B1, hB1⟩ := (HB.out.1.later HC.out (Below.refl _ _).drew).step hd; obtain ⟨e0, e1, e2⟩ := HQ.out W1 hB1.b))
          all_goals
            go_wp2
            go_roundw
            case rel => exact ⟨j + 1, _, B1, by omega, by go_num, hB1.upto HC.out (by omega), once_set HB.out.2 HCi.out⟩
            case measure => simp [intOf]; omega
        · have hk0' : (ck == 0) = false := by simpa using hk0
          by_cases hk1 : ck = 1
          · subst hk1
            go_wp2_with (go_at_call 12; refine (HC.out.stop ci HB.out.1.t (by omega) HOK.out.i0 HOK.out.i1).mono ?_; intro e W1 hd; obtain ⟨rfl, B1, hB1⟩ := HB.out.1.step hd)
            go_roundw
            case rel => exact ⟨j + 1, _, B1, by omega, by go_num, hB1.upto HC.out (by omega), once_stop HB.out.2 HCi.out⟩
            case measure => simp [intOf]; omega
          · have hk1' : (ck == 1) = false := by simpa using hk1
            go_wp2
            go_roundw
            case rel => exact ⟨j + 1, L, B, by omega, by go_num, HB.out.1.upto HC.out (by omega), HB.out.2⟩
            case measure => simp [intOf]; omega
    · have hlt' : ¬ (j : Int) < (n : Int) := by omega
      obtain rfl : j = n := by omega
      go_wp2
      have HF1 : Hid (OneK TM w p L (1 + j) B wr ∧ OnceT L id at_ 0 0) := ⟨HB.out.1, .inl ⟨rfl, HB.out.2⟩⟩
      clear HB
      go_loopw [13, 14, 15] (fun now_ f_ i_ W => ∃ (m : Nat) (now f : Int) (L : List Tm) (B : Nat → Prop), m ≤ nz ∧ i_ = .int .i64 m ∧ now_ = .int .i64 now ∧ f_ = .int .i64 f ∧ (0 ≤ now ∧ now ≤ (m : Int) * 1000000) ∧ Hid (OneK TM w p L (1 + j + m) B W ∧ OnceT L id at_ now f)) (fun _ _ i_ _ => nz - (intOf i_).toNat)
      case atStart => exact ⟨0, 0, 0, L, B, Nat.zero_le _, rfl, rfl, rfl, ⟨by omega, by omega⟩, HF1⟩
      case round =>
        clear HF1
        obtain ⟨m, now, f, L, B, hm, rfl, rfl, rfl, hnow, HB⟩ := hrel
        by_cases hle : m < nz
        · have hle' : (m : Int) < (nz : Int) := by omega
          obtain ⟨g, off, rfl, hs⟩ := (HZ.out.later HB.out.1.b).2.2 m hle
          obtain ⟨s, hse⟩ : ∃ s, zs[m]?.getD 0 = s := ⟨_, rfl⟩
          rw [hse] at hs
          clear hse
          by_cases hsb : s < 0 ∨ ¬ s < 0 ∧ 1000000 < s
          · have HSB : Hid (_) := hsb
            clear hsb
            rcases HSB.out with s1 | ⟨s1, s2⟩
            all_goals
              go_wp2
              go_ret
              exact ⟨rfl, HB.out.1.b⟩
          · have s1 : ¬ s < 0 := by omega
            have s2 : ¬ 1000000 < s := by omega
            have hmz : (m : Int) ≤ 100 := by omega
            obtain ⟨now', hn'⟩ : ∃ x, now + s = x := ⟨_, rfl⟩
            have hw1 : IntKind.i64.wrap (now + s) = now' := by rw [wrap_in (by omega) (by omega)]; exact hn'
            have hnn : 0 ≤ now' ∧ now' ≤ ((m + 1 : Nat) : Int) * 1000000 := by omega
            have HNN : Hid (-9223372036854775808 ≤ now' ∧ now' ≤ 9223372036854775807) := by unfold Hid; omega
            obtain ⟨F, f0, hF, hR, hE⟩ := once_due (HC.out.good HB.out.1.t).1 HB.out.2 (show now ≤ now' by omega)
            subst f0
            have HF : Hid (_) := hF
            have HTm : Hid (Tms (dueL now' L)) := fun p hp => (HC.out.good HB.out.1.t).2.1 p (((mem_due now' (HC.out.good HB.out.1.t).1.s).1 p).1 hp).1
            have HRE : Hid (_ ∧ _) := ⟨hR, hE⟩
            have HL256 : Hid (L.length ≤ 256) := (HC.out.good HB.out.1.t).2.2.2
            have HNw : Hid (0 ≤ now' ∧ now' ≤ ((m + 1 : Nat) : Int) * 1000000) := hnn
            clear hF hR hE hsb hnow hnn hn'
            go_wp2_with (go_at_call 15; refine (HC.out.due now' HB.out.1.t (by omega) HNN.out.1 HNN.out.2).mono ?_; intro e W6 hd; obtain ⟨B6, ad', k, cap', rfl, hO6, own, -⟩ := HB.out.1.dued hd)
            have hk : (dueL now' L).length = k := own.len
            have HRow : Hid (RowT W6 ad' k (dueL now' L)) := own.row HTm.out
            rw [hk] at HRE
            have HO6 : Hid (_) := hO6
            clear own hO6 hd hk HTm HB hs
            go_loopw [14, 17] (fun f_ k_ W => ∃ (q : Nat), q ≤ k ∧ f_ = .int .i64 (F q) ∧ k_ = .int .i64 q ∧ Below W6.heap.size W6 W) (fun _ k_ _ => k - (intOf k_).toNat)
            case atStart => exact ⟨0, Nat.zero_le _, rfl, rfl, Below.refl _ _⟩
            case round =>
              obtain ⟨q, hq, rfl, rfl, hBV⟩ := hrel
              have hk400 : k ≤ 100000 := by
                have h1 := HRow.out.1
                have h2 := due_len now' L
                have h3 := (HC.out.good HO6.out.t).2.2.2
                have h4 := HL256.out
                omega
              by_cases hqk : q < k
              · have hqk' : (q : Int) < (k : Int) := by omega
                obtain ⟨⟨yi, ya⟩, g2, off2, hy, -, rfl, q0, q1⟩ := (HRow.out.later hBV).at hqk
                obtain ⟨hf01, hfy, hfn⟩ := HF.out q _ hy
                simp only at q0 q1 hfy hfn
                by_cases hyi : yi = id
                · obtain ⟨hya, hle2, hfq⟩ := hfy hyi
                  subst hyi hya
                  have hna : ¬ now' < ya := by omega
                  have hw2 : IntKind.i64.wrap (F q + 1) = F (q + 1) := by rw [wrap_in (by omega) (by omega), hfq]
                  clear hf01 hfy hfn hle2 hfq hy
                  go_wp2
                  go_roundw
                  case rel => exact ⟨q + 1, by omega, rfl, by go_num, hBV⟩
                  case measure => simp [intOf]; omega
                · have hyi' : (yi == id) = false := by simpa using hyi
                  have HFn : Hid (F (q + 1) = F q) := hfn hyi
                  clear hf01 hfy hfn hy hyi
                  go_wp2
                  go_roundw
                  case rel => exact ⟨q + 1, by omega, by rw [HFn.out], by go_num, hBV⟩
                  case measure => simp [intOf]; omega
              · have hqk' : ¬ (q : Int) < (k : Int) := by omega
                obtain rfl : q = k := by omega
                have hO7 := HO6.out.later HC.out hBV
                rcases HRE.out.2 with ⟨hz, hc⟩ | ⟨hz, hc⟩
                all_goals
                  have HE : Hid (_) := HRE.out.1
                  rw [hz] at HE ⊢
                  clear hz
                  go_wp2
                  go_roundw
                  case rel => exact ⟨m + 1, now', _, _, B6, by omega, by go_num, rfl, rfl, HNw.out, hO7.upto HC.out (by omega), HE.out⟩
                  case measure => simp [intOf]; omega
        · have hle' : ¬ (m : Int) < (nz : Int) := by omega
          go_wp2
          go_ret
          exact ⟨rfl, HB.out.1.b⟩
end
end Go.Proofs.Ytajpfmnnkglkiaa
