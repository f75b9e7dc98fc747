/- The law TrieBack, walked, over what is asked of the program's trie. -/
import Derived.Test.YtifokdebocgaiaaLawV
namespace Go.Proofs.Ytifokdebocgaiaa
open Go.RowKit

theorem get_eq {L M : List Pr} {a l : Int} (h : getP M a l = getP L a l) : getN M a l = getN L a l ∧ getB M a l = getB L a l := by unfold getN getB; rw [h]; exact ⟨rfl, rfl⟩
theorem take_has {L : List Pr} {p : Pr} (hp : p ∈ L) : takeX L p.a p.l = 0 := by
  unfold takeX
  cases h : fAt p.a p.l L with
  | none => exact absurd ⟨rfl, rfl⟩ (fAt_none.1 h p hp)
  | some i => rfl
theorem take_hasn {L : List Pr} {a l : Int} (h : ∀ p ∈ L, ¬ (p.a = a ∧ p.l = l)) : takeX L a l = 5 := by
  unfold takeX
  rw [fAt_none.2 h]; rfl
/-- What a Put and a Take of p leave of p and of another one. -/
theorem back_facts {L : List Pr} (hg : GoodP L) {a l n qa ql : Int} (hx : putX 1000 L a l = 0) (hne : ¬ (qa = a ∧ ql = l)) :
    (getN (putL 1000 L a l n) a l = n ∧ getB (putL 1000 L a l n) a l = true) ∧ (getN (putL 1000 L a l n) qa ql = getN L qa ql ∧ getB (putL 1000 L a l n) qa ql = getB L qa ql) ∧ takeX (putL 1000 L a l n) a l = 0 ∧
    getB (takeL (putL 1000 L a l n) a l) a l = false ∧ (getN (takeL (putL 1000 L a l n) a l) qa ql = getN L qa ql ∧ getB (takeL (putL 1000 L a l n) a l) qa ql = getB L qa ql) ∧ takeX (takeL (putL 1000 L a l n) a l) a l = 5 := by
  obtain ⟨M, hM⟩ : ∃ M, putL 1000 L a l n = M := ⟨_, rfl⟩
  have hmem : ∀ p, p ∈ M ↔ p = ⟨a, l, n⟩ ∨ p ∈ L ∧ ¬ (p.a = a ∧ p.l = l) := fun p => by rw [← hM]; exact mem_put hg.s hx
  have hsM : Srt M := by
    rw [← hM]
    unfold putL
    split
    · exact hg.s
    split
    · rename_i i hi
      obtain ⟨p, hp, e1, e2, -⟩ := fAt_some hi
      exact srt_set hg.s hp e1.symm e2.symm
    · rename_i hi
      split
      · exact hg.s
      · exact srt_insP hg.s (fAt_none.1 hi)
  rw [hM]
  have hin : (⟨a, l, n⟩ : Pr) ∈ M := (hmem _).2 (.inl rfl)
  have hget := getP_mem hsM hin
  simp only at hget
  have hT : ∀ p, p ∈ takeL M a l ↔ p ∈ M ∧ ¬ (p.a = a ∧ p.l = l) := fun p => mem_take hsM
  have hsT : Srt (takeL M a l) := by
    unfold takeL
    split
    · exact srt_erase hsM
    · exact hsM
  have hnone : ∀ p ∈ takeL M a l, ¬ (p.a = a ∧ p.l = l) := fun p hp => ((hT p).1 hp).2
  have hq1 : getP M qa ql = getP L qa ql := get_of_mem hsM fun p h1 h2 => by
    rw [hmem]
    constructor
    · rintro (rfl | h)
      · exact absurd ⟨h1.symm, h2.symm⟩ hne
      · exact h.1
    · intro h
      exact .inr ⟨h, by rw [h1, h2]; exact hne⟩
  have hq2 : getP (takeL M a l) qa ql = getP L qa ql := by
    rw [← hq1]
    refine get_of_mem hsT fun p h1 h2 => ?_
    rw [hT]
    exact ⟨fun h => h.1, fun h => ⟨h, by rw [h1, h2]; exact hne⟩⟩
  refine ⟨⟨by unfold getN; rw [hget]; rfl, by unfold getB; rw [hget]; rfl⟩, get_eq hq1, take_has hin, by unfold getB; rw [getP_none.2 hnone]; rfl, get_eq hq2, take_hasn hnone⟩
section
variable {TR : World → (Nat → Prop) → Addr → Int → List Pr → Nat → Prop}
set_option maxRecDepth 100000 in
set_option maxHeartbeats 4000000 in
theorem law_back (C : TrieC TR) (ad : Option Addr) (n cap : Nat) (cs : List Cl) (pa pl y qa ql : Int) (w : World) (hr : RowC w ad n cs) (hp : Pr.Ok ⟨pa, pl, y⟩) (hq : Px.Ok ⟨qa, ql⟩) :
    Calls Try.prog 5 #[.slice ad n cap, valX pa pl, .int .i64 y, valX qa ql] w fun e w' => e = .returned (.bool true) ∧ Below w.heap.size w w' := by
  have HC : Hid (TrieC TR) := C
  have HP : Hid (Pr.Ok ⟨pa, pl, y⟩) := hp
  have HPX : Hid (Px.Ok ⟨pa, pl⟩) := ⟨hp.a0, hp.a1, hp.l0, hp.l1⟩
  have HQX : Hid (Px.Ok ⟨qa, ql⟩) := hq
  have pa0 : 0 ≤ pa := hp.a0
  have pa1 : pa < 4294967296 := hp.a1
  obtain ⟨w2, hw2⟩ : ∃ w2, w2 = (w.alloc (objX pa pl)).alloc (objX qa ql) := ⟨_, rfl⟩
  have HB2 : Hid (Below w.heap.size w w2) := by unfold Hid; rw [hw2]; exact below2 _ _ _
  have HR : Hid (RowC w2 ad n cs) := hr.later HB2.out
  have HXp : Hid (X2 w2 w.heap.size 0 ⟨pa, pl⟩) := by unfold Hid; rw [hw2]; exact (X2.new w pa pl).later (below1 _ _)
  have HXq : Hid (X2 w2 (w.heap.size + 1) 0 ⟨qa, ql⟩) := by unfold Hid; rw [hw2]; have := X2.new (w.alloc (objX pa pl)) qa ql; simpa using this
  clear C hr hp hq
  cases hqp : (pa == qa && pl == ql)
  case true =>
    have eqX := run_eqX pa pl qa ql true hqp
    by_cases hn : n ≤ 200
    · have hn' : ¬ (200 : Int) < (n : Int) := by omega
      go_enter Try.func5, Try.ntmps5
      go_wp2_with (first
        | (go_at_call 9; refine (awake_any HC.out _).mono ?_; rw [← hw2]; rintro e W1 ⟨rfl, hb1⟩)
        | (go_at_call 10; refine (HC.out.new 1000 _ (by decide) (by decide)).mono ?_; rintro e W2 ⟨p, B, rfl, T2, hB2, hb2⟩; have he : ∀ W : World, (binOp .eql 24 (.pointer (some p)) (.pointer none)).run Try.prog W = .ok (.bool false) W := (fun _ => rfl); have he' : ∀ W : World, (binOp .neq 24 (.pointer (some p)) (.pointer none)).run Try.prog W = .ok (.bool true) W := (fun _ => rfl); obtain ⟨g0, g1⟩ := (HXp.out.later (stp hb1 hb2)).z; obtain ⟨k0, k1⟩ := (HXq.out.later (stp hb1 hb2)).z))
      go_ret
      exact ⟨rfl, stp HB2.out (stp hb1 hb2)⟩
    · have hn' : (200 : Int) < (n : Int) := by omega
      go_enter Try.func5, Try.ntmps5
      go_wp2_with (first
        | (go_at_call 9; refine (awake_any HC.out _).mono ?_; rw [← hw2]; rintro e W1 ⟨rfl, hb1⟩)
        | (go_at_call 10; refine (HC.out.new 1000 _ (by decide) (by decide)).mono ?_; rintro e W2 ⟨p, B, rfl, T2, hB2, hb2⟩; have he : ∀ W : World, (binOp .eql 24 (.pointer (some p)) (.pointer none)).run Try.prog W = .ok (.bool false) W := (fun _ => rfl); have he' : ∀ W : World, (binOp .neq 24 (.pointer (some p)) (.pointer none)).run Try.prog W = .ok (.bool true) W := (fun _ => rfl); obtain ⟨g0, g1⟩ := (HXp.out.later (stp hb1 hb2)).z; obtain ⟨k0, k1⟩ := (HXq.out.later (stp hb1 hb2)).z))
      go_ret
      exact ⟨rfl, stp HB2.out (stp hb1 hb2)⟩
  have eqX := run_eqX pa pl qa ql false hqp
  have HNE : Hid (¬ (qa = pa ∧ ql = pl)) := by
    unfold Hid; rintro ⟨rfl, rfl⟩; simp at hqp
  by_cases hn : n ≤ 200
  case neg =>
    have hn' : (200 : Int) < (n : Int) := by omega
    go_enter Try.func5, Try.ntmps5
    go_wp2_with (first
      | (go_at_call 9; refine (awake_any HC.out _).mono ?_; rw [← hw2]; rintro e W1 ⟨rfl, hb1⟩)
      | (go_at_call 10; refine (HC.out.new 1000 _ (by decide) (by decide)).mono ?_; rintro e W2 ⟨p, B, rfl, T2, hB2, hb2⟩; have he : ∀ W : World, (binOp .eql 24 (.pointer (some p)) (.pointer none)).run Try.prog W = .ok (.bool false) W := (fun _ => rfl); have he' : ∀ W : World, (binOp .neq 24 (.pointer (some p)) (.pointer none)).run Try.prog W = .ok (.bool true) W := (fun _ => rfl); obtain ⟨g0, g1⟩ := (HXp.out.later (stp hb1 hb2)).z; obtain ⟨k0, k1⟩ := (HXq.out.later (stp hb1 hb2)).z))
    go_ret
    exact ⟨rfl, stp HB2.out (stp hb1 hb2)⟩
  have hn' : ¬ (200 : Int) < (n : Int) := by omega
  clear hqp
  go_enter Try.func5, Try.ntmps5
  go_wp2_with (first
    | (go_at_call 9; refine (awake_any HC.out _).mono ?_; rw [← hw2]; rintro e W1 ⟨rfl, hb1⟩)
    | (go_at_call 10; refine (HC.out.new 1000 _ (by decide) (by decide)).mono ?_; rintro e W2 ⟨p, B, rfl, T2, hB2, hb2⟩; have he : ∀ W : World, (binOp .eql 24 (.pointer (some p)) (.pointer none)).run Try.prog W = .ok (.bool false) W := (fun _ => rfl); obtain ⟨g0, g1⟩ := (HXp.out.later (stp hb1 hb2)).z; obtain ⟨k0, k1⟩ := (HXq.out.later (stp hb1 hb2)).z))
  have hnew : One TR w2 p 1000 [] 0 B W2 := ⟨T2, fun k hk => Nat.le_trans hb1.size (hB2 k hk), stp hb1 hb2⟩
  clear T2 hB2 hb1 hb2 he g0 g1 k0 k1 eqX
  go_loopw [11] (fun i_ W => ∃ (j : Nat) (L : List Pr) (B : Nat → Prop), j ≤ n ∧ i_ = .int .i64 j ∧ Hid (One TR w2 p 1000 L j B W)) (fun i_ _ => n - (intOf i_).toNat)
  case atStart => exact ⟨0, [], B, Nat.zero_le _, rfl, hnew⟩
  case round =>
    clear hnew
    obtain ⟨j, L, B, hj, rfl, HB⟩ := hrel
    by_cases hlt : j < n
    · have hlt' : (j : Int) < (n : Int) := by omega
      obtain ⟨⟨ck, ca, cl, cn, cx⟩, b, off, he, hok, rfl, q5⟩ := HR.out.at hlt
      have HOK : Hid (Pr.Ok ⟨ca, cl, cn⟩) := ⟨hok.a0, hok.a1, hok.l0, hok.l1, hok.n0, hok.n1⟩
      have HQ : Hid (∀ W, Below w2.heap.size w2 W → _) := fun W hb => (q5.later (W' := W) hb).zz
      obtain ⟨-, d1, d2, d3, -⟩ := HQ.out wr HB.out.b
      clear hok q5 he
      go_wp2
      go_region_held3 (fun w' => w'.cell? ⟨b, off + j * 5 + 1, none⟩ = some (.int .u32 ca) ∧ w'.cell? ⟨b, off + j * 5 + 2, none⟩ = some (.int .i64 cl) ∧ w'.cell? ⟨b, off + j * 5 + 3, none⟩ = some (.int .i64 cn)) (first | exact ⟨d1, d2, d3⟩ | exact ⟨e1, e2, e3⟩)
        ((go_at_call 11; refine (HC.out.put ca cl cn (HB.out.later HC.out (Below.refl _ _).drew).t (by omega) HOK.out).mono ?_; intro e W1 hd; obtain ⟨rfl, B1, hB1⟩ := (HB.out.later HC.out (Below.refl _ _).drew).step hd; obtain ⟨-, e1, e2, e3, -⟩ := HQ.out W1 hB1.b))
      all_goals
        go_wp2
        go_roundw
        case rel => exact ⟨j + 1, _, B1, by omega, by go_num, hB1⟩
        case measure => simp [intOf]; omega
    · have hlt' : ¬ (j : Int) < (n : Int) := by omega
      obtain rfl : j = n := by omega
      obtain ⟨hg, hlen⟩ := HC.out.good HB.out.t
      obtain ⟨k0, k1⟩ := (HXq.out.later HB.out.b).z
      obtain ⟨ga, hga⟩ : ∃ x, getN L qa ql = x := ⟨_, rfl⟩
      obtain ⟨gb, hgb⟩ : ∃ x, getB L qa ql = x := ⟨_, rfl⟩
      have HGA : Hid (getN L qa ql = ga) := hga
      have HGB : Hid (getB L qa ql = gb) := hgb
      cases hm : mayB pa pl
      · have HX : Hid (putX 1000 L pa pl = 1) := put_arg hm
        have HM : Hid (mayB pa pl = false) := hm
        clear hg hlen hga hgb hm
        go_wp2_with (first
          | (go_at_call 15; refine (HC.out.get qa ql HB.out.t (by omega) HQX.out).mono ?_; rw [HGA.out, HGB.out]; rintro e W1 ⟨rfl, hb1⟩; have hB1 := HB.out.later HC.out hb1; obtain ⟨g0, g1⟩ := (HXp.out.later hB1.b).z)
          | (go_at_call 11; refine (HC.out.put pa pl y hB1.t (by omega) HP.out).mono ?_; intro e W2 hd; obtain ⟨rfl, B2, hB2⟩ := hB1.step hd; rw [HX.out]; obtain ⟨g0, g1⟩ := (HXp.out.later hB2.b).z)
          | (go_at_call 24; refine (may_any _ _ _ pa0 pa1 HM.out).mono ?_; rintro e W3 ⟨rfl, hb3⟩))
        go_ret
        exact ⟨rfl, stp HB2.out (stp hB2.b hb3)⟩
      · have hx : putX 1000 L pa pl = 0 := put_room hm (by omega)
        have HX : Hid (putX 1000 L pa pl = 0) := hx
        have hF := back_facts (n := y) hg hx HNE.out
        rw [hga, hgb] at hF
        obtain ⟨M1, hM1⟩ : ∃ M, putL 1000 L pa pl y = M := ⟨_, rfl⟩
        rw [hM1] at hF
        obtain ⟨M2, hM2⟩ : ∃ M, takeL M1 pa pl = M := ⟨_, rfl⟩
        rw [hM2] at hF
        have HM1 : Hid (putL 1000 L pa pl y = M1) := hM1
        have HM2 : Hid (takeL M1 pa pl = M2) := hM2
        obtain ⟨f1, f2, f3, f4, f5, f6⟩ := hF
        have HF1 : Hid (getN M1 pa pl = y ∧ getB M1 pa pl = true) := f1
        have HF2 : Hid (getN M1 qa ql = ga ∧ getB M1 qa ql = gb) := f2
        have HF3 : Hid (takeX M1 pa pl = 0) := f3
        obtain ⟨gz, hgz⟩ : ∃ x, getN M2 pa pl = x := ⟨_, rfl⟩
        have HF4 : Hid (getN M2 pa pl = gz ∧ getB M2 pa pl = false) := ⟨hgz, f4⟩
        have HF5 : Hid (getN M2 qa ql = ga ∧ getB M2 qa ql = gb) := f5
        have HF6 : Hid (takeX M2 pa pl = 5) := f6
        have hcur : One TR w2 p 1000 L j B wr := HB.out
        have HQc : Hid (getN L qa ql = ga ∧ getB L qa ql = gb) := ⟨HGA.out, HGB.out⟩
        obtain ⟨g0, g1⟩ := (HXp.out.later hcur.b).z
        clear hg hlen hga hgb hm hx hM1 hM2 f1 f2 f3 f4 f5 f6 hgz
        go_wp2_with (first
          | (go_at_call_of 15 (Value.agg #[Value.int IntKind.u32 qa, Value.int IntKind.i64 ql]); refine (HC.out.get qa ql hcur.t (by omega) HQX.out).mono ?_; rw [HQc.out.1, HQc.out.2]; rintro e W_ ⟨rfl, hb_⟩; have hcur := hcur.later HC.out hb_; clear hb_; obtain ⟨g0, g1⟩ := (HXp.out.later hcur.b).z; obtain ⟨k0, k1⟩ := (HXq.out.later hcur.b).z)
          | (go_at_call_of 15 (Value.agg #[Value.int IntKind.u32 pa, Value.int IntKind.i64 pl]); refine (HC.out.get pa pl hcur.t (by omega) HPX.out).mono ?_; rw [HPc.out.1, HPc.out.2]; rintro e W_ ⟨rfl, hb_⟩; have hcur := hcur.later HC.out hb_; clear hb_; obtain ⟨g0, g1⟩ := (HXp.out.later hcur.b).z; obtain ⟨k0, k1⟩ := (HXq.out.later hcur.b).z)
          | (go_at_call 11; refine (HC.out.put pa pl y hcur.t (by omega) HP.out).mono ?_; intro e W_ hd; rw [HX.out, HM1.out] at hd; obtain ⟨rfl, B2, hcur⟩ := hcur.step hd; clear hd; obtain ⟨g0, g1⟩ := (HXp.out.later hcur.b).z; obtain ⟨k0, k1⟩ := (HXq.out.later hcur.b).z; have HQc := HF2; have HPc := HF1; have HTc := HF3)
          | (go_at_call 13; refine (HC.out.take pa pl hcur.t (by omega) HPX.out).mono ?_; intro e W_ hd; rw [HTc.out] at hd; obtain ⟨rfl, B2, hcur⟩ := hcur.step hd; clear hd; obtain ⟨g0, g1⟩ := (HXp.out.later hcur.b).z; obtain ⟨k0, k1⟩ := (HXq.out.later hcur.b).z; (try rw [HM2.out] at hcur); have HQc := HF5; have HPc := HF4; have HTc := HF6))
        go_ret
        exact ⟨rfl, stp HB2.out hcur.b⟩
end
end Go.Proofs.Ytifokdebocgaiaa
