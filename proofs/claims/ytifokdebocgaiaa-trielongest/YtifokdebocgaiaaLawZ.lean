/- The law TrieLongest, walked, over what is asked of the program's trie. -/
import Derived.Test.YtifokdebocgaiaaLawV
namespace Go.Proofs.Ytifokdebocgaiaa
open Go.RowKit

/-- What Find and Get tell together. -/
theorem longest_facts {L : List Pr} (hg : GoodP L) {x fa fl fn : Int} {fb : Bool} (ha : fndA x L = fa) (hl : fndL x L = fl) (hn : fndN x L = fn) (hb : fndB x L = fb) :
    Px.Ok ⟨fa, fl⟩ ∧ (fb = true → getN L fa fl = fn ∧ getB L fa fl = true ∧ hasB fa fl x = true ∧ ∀ q ∈ L, hasB q.a q.l x = true → q.l ≤ fl) ∧ (fb = false → ∀ q ∈ L, hasB q.a q.l x = false) := by
  unfold fndA at ha
  unfold fndL at hl
  unfold fndN at hn
  unfold fndB at hb
  cases h : findP x L none with
  | none =>
    rw [h] at ha hl hb
    simp at ha hl hb
    subst ha hl hb
    exact ⟨⟨Int.le_refl 0, (by decide : (0 : Int) < 4294967296), (by decide : (-9223372036854775808 : Int) ≤ 0), (by decide : (0 : Int) ≤ 9223372036854775807)⟩, (fun h => by cases h), fun _ => find_none h⟩
  | some p =>
    rw [h] at ha hl hn hb
    simp at ha hl hn hb
    subst ha hl hn hb
    obtain ⟨h1, h2, h3⟩ := find_some h
    have hlen := may_len (hg.m p h1)
    have hget := getP_mem hg.s h1
    exact ⟨⟨(hg.u p h1).1, (hg.u p h1).2, by show _ ≤ p.l; omega, by show p.l ≤ _; omega⟩, fun _ => ⟨by unfold getN; rw [hget]; rfl, by unfold getB; rw [hget]; rfl, h2, h3⟩, (fun h => by cases h)⟩
theorem srt_next {L : List Pr} (hs : Srt L) {i : Nat} {p q : Pr} (hp : L[i]? = some p) (hq : L[i + 1]? = some q) : lessB p.a p.l q.a q.l = true := by
  have h1 := (List.getElem?_eq_some_iff.1 hp).1
  have h2 := (List.getElem?_eq_some_iff.1 hq).1
  unfold Srt at hs
  rw [List.pairwise_iff_getElem] at hs
  have := hs i (i + 1) h1 h2 (by omega)
  rw [(List.getElem?_eq_some_iff.1 hp).2, (List.getElem?_eq_some_iff.1 hq).2] at this
  exact this
section
variable {TR : World → (Nat → Prop) → Addr → Int → List Pr → Nat → Prop}
set_option maxRecDepth 100000 in
set_option maxHeartbeats 4000000 in
theorem law_longest (C : TrieC TR) (most : Int) (ad : Option Addr) (n cap : Nat) (cs : List Cl) (x : Int) (w : World) (hm0 : -9223372036854775808 ≤ most) (hm1 : most ≤ 9223372036854775807) (hr : RowC w ad n cs) (x0 : 0 ≤ x) (x1 : x < 4294967296) :
    Calls Try.prog 4 #[.int .i64 most, .slice ad n cap, .int .u32 x] w fun e w' => e = .returned (.bool true) ∧ Below w.heap.size w w' := by
  have HC : Hid (TrieC TR) := C
  have HR : Hid (RowC w ad n cs) := hr
  clear C hr
  by_cases hn : n ≤ 200
  case neg =>
    have hn' : (200 : Int) < (n : Int) := by omega
    go_enter Try.func4, Try.ntmps4
    go_wp2_with (first
      | (go_at_call 9; refine (awake_any HC.out _).mono ?_; rintro e W1 ⟨rfl, hb1⟩)
      | (go_at_call 10; refine (HC.out.new most _ hm0 hm1).mono ?_; rintro e W2 ⟨p, B, rfl, T2, hB2, hb2⟩; have he : ∀ W : World, (binOp .eql 24 (.pointer (some p)) (.pointer none)).run Try.prog W = .ok (.bool false) W := (fun _ => rfl); have he' : ∀ W : World, (binOp .neq 24 (.pointer (some p)) (.pointer none)).run Try.prog W = .ok (.bool true) W := (fun _ => rfl)))
    go_ret
    exact ⟨rfl, stp hb1 hb2⟩
  have hn' : ¬ (200 : Int) < (n : Int) := by omega
  go_enter Try.func4, Try.ntmps4
  go_wp2_with (first
    | (go_at_call 9; refine (awake_any HC.out _).mono ?_; rintro e W1 ⟨rfl, hb1⟩)
    | (go_at_call 10; refine (HC.out.new most _ hm0 hm1).mono ?_; rintro e W2 ⟨p, B, rfl, T2, hB2, hb2⟩; have he : ∀ W : World, (binOp .eql 24 (.pointer (some p)) (.pointer none)).run Try.prog W = .ok (.bool false) W := (fun _ => rfl)))
  have hnew : One TR w p most [] 0 B W2 := ⟨T2, fun k hk => Nat.le_trans hb1.size (hB2 k hk), stp hb1 hb2⟩
  clear T2 hB2 hb1 hb2 he
  go_loopw [9] (fun i_ W => ∃ (j : Nat) (L : List Pr) (B : Nat → Prop), j ≤ n ∧ i_ = .int .i64 j ∧ Hid (One TR w p most L j B W)) (fun i_ _ => n - (intOf i_).toNat)
  case atStart => exact ⟨0, [], B, Nat.zero_le _, rfl, hnew⟩
  case round =>
    clear hnew
    obtain ⟨j, L, B, hj, rfl, HB⟩ := hrel
    by_cases hlt : j < n
    · have hlt' : (j : Int) < (n : Int) := by omega
      obtain ⟨⟨ck, ca, cl, cn, cx⟩, b, off, he, hok, rfl, q5⟩ := HR.out.at hlt
      have HOK : Hid (Pr.Ok ⟨ca, cl, cn⟩) := ⟨hok.a0, hok.a1, hok.l0, hok.l1, hok.n0, hok.n1⟩
      have HOX : Hid (Px.Ok ⟨ca, cl⟩) := ⟨hok.a0, hok.a1, hok.l0, hok.l1⟩
      have HQ : Hid (∀ W, Below w.heap.size w W → _) := fun W hb => (q5.later (W' := W) hb).zz
      obtain ⟨d0, d1, d2, d3, -⟩ := HQ.out wr HB.out.b
      clear hok q5 he
      by_cases hk1 : ck = 1
      · subst hk1
        go_wp2_with (go_at_call 13; refine (HC.out.take ca cl HB.out.t (by omega) HOX.out).mono ?_; intro e W1 hd; obtain ⟨rfl, B1, hB1⟩ := HB.out.step hd)
        go_roundw
        case rel => exact ⟨j + 1, _, B1, by omega, by go_num, hB1⟩
        case measure => simp [intOf]; omega
      · have hk1' : (ck == 1) = false := by simpa using hk1
        go_wp2
        go_region_held3 (fun w' => w'.cell? ⟨b, off + j * 5 + 1, none⟩ = some (.int .u32 ca) ∧ w'.cell? ⟨b, off + j * 5 + 2, none⟩ = some (.int .i64 cl) ∧ w'.cell? ⟨b, off + j * 5 + 3, none⟩ = some (.int .i64 cn)) (first | exact ⟨d1, d2, d3⟩ | exact ⟨e1, e2, e3⟩)
          ((go_at_call 11; refine (HC.out.put ca cl cn (HB.out.later HC.out (Below.refl _ _).drew).t (by omega) HOK.out).mono ?_; intro e W1 hd; obtain ⟨rfl, B1, hB1⟩ := (HB.out.later HC.out (Below.refl _ _).drew).step hd; obtain ⟨-, e1, e2, e3, -⟩ := HQ.out W1 hB1.b))
        all_goals
          go_wp2
          go_roundw
          case rel => exact ⟨j + 1, _, B1, by omega, by go_num, hB1⟩
          case measure => simp [intOf]; omega
    · have hlt' : ¬ (j : Int) < (n : Int) := by omega
      obtain rfl : j = n := by omega
      obtain ⟨hg, hlen⟩ := HC.out.good HB.out.t
      have HG : Hid (GoodP L) := hg
      have HLen : Hid (L.length ≤ j) := hlen
      obtain ⟨fa, hfa⟩ : ∃ z, fndA x L = z := ⟨_, rfl⟩
      obtain ⟨fl, hfl⟩ : ∃ z, fndL x L = z := ⟨_, rfl⟩
      obtain ⟨fn, hfn⟩ : ∃ z, fndN x L = z := ⟨_, rfl⟩
      obtain ⟨fb, hfb⟩ : ∃ z, fndB x L = z := ⟨_, rfl⟩
      have HF : Hid (fndA x L = fa ∧ fndL x L = fl ∧ fndN x L = fn ∧ fndB x L = fb) := ⟨hfa, hfl, hfn, hfb⟩
      obtain ⟨hX, hY, hZ⟩ := longest_facts hg hfa hfl hfn hfb
      have HX : Hid (Px.Ok ⟨fa, fl⟩) := hX
      have fa0 : 0 ≤ fa := hX.a0
      have fa1 : fa < 4294967296 := hX.a1
      have HMax : Hid (∀ q ∈ L, hasB q.a q.l x = true → fb = true ∧ q.l ≤ fl) := fun q hq hh => by
        cases hb : fb
        · have := hZ hb q hq; rw [hh] at this; cases this
        · exact ⟨rfl, (hY hb).2.2.2 q hq hh⟩
      obtain ⟨ga, hga⟩ : ∃ z, getN L fa fl = z := ⟨_, rfl⟩
      obtain ⟨gb, hgb⟩ : ∃ z, getB L fa fl = z := ⟨_, rfl⟩
      have HGet : Hid (getN L fa fl = ga ∧ getB L fa fl = gb) := ⟨hga, hgb⟩
      have HY : Hid (fb = true → ga = fn ∧ gb = true ∧ hasB fa fl x = true) := fun h => ⟨by rw [← hga]; exact (hY h).1, by rw [← hgb]; exact (hY h).2.1, (hY h).2.2.1⟩
      have hcur : One TR w p most L j B wr := HB.out
      clear hg hlen hfa hfl hfn hfb hX hY hZ hga hgb
      cases fb
      case' true =>
        obtain ⟨rfl, rfl, hh⟩ := HY.out rfl
        have HHas : Hid (hasB fa fl x = true) := hh
        have neN : (ga != ga) = false := by simp
        clear hh HY
        go_wp2_with (first
          | (go_at_call 17; refine (HC.out.find x hcur.t (by omega) x0 x1).mono ?_; rw [HF.out.1, HF.out.2.1, HF.out.2.2.1, HF.out.2.2.2]; rintro e V1 ⟨rfl, hb1⟩; have hcur := (hcur.later HC.out hb1).later HC.out (below1 _ (objX fa fl)))
          | (go_at_call 15; refine (HC.out.get fa fl hcur.t (by omega) HX.out).mono ?_; rw [HGet.out.1, HGet.out.2]; rintro e V2 ⟨rfl, hb2⟩; have hcur := hcur.later HC.out hb2; obtain ⟨g0, g1⟩ := ((X2.new V1 fa fl).later hb2).z)
          | (go_at_call 22; refine (has_any _ _ _ _ fa0 fa1 x0 x1 HHas.out).mono ?_; rintro e V3 ⟨rfl, hb3⟩; have hcur := hcur.later HC.out hb3; have hb2 := stp hb2 hb3)
          | (go_at_call 20; refine (HC.out.all hcur.t (by omega)).mono ?_; rintro e V4 ⟨a4, n4, c4, rfl, own4, hb4⟩; have hcur := hcur.later HC.out hb4))
      case' false =>
        go_wp2_with (first
          | (go_at_call 17; refine (HC.out.find x hcur.t (by omega) x0 x1).mono ?_; rw [HF.out.1, HF.out.2.1, HF.out.2.2.1, HF.out.2.2.2]; rintro e V1 ⟨rfl, hb1⟩; have hcur := (hcur.later HC.out hb1).later HC.out (below1 _ (objX fa fl)))
          | (go_at_call 15; refine (HC.out.get fa fl hcur.t (by omega) HX.out).mono ?_; rw [HGet.out.1, HGet.out.2]; rintro e V2 ⟨rfl, hb2⟩; have hcur := hcur.later HC.out hb2; obtain ⟨g0, g1⟩ := ((X2.new V1 fa fl).later hb2).z)
          | (go_at_call 20; refine (HC.out.all hcur.t (by omega)).mono ?_; rintro e V4 ⟨a4, n4, c4, rfl, own4, hb4⟩; have hcur := hcur.later HC.out hb4))
      all_goals
        have HXV : Hid (X2 V4 V1.heap.size 0 ⟨fa, fl⟩) := ((X2.new V1 fa fl).later hb2).later hb4
        have HRow : Hid (RowX V4 a4 n4 (L.map keyX)) := own4.row (keys_ok HG.out)
        have hn4 : n4 = L.length := by rw [← own4.len, List.length_map]
        have HN4 : Hid (n4 = L.length) := hn4
        have hn4' : n4 ≤ 200 := by have := HLen.out; omega
        have HBV : Hid (Below w.heap.size w V4) := hcur.b
        clear own4 hb4 hb2 hcur HB g0 g1 hn4 hb1
        go_loopw [16] (fun i_ W => ∃ (e : Nat), e ≤ n4 ∧ i_ = .int .i64 e ∧ Below V4.heap.size V4 W) (fun i_ _ => n4 - (intOf i_).toNat)
        case atStart => exact ⟨0, Nat.zero_le _, rfl, Below.refl _ _⟩
        case round =>
          obtain ⟨e, he, rfl, hBV⟩ := hrel
          obtain ⟨g0, g1⟩ := (HXV.out.later hBV).z
          by_cases hle : e < n4
          · have hle' : (e : Int) < (n4 : Int) := by omega
            have heL : e < L.length := by rw [← HN4.out]; exact hle
            obtain ⟨⟨xa, xl⟩, b, off, hx, hok, rfl, q2⟩ := (HRow.out.later hBV).at hle
            have hxL : L[e]? = some L[e] := List.getElem?_eq_getElem heL
            rw [List.getElem?_map, hxL] at hx
            simp only [Option.map_some, Option.some.injEq, keyX, Px.mk.injEq] at hx
            have xa0 : 0 ≤ xa := hok.a0
            have xa1 : xa < 4294967296 := hok.a1
            obtain ⟨d0, d1⟩ := q2
            simp only at d0 d1
            obtain ⟨u, hu⟩ : ∃ u, hasB xa xl x = u := ⟨_, rfl⟩
            have HU : Hid (hasB xa xl x = u) := hu
            have k0 := cell_regrown d0
            have k1 := cell_regrown d1
            have m0 := cell_regrown g0
            have m1 := cell_regrown g1
            have HMe : Hid (u = true → _) := fun h => HMax.out L[e] (List.getElem_mem heL) (by rw [hx.1, hx.2, hu, h])
            have hxl : L[e].l = xl := hx.2
            rw [hxl] at HMe
            have HXA : Hid (L[e].a = xa ∧ L[e].l = xl) := hx
            clear hx hok hu hxl
            by_cases hpos : 0 < e
            · have hpos' : (0 : Int) < (e : Int) := by omega
              obtain ⟨e1, he1⟩ : ∃ k, e - 1 = k := ⟨_, rfl⟩
              have he1' : (e : Int) - 1 = (e1 : Int) := by omega
              have hle1 : (e1 : Int) < (n4 : Int) := by omega
              have hle0 : (0 : Int) ≤ (e1 : Int) := by omega
              have hle1n : e1 < n4 := by omega
              obtain ⟨⟨ya, yl⟩, b', off', hy, hok', e', q2'⟩ := (HRow.out.later hBV).at hle1n
              simp only [Option.some.injEq, Addr.mk.injEq, and_true] at e'
              obtain ⟨rfl, rfl⟩ := e'
              have he1L : e1 < L.length := by omega
              rw [List.getElem?_map, List.getElem?_eq_getElem he1L] at hy
              simp only [Option.map_some, Option.some.injEq, keyX, Px.mk.injEq] at hy
              have HLs : Hid (lessB ya yl xa xl = true) := by
                unfold Hid
                have := srt_next HG.out.s (i := e1) (List.getElem?_eq_getElem he1L) (q := L[e]) (by rw [show e1 + 1 = e by omega]; exact hxL)
                rw [hy.1, hy.2, HXA.out.1, HXA.out.2] at this
                exact this
              obtain ⟨f0, f1⟩ := q2'
              simp only at f0 f1
              have l0 := cell_regrown f0
              have l1 := cell_regrown f1
              clear hy hok' he1 hxL
              cases u
              · go_wp2
                refine wp_region_quiet_below (by kernel_rfl) (by kernel_rfl) ?_
                repeat (go_big_quiet_step (first
                  | (go_at_call 22; exact Calls.regrown_of (has_any _ _ _ _ xa0 xa1 x0 x1 HU.out))
                                  | (go_at_call 23; exact Calls.regrown_of (less_any _ _ _ _ _ HLs.out))))
                refine wpQuiet_nil ?_
                intro _ hw'
                obtain ⟨⟨dq, osq⟩, hw''⟩ := hw'
                subst hw''
                go_wp2
                go_roundw
                case rel => exact ⟨e + 1, by omega, by go_num, stp hBV (below_regrown _ dq osq)⟩
                case measure => simp [intOf]; omega
              · first
                  | (have hcon := (HMe.out rfl).1; cases hcon; done)
                  | (have hmx : decide (fl < xl) = false := decide_eq_false (by have := (HMe.out rfl).2; omega)
                     go_wp2
                     refine wp_region_quiet_below (by kernel_rfl) (by kernel_rfl) ?_
                     repeat (go_big_quiet_step (first
                       | (go_at_call 22; exact Calls.regrown_of (has_any _ _ _ _ xa0 xa1 x0 x1 HU.out))
                                            | (go_at_call 23; exact Calls.regrown_of (less_any _ _ _ _ _ HLs.out))))
                     refine wpQuiet_nil ?_
                     intro _ hw'
                     obtain ⟨⟨dq, osq⟩, hw''⟩ := hw'
                     subst hw''
                     go_wp2
                     go_roundw
                     case rel => exact ⟨e + 1, by omega, by go_num, stp hBV (below_regrown _ dq osq)⟩
                     case measure => simp [intOf]; omega)
            · have hpos' : ¬ (0 : Int) < (e : Int) := by omega
              clear hxL
              cases u
              · go_wp2
                refine wp_region_quiet_below (by kernel_rfl) (by kernel_rfl) ?_
                repeat (go_big_quiet_step (first
                  | (go_at_call 22; exact Calls.regrown_of (has_any _ _ _ _ xa0 xa1 x0 x1 HU.out))))
                refine wpQuiet_nil ?_
                intro _ hw'
                obtain ⟨⟨dq, osq⟩, hw''⟩ := hw'
                subst hw''
                go_wp2
                go_roundw
                case rel => exact ⟨e + 1, by omega, by go_num, stp hBV (below_regrown _ dq osq)⟩
                case measure => simp [intOf]; omega
              · first
                  | (have hcon := (HMe.out rfl).1; cases hcon; done)
                  | (have hmx : decide (fl < xl) = false := decide_eq_false (by have := (HMe.out rfl).2; omega)
                     go_wp2
                     refine wp_region_quiet_below (by kernel_rfl) (by kernel_rfl) ?_
                     repeat (go_big_quiet_step (first
                       | (go_at_call 22; exact Calls.regrown_of (has_any _ _ _ _ xa0 xa1 x0 x1 HU.out))))
                     refine wpQuiet_nil ?_
                     intro _ hw'
                     obtain ⟨⟨dq, osq⟩, hw''⟩ := hw'
                     subst hw''
                     go_wp2
                     go_roundw
                     case rel => exact ⟨e + 1, by omega, by go_num, stp hBV (below_regrown _ dq osq)⟩
                     case measure => simp [intOf]; omega)
          · have hle' : ¬ (e : Int) < (n4 : Int) := by omega
            go_wp2
            go_ret
            exact ⟨rfl, stp HBV.out hBV⟩
end
end Go.Proofs.Ytifokdebocgaiaa
