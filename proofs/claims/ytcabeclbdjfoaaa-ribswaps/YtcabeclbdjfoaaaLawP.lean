/- The law RibSwaps over what is asked of the program's table. -/
import Derived.Test.YtcabeclbdjfoaaaLawS
import Derived.Test.YtcabeclbdjfoaaaRibI
namespace Go.Proofs.Ytcabeclbdjfoaaa
open Go.RowKit

def runR (xs : List Rt) : List Rt := xs.foldl (putR 64) []
theorem runR_snoc (xs : List Rt) (c : Rt) : runR (xs ++ [c]) = putR 64 (runR xs) c := by simp [runR]
theorem takeS_next {L : List Rt} {j : Nat} {c : Rt} (h : L[j]? = some c) : L.take (j + 1) = L.take j ++ [c] := by rw [List.take_add_one, h]; rfl
theorem dropS_next {L : List Rt} {j : Nat} {c : Rt} (h : L[j]? = some c) : (L.drop j).reverse = (L.drop (j + 1)).reverse ++ [c] := by
  have hj := (List.getElem?_eq_some_iff.1 h).1
  rw [List.drop_eq_getElem_cons hj, (List.getElem?_eq_some_iff.1 h).2, List.reverse_cons]
/-- No two of the first i have one key. -/
def Diff (L : List Rt) (i : Nat) : Prop := ∀ s t p q, s < t → t < i → L[s]? = some p → L[t]? = some q → p.k ≠ q.k
theorem diff_all {L : List Rt} (h : Diff L L.length) : L.Pairwise fun x y => x.k ≠ y.k := by
  rw [List.pairwise_iff_getElem]
  intro i j hi hj hij
  exact h i j _ _ hij hj (List.getElem?_eq_getElem hi) (List.getElem?_eq_getElem hj)
theorem diff_next {L : List Rt} {i : Nat} {q : Rt} (h : Diff L i) (hq : L[i]? = some q) (hk : ∀ s p, s < i → L[s]? = some p → p.k ≠ q.k) : Diff L (i + 1) := by
  intro s t p r hst ht hp hr
  by_cases e : t = i
  · subst e
    rw [hq] at hr
    simp only [Option.some.injEq] at hr
    subst hr
    exact hk s p hst hp
  · exact h s t p r hst (by omega) hp hr
section
variable {RB : World → (Nat → Prop) → Addr → Int → List Rt → Int → Nat → Prop}
/-- Two tables of the program's that share no block. -/
structure Twin9 (RB : World → (Nat → Prop) → Addr → Int → List Rt → Int → Nat → Prop) (w : World) (p : Addr) (L : List Rt) (full : Int) (m : Nat) (B : Nat → Prop) (p' : Addr) (L' : List Rt) (full' : Int) (m' : Nat) (B' : Nat → Prop) (W : World) : Prop where
  s : RB W B p 64 L full m
  t : RB W B' p' 64 L' full' m'
  d : ∀ k, B k → w.heap.size ≤ k ∧ ¬ B' k
  e : ∀ k, B' k → w.heap.size ≤ k
  b : Below w.heap.size w W
variable {w : World} {p p' : Addr} {L L' L2 : List Rt} {full full' full2 : Int} {m m' m2 : Nat} {B B' : Nat → Prop} {W W1 : World} {x : Int} {e : Ending}
theorem Twin9.later (C : RibC RB) (h : Twin9 RB w p L full m B p' L' full' m' B' W) (hb : Below W.heap.size W W1) : Twin9 RB w p L full m B p' L' full' m' B' W1 :=
  ⟨C.later h.s hb, C.later h.t hb, h.d, h.e, stp h.b hb⟩
theorem Twin9.stepS (C : RibC RB) (h : Twin9 RB w p L full m B p' L' full' m' B' W) (hd : DoneC RB W B p 64 L2 full2 m2 x e W1) : e = .returned (.int .i64 x) ∧ ∃ B2, Twin9 RB w p L2 full2 m2 B2 p' L' full' m' B' W1 := by
  obtain ⟨B2, rfl, h1, h2, h3⟩ := hd
  refine ⟨rfl, B2, h1, C.keep h.t h3 (fun k hk hb => (h.d k hb).2 hk), fun k hk => ?_, h.e, h.b.trans (h3.below (fun i _ hi => (h.d i hi).1) h.b.size)⟩
  rcases h2 k hk with hk | hk
  · exact h.d k hk
  · exact ⟨Nat.le_trans h.b.size hk, fun hf => by have := C.lt h.t k hf; omega⟩
theorem Twin9.stepT (C : RibC RB) (h : Twin9 RB w p L full m B p' L' full' m' B' W) (hd : DoneC RB W B' p' 64 L2 full2 m2 x e W1) : e = .returned (.int .i64 x) ∧ ∃ B2, Twin9 RB w p L full m B p' L2 full2 m2 B2 W1 := by
  obtain ⟨B2, rfl, h1, h2, h3⟩ := hd
  refine ⟨rfl, B2, C.keep h.s h3 (fun k hk hb => (h.d k hk).2 hb), h1, fun k hk => ⟨(h.d k hk).1, fun hf => ?_⟩, fun k hk => ?_, h.b.trans (h3.below (fun i _ hi => h.e i hi) h.b.size)⟩
  · rcases h2 k hf with hf | hf
    · exact (h.d k hk).2 hf
    · have := C.lt h.s k hk; omega
  · rcases h2 k hk with hk | hk
    · exact h.e k hk
    · exact Nat.le_trans h.b.size hk
theorem Twin9.new (C : RibC RB) (h : RB W B p 64 [] 0 0) (hB : ∀ k, B k → w.heap.size ≤ k) (hb : Below w.heap.size w W) (h' : RB W1 B' p' 64 [] 0 0) (hB' : ∀ k, B' k → W.heap.size ≤ k) (hb' : Below W.heap.size W W1) : Twin9 RB w p [] 0 0 B p' [] 0 0 B' W1 :=
  ⟨C.later h hb', h', fun k hk => ⟨hB k hk, fun hf => by have h1 := hB' k hf; have h2 := C.lt h k hk; omega⟩, fun k hk => Nat.le_trans hb.size (hB' k hk), stp hb hb'⟩
end
section
variable {RB : World → (Nat → Prop) → Addr → Int → List Rt → Int → Nat → Prop}
set_option maxRecDepth 100000 in
set_option maxHeartbeats 8000000 in
theorem law_swaps (C : RibC RB) (ad : Option Addr) (n cap : Nat) (L : List Rt) (a l cx : Int) (w : World) (hr : RowR w ad n L) (hP : 0 ≤ a ∧ a < 4294967296 ∧ -9223372036854775808 ≤ l ∧ l ≤ 9223372036854775807) (cx0 : 0 ≤ cx) (cx1 : cx < 4294967296) :
    Calls Try.prog 6 #[.slice ad n cap, valP a l, .int .u32 cx] w fun e w' => e = .returned (.bool true) ∧ Below w.heap.size w w' := by
  have HC : Hid (RibC RB) := C
  have HM : Hid ((min (64 : Int) 64) = 64) := by unfold Hid; decide
  have HPx : Hid (0 ≤ a ∧ a < 4294967296 ∧ -9223372036854775808 ≤ l ∧ l ≤ 9223372036854775807) := hP
  have HL : Hid (L.length = n) := hr.1
  have HRt : Hid (Rts L) := hr.2.1
  obtain ⟨W0, hW0⟩ : ∃ W0, w.alloc (objP a l) = W0 := ⟨_, rfl⟩
  have HR : Hid (RowR W0 ad n L) := by unfold Hid; rw [← hW0]; exact hr.later (below1 _ _)
  have H0 : Hid (Below w.heap.size w W0) := by unfold Hid; rw [← hW0]; exact below1 _ _
  have hbx := new2 w (.int .u32 a) (.int .i64 l) 24
  rw [show w.alloc (.cells #[.int .u32 a, .int .i64 l] 24) = W0 from hW0] at hbx
  obtain ⟨y0, y1, hy⟩ := hbx
  clear C hr hP
  by_cases hn : n ≤ 60
  case neg =>
    have hn' : (60 : Int) < (n : Int) := by omega
    go_enter Try.func6, Try.ntmps6
    go_wp2_with (first
      | (go_at_call 11; (try rw [hW0]); refine (awake_any HC.out _).mono ?_; rintro e W1 ⟨rfl, hb1⟩; have hcur := stp H0.out hb1)
      | (go_at_call 15; refine (HC.out.new 64 _ (by decide) (by decide)).mono ?_; rintro e W2 ⟨p, B, rfl, T2, hB2, hb2⟩; have hcur := stp hcur hb2; have he : ∀ W : World, (binOp .eql 32 (.pointer (some p)) (.pointer none)).run Try.prog W = .ok (.bool false) W := run_nilP _; have he' : ∀ W : World, (binOp .neq 32 (.pointer (some p)) (.pointer none)).run Try.prog W = .ok (.bool true) W := run_nilN _))
    go_ret
    exact ⟨rfl, hcur⟩
  have hn' : ¬ (60 : Int) < (n : Int) := by omega
  go_enter Try.func6, Try.ntmps6
  go_wp2_with (first
    | (go_at_call 11; (try rw [hW0]); refine (awake_any HC.out _).mono ?_; rintro e W1 ⟨rfl, hb1⟩)
    | (go_at_call 15; have hb1' := hb1; clear hb1; refine (HC.out.new 64 _ (by decide) (by decide)).mono ?_; rw [HM.out]; rintro e W2 ⟨p, B, rfl, T2, hB2, hb2⟩; have he : ∀ W : World, (binOp .eql 32 (.pointer (some p)) (.pointer none)).run Try.prog W = .ok (.bool false) W := run_nilP _)
    | (go_at_call 15; refine (HC.out.new 64 _ (by decide) (by decide)).mono ?_; rw [HM.out]; rintro e W3 ⟨p', B', rfl, T3, hB3, hb3⟩; have he' : ∀ W : World, (binOp .eql 32 (.pointer (some p')) (.pointer none)).run Try.prog W = .ok (.bool false) W := run_nilP _))
  have HT0 : Hid (Twin9 RB W0 p [] 0 0 B p' [] 0 0 B' W3) := Twin9.new (w := W0) HC.out T2 (fun k hk => Nat.le_trans hb1'.size (hB2 k hk)) (stp hb1' hb2) T3 hB3 hb3
  clear T2 T3 hB2 hB3 hb1' hb2 hb3 he he'
  have HRV : Hid (∀ W, Below W0.heap.size W0 W → RowR W ad n L) := fun W hb => HR.out.later hb
  go_loopw [10] (fun i_ W => ∃ (i : Nat), i ≤ n ∧ i_ = .int .i64 i ∧ Hid (Diff L i) ∧ Hid (Below W3.heap.size W3 W)) (fun i_ _ => n - (intOf i_).toNat)
  case atStart => exact ⟨0, Nat.zero_le _, rfl, fun s t p q _ ht _ _ => absurd ht (Nat.not_lt_zero _), Below.refl _ _⟩
  case round =>
    obtain ⟨i, hi, rfl, HD, HB⟩ := hrel
    by_cases hlt : i < n
    · have hlt' : (i : Int) < (n : Int) := by omega
      obtain ⟨⟨xa, xl, xd, xs, xm, xn, xt⟩, b, off, hx, -, rfl, -⟩ := HR.out.at hlt
      have HX : Hid (L[i]? = some ⟨xa, xl, xd, xs, xm, xn, xt⟩) := hx
      clear hx
      have hwr : Below W3.heap.size W3 wr := HB.out
      go_wp2
      go_loopw [11] (fun k_ W => ∃ (k : Nat), k ≤ i ∧ k_ = .int .i64 k ∧ Hid (∀ s p, s < k → L[s]? = some p → p.k ≠ ⟨xa, xl, xd⟩) ∧ Hid (Below W3.heap.size W3 W)) (fun k_ _ => i - (intOf k_).toNat)
      case atStart => exact ⟨0, Nat.zero_le _, rfl, fun s p hs _ => absurd hs (Nat.not_lt_zero _), hwr⟩
      case round =>
        clear hwr
        obtain ⟨k, hk, rfl, HS, HB2⟩ := hrel
        have hBw : Below W0.heap.size W0 wr := stp HT0.out.b HB2.out
        by_cases hlk : k < i
        · have hlk' : (k : Int) < (i : Int) := by omega
          have hkn : k < n := by omega
          have hkn' : (k : Int) < (n : Int) := by omega
          obtain ⟨x', b', off', hx', -, ho', q1⟩ := (HRV.out wr hBw).at hlt
          simp only [Option.some.injEq, Addr.mk.injEq, and_true] at ho'
          obtain ⟨rfl, rfl⟩ := ho'
          rw [HX.out] at hx'
          simp only [Option.some.injEq] at hx'
          subst hx'
          obtain ⟨⟨ya, yl, yd, ys, ym, yn, yt⟩, b', off', hy', -, ho', q2⟩ := (HRV.out wr hBw).at hkn
          simp only [Option.some.injEq, Addr.mk.injEq, and_true] at ho'
          obtain ⟨rfl, rfl⟩ := ho'
          have HY : Hid (L[k]? = some ⟨ya, yl, yd, ys, ym, yn, yt⟩) := hy'
          clear hy'
          obtain ⟨d0, d1, d2, -⟩ := q1
          obtain ⟨f0, f1, f2, -⟩ := q2
          simp only at d0 d1 d2 f0 f1 f2
          obtain ⟨v1, hv1⟩ : ∃ v, (xa == ya && xl == yl) = v := ⟨_, rfl⟩
          have hp := run_eqP xa xl ya yl v1 hv1
          obtain ⟨v2, hv2⟩ : ∃ v, (xd == yd) = v := ⟨_, rfl⟩
          have HV : Hid ((v1 && v2) = false → (⟨ya, yl, yd, ys, ym, yn, yt⟩ : Rt).k ≠ ⟨xa, xl, xd⟩) := by
            intro hf he
            obtain ⟨rfl, rfl, rfl⟩ := Rt.k_iff.1 he
            rw [← hv1, ← hv2] at hf
            simp at hf
          clear hv1
          cases v1 <;> cases v2
          case' true.true =>
            go_wp2
            go_quiet (fail)
            go_wp2
            go_ret
            exact ⟨rfl, stp H0.out (below_drewN hBw _)⟩
          all_goals
            have HS' : Hid (∀ s p, s < k + 1 → L[s]? = some p → p.k ≠ ⟨xa, xl, xd⟩) := fun s p hs hp' => by
              by_cases e : s = k
              · subst e
                rw [HY.out] at hp'
                simp only [Option.some.injEq] at hp'
                subst hp'
                exact HV.out rfl
              · exact HS.out s p (by omega) hp'
            go_wp2
            go_quiet (fail)
            go_wp2
            go_roundw
            case rel => exact ⟨k + 1, by omega, by go_num, HS', below_drewN HB2.out _⟩
            case measure => simp [intOf]; omega
        · have hlk' : ¬ (k : Int) < (i : Int) := by omega
          obtain rfl : k = i := by omega
          have HD' : Hid (Diff L (k + 1)) := diff_next HD.out HX.out HS.out
          go_wp2
          go_roundw
          case rel => exact ⟨k + 1, by omega, by go_num, HD', HB2.out⟩
          case measure => simp [intOf]; omega
    · have hlt' : ¬ (i : Int) < (n : Int) := by omega
      obtain rfl : i = n := by omega
      have HSw : Hid (runR L = runR L.reverse) := puts_swap (most := 64) L (fun x hx => ⟨(HRt.out x hx).a0, (HRt.out x hx).a1, (HRt.out x hx).t0, (HRt.out x hx).t1⟩) (diff_all (by rw [HL.out]; exact HD.out)) (by rw [HL.out]; omega)
      have HT1 : Hid (Twin9 RB W0 p [] 0 0 B p' [] 0 0 B' wr) := HT0.out.later HC.out HB.out
      clear HD HB HT0
      go_wp2
      go_loopw [12] (fun i_ W => ∃ (j : Nat) (full full' : Int) (B B' : Nat → Prop), j ≤ i ∧ i_ = .int .i64 j ∧ Hid (Twin9 RB W0 p (runR (L.take j)) full j B p' (runR (L.drop (i - j)).reverse) full' j B' W)) (fun i_ _ => i - (intOf i_).toNat)
      case atStart => exact ⟨0, 0, 0, B, B', Nat.zero_le _, rfl, by unfold Hid; rw [Nat.sub_zero, List.drop_eq_nil_of_le (by rw [HL.out]; exact Nat.le_refl _)]; exact HT1.out⟩
      case round =>
        clear HT1
        obtain ⟨j, full, full', B, B', hj, rfl, HT⟩ := hrel
        by_cases hltj : j < i
        · have hlt' : (j : Int) < (i : Int) := by omega
          obtain ⟨r, hrr⟩ : ∃ r, i - 1 - j = r := ⟨_, rfl⟩
          have hr1 : (i : Int) - 1 - (j : Int) = (r : Int) := by omega
          have hr0 : (0 : Int) ≤ (r : Int) := by omega
          have hri : r < i := by omega
          have hri' : (r : Int) < (i : Int) := by omega
          obtain ⟨⟨xa, xl, xd, xs, xm, xn, xt⟩, b, off, hx, hxo, rfl, -⟩ := HR.out.at hltj
          obtain ⟨⟨ya, yl, yd, ys, ym, yn, yt⟩, b', off', hy', hyo, ho', -⟩ := HR.out.at hri
          simp only [Option.some.injEq, Addr.mk.injEq, and_true] at ho'
          obtain ⟨rfl, rfl⟩ := ho'
          have HXo : Hid (Rt.Ok ⟨xa, xl, xd, xs, xm, xn, xt⟩) := hxo
          have HYo : Hid (Rt.Ok ⟨ya, yl, yd, ys, ym, yn, yt⟩) := hyo
          have HN1 : Hid (putR 64 (runR (L.take j)) ⟨xa, xl, xd, xs, xm, xn, xt⟩ = runR (L.take (j + 1))) := by unfold Hid; rw [takeS_next hx, runR_snoc]
          have HN2 : Hid (putR 64 (runR (L.drop (i - j)).reverse) ⟨ya, yl, yd, ys, ym, yn, yt⟩ = runR (L.drop (i - (j + 1))).reverse) := by
            unfold Hid
            rw [show i - (j + 1) = r by omega, dropS_next hy', runR_snoc, show r + 1 = i - j by omega]
          have HQ1 : Hid (∀ W, Below W0.heap.size W0 W → R7 W b (off + j * 7) ⟨xa, xl, xd, xs, xm, xn, xt⟩) := fun W hb => by
            obtain ⟨z, b2, off2, hz, -, ho2, q⟩ := (HRV.out W hb).at hltj
            simp only [Option.some.injEq, Addr.mk.injEq, and_true] at ho2
            obtain ⟨rfl, rfl⟩ := ho2
            rw [hx] at hz
            simp only [Option.some.injEq] at hz
            subst hz
            exact q
          have HQ2 : Hid (∀ W, Below W0.heap.size W0 W → R7 W b (off + r * 7) ⟨ya, yl, yd, ys, ym, yn, yt⟩) := fun W hb => by
            obtain ⟨z, b2, off2, hz, -, ho2, q⟩ := (HRV.out W hb).at hri
            simp only [Option.some.injEq, Addr.mk.injEq, and_true] at ho2
            obtain ⟨rfl, rfl⟩ := ho2
            rw [hy'] at hz
            simp only [Option.some.injEq] at hz
            subst hz
            exact q
          obtain ⟨d0, d1, d2, d3, d4, d5, d6⟩ := HQ1.out wr HT.out.b
          simp only at d0 d1 d2 d3 d4 d5 d6
          have hj60 : j ≤ 60 := by omega
          have HMk : Hid (0 = 0) := rfl
          clear hx hxo hy' hyo hrr
          go_wp2_with (first
            | (go_at_call 17; have HMk' := HMk; clear HMk; refine (HC.out.put ⟨xa, xl, xd, xs, xm, xn, xt⟩ HT.out.s (by omega) HXo.out).mono ?_; rw [HN1.out]; intro e V1 hd; obtain ⟨rfl, B1, hT1⟩ := HT.out.stepS HC.out hd; obtain ⟨e0, e1, e2, e3, e4, e5, e6⟩ := HQ2.out V1 hT1.b; simp only at e0 e1 e2 e3 e4 e5 e6)
            | (go_at_call 17; refine (HC.out.put ⟨ya, yl, yd, ys, ym, yn, yt⟩ hT1.t (by omega) HYo.out).mono ?_; rw [HN2.out]; intro e V2 hd2; obtain ⟨rfl, B2, hT2⟩ := hT1.stepT HC.out hd2))
          go_roundw
          case rel => exact ⟨j + 1, _, _, B1, B2, by omega, by go_num, hT2⟩
          case measure => simp [intOf]; omega
        · have hlt' : ¬ (j : Int) < (i : Int) := by omega
          obtain rfl : j = i := by omega
          rw [show L.take j = L by rw [← HL.out]; exact List.take_length, Nat.sub_self, List.drop_zero, ← HSw.out] at HT
          obtain ⟨M, hM⟩ : ∃ M, runR L = M := ⟨_, rfl⟩
          rw [hM] at HT
          obtain ⟨hgd, hrts, hml, -⟩ := HC.out.good HT.out.s
          have HRM : Hid (Rts M) := hrts
          have hMl : M.length ≤ 60 := by omega
          obtain ⟨⟨ra, rl, rd, rs', rm, rn, rt⟩, hrr⟩ : ∃ r, (bestR a l M none).getD rt0 = r := ⟨_, rfl⟩
          obtain ⟨ok, hok⟩ : ∃ o, (bestR a l M none).isSome = o := ⟨_, rfl⟩
          have HA : Hid (ansR (bestR a l M none) = .tuple #[valR ra rl rd rs' rm rn rt, .bool ok]) := by unfold Hid ansR; rw [hrr, hok]; rfl
          obtain ⟨⟨fa, fl, fd, fs, fm, fn, ft⟩, hff⟩ : ∃ r, (findR cx M).getD rt0 = r := ⟨_, rfl⟩
          obtain ⟨fk, hfk⟩ : ∃ o, (findR cx M).isSome = o := ⟨_, rfl⟩
          have HF : Hid (ansR (findR cx M) = .tuple #[valR fa fl fd fs fm fn ft, .bool fk]) := by unfold Hid ansR; rw [hff, hfk]; rfl
          have hq1 := run_eqR ⟨ra, rl, rd, rs', rm, rn, rt⟩ ⟨ra, rl, rd, rs', rm, rn, rt⟩ true (by simp)
          have hq2 := run_eqR ⟨fa, fl, fd, fs, fm, fn, ft⟩ ⟨fa, fl, fd, fs, fm, fn, ft⟩ true (by simp)
          have hcur : Twin9 RB W0 p M full j B p' M full' j B' wr := HT.out
          have z0 := cell_later hcur.b y0
          have z1 := cell_later hcur.b y1
          have HY0 : Hid (W0.cell? ⟨w.heap.size, 0, none⟩ = some (.int .u32 a) ∧ W0.cell? ⟨w.heap.size, 1, none⟩ = some (.int .i64 l)) := ⟨y0, y1⟩
          have HMk1 : Hid (0 = 0) := rfl
          have HMk2 : Hid (0 = 0) := rfl
          have HMk3 : Hid (0 = 0) := rfl
          have hm2 : j ≤ 2000 := by omega
          clear HT hM hgd hrts hml hrr hok hff hfk y0 y1
          go_wp2_with (first
            | (go_at_call 23; have HMk' := HMk1; clear HMk1; refine (HC.out.best a l hcur.s hm2 HPx.out.1 HPx.out.2.1 HPx.out.2.2.1 HPx.out.2.2.2).mono ?_; rw [HA.out]; rintro e V1 ⟨rfl, hb1⟩; have hcur := (hcur.later HC.out hb1).later HC.out (below1 _ (objR ra rl rd rs' rm rn rt)); have z0 := cell_later hcur.b HY0.out.1; have z1 := cell_later hcur.b HY0.out.2)
            | (go_at_call 23; refine (HC.out.best a l hcur.t hm2 HPx.out.1 HPx.out.2.1 HPx.out.2.2.1 HPx.out.2.2.2).mono ?_; rw [HA.out]; rintro e V2 ⟨rfl, hb2⟩; have hcur := (hcur.later HC.out hb2).later HC.out (below1 _ (objR ra rl rd rs' rm rn rt)); have r1 := (R7.new V1 ra rl rd rs' rm rn rt).later hb2)
            | (go_at_call 25; have HMk' := HMk2; clear HMk2; refine (HC.out.find cx hcur.s hm2 cx0 cx1).mono ?_; rw [HF.out]; rintro e V3 ⟨rfl, hb3⟩; have hcur := (hcur.later HC.out hb3).later HC.out (below1 _ (objR fa fl fd fs fm fn ft)); have r1 := (r1.later (below1 _ _)).later hb3; have r2 := (R7.new V2 ra rl rd rs' rm rn rt).later hb3)
            | (go_at_call 25; refine (HC.out.find cx hcur.t hm2 cx0 cx1).mono ?_; rw [HF.out]; rintro e V4 ⟨rfl, hb4⟩; have hcur := (hcur.later HC.out hb4).later HC.out (below1 _ (objR fa fl fd fs fm fn ft)); have r1 := (r1.later (below1 _ _)).later hb4; have r2 := (r2.later (below1 _ _)).later hb4; have r3 := (R7.new V3 fa fl fd fs fm fn ft).later hb4)
            | (go_at_call 22; have HMk' := HMk3; clear HMk3; refine (HC.out.all hcur.s hm2).mono ?_; rintro e V5 ⟨a5, n5, c5, rfl, own5, hb5⟩; have hcur := hcur.later HC.out hb5; have r1 := (r1.later (below1 _ _)).later hb5; have r2 := (r2.later (below1 _ _)).later hb5; have r3 := (r3.later (below1 _ _)).later hb5; have r4 := (R7.new V4 fa fl fd fs fm fn ft).later hb5)
            | (go_at_call 22; refine (HC.out.all hcur.t hm2).mono ?_; rintro e V6 ⟨a6, n6, c6, rfl, own6, hb6⟩; have hcur := hcur.later HC.out hb6; have r1 := r1.later hb6; have r2 := r2.later hb6; have r3 := r3.later hb6; have r4 := r4.later hb6; obtain rfl : n5 = n6 := own5.len.symm.trans own6.len; have hn5 : n5 ≤ 60 := by rw [← own5.len]; exact hMl)
            | (go_at_call 21; refine (same_any a5 n5 c5 a6 c6 M _ ((own5.later hb6).row HRM.out) (own6.row HRM.out) (by omega)).mono ?_; rintro e V7 ⟨rfl, hb7⟩; have hcur := hcur.later HC.out hb7; obtain ⟨p0, p1, p2, p3, p4, p5, p6⟩ := (r1.later hb7).z; obtain ⟨q0, q1, q2, q3, q4, q5, q6⟩ := (r2.later hb7).z; obtain ⟨s0, s1, s2, s3, s4, s5, s6⟩ := (r3.later hb7).z; obtain ⟨t0, t1, t2, t3, t4, t5, t6⟩ := (r4.later hb7).z))
          go_ret
          exact ⟨rfl, stp H0.out hcur.b⟩
end
end Go.Proofs.Ytcabeclbdjfoaaa
