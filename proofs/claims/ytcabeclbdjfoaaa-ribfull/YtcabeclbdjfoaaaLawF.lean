/- The law RibFull over what is asked of the program's table. -/
import Derived.Test.YtcabeclbdjfoaaaLawG
namespace Go.Proofs.Ytcabeclbdjfoaaa
open Go.RowKit

section
variable {RB : World → (Nat → Prop) → Addr → Int → List Rt → Int → Nat → Prop}
variable {w : World} {p : Addr} {most : Int} {L L2 : List Rt} {full full2 : Int} {m m2 : Nat} {B : Nat → Prop} {xs : List (Nat × Rt)} {W W1 W2 : World} {x : Int} {e : Ending}
theorem Gone9.frozen (h : Gone9 RB w p most L full m B xs W) {N : Nat} {y : Rt} (hm : (N, y) ∈ xs) (hf : ∀ o, W.frozen? ⟨N, o, none⟩ = false) (hd : DoneC RB W B p most L2 full2 m2 x e W1) : ∀ o, W1.frozen? ⟨N, o, none⟩ = false := by
  obtain ⟨B1, -, -, -, h3⟩ := hd
  exact fun o => (h3.frozen (p := ⟨N, o, none⟩) (h.o _ hm).2.1 (h.o _ hm).2.2).trans (hf o)
theorem R7.set2 {W : World} {b : Nat} {a l d s m n t : Int} (h : R7 W b 0 ⟨a, l, d, s, m, n, t⟩) (d' : Int) : R7 (W.setCell ⟨b, 2, none⟩ (.int .i64 d')) b 0 ⟨a, l, d', s, m, n, t⟩ := by
  obtain ⟨h0, h1, h2, h3, h4, h5, h6⟩ := h.z
  refine ⟨?_, ?_, ?_, ?_, ?_, ?_, ?_⟩
  · exact (World.cell?_setCell_other _ _ _ _ (by simp)).trans h0
  · exact (World.cell?_setCell_other _ _ _ _ (by simp)).trans h1
  · exact World.cell?_setCell_same _ _ _ h2
  · exact (World.cell?_setCell_other _ _ _ _ (by simp)).trans h3
  · exact (World.cell?_setCell_other _ _ _ _ (by simp)).trans h4
  · exact (World.cell?_setCell_other _ _ _ _ (by simp)).trans h5
  · exact (World.cell?_setCell_other _ _ _ _ (by simp)).trans h6
theorem Gone9.setD (C : RibC RB) {y : Rt} {a l d s m n t : Int} (h : Gone9 RB w p most L full m2 B [(w.heap.size, y), (w.heap.size + 1, ⟨a, l, d, s, m, n, t⟩)] W) (d' : Int) :
    Gone9 RB w p most L full m2 B [(w.heap.size, y), (w.heap.size + 1, ⟨a, l, d', s, m, n, t⟩)] (W.setCell ⟨w.heap.size + 1, 2, none⟩ (.int .i64 d')) := by
  obtain ⟨g1, g2, g3⟩ := h.o (w.heap.size, y) (by simp)
  obtain ⟨f1, f2, f3⟩ := h.o (w.heap.size + 1, ⟨a, l, d, s, m, n, t⟩) (by simp)
  refine ⟨C.keep (C := fun k => k = w.heap.size + 1) h.t ((Keep.refl (fun k => k = w.heap.size + 1) _).setCell (p := ⟨w.heap.size + 1, 2, none⟩) rfl _) (fun k hk e => f3 (e ▸ hk)), fun q hq => ?_, h.d, h.b.setCell (p := ⟨w.heap.size + 1, 2, none⟩) (Nat.le_succ _) _⟩
  rcases List.mem_cons.1 hq with rfl | hq
  · exact ⟨g1.far fun o => World.cell?_setCell_other _ _ _ _ (by simp), by simpa [World.setCell] using g2, g3⟩
  · rw [List.mem_singleton] at hq
    subst hq
    exact ⟨f1.set2 d', by simpa [World.setCell] using f2, f3⟩
theorem rowF_ok {j : Nat} (h : j < 64) : (rowF j).Ok := by
  constructor <;> simp only [rowF] <;> omega
set_option maxHeartbeats 4000000 in
theorem law_full (C : RibC RB) (most : Int) (x y : Rt) (w : World) (hm0 : -9223372036854775808 ≤ most) (hm1 : most ≤ 9223372036854775807) (hx : x.Ok) (hy : y.Ok) :
    Calls Try.prog 10 #[.int .i64 most, valRt x, valRt y] w fun e w' => e = .returned (.bool true) ∧ Below w.heap.size w w' := by
  have HC : Hid (RibC RB) := C
  have HX : Hid (x.Ok) := hx
  obtain ⟨a, l, d, s, m, n, t⟩ := x
  obtain ⟨a', l', d', s', m', n', t'⟩ := y
  have HY : Hid (Rt.Ok ⟨0, 8, 15, s', m', n', t'⟩) := ⟨by simp, by simp, by simp, by simp, by simp, by simp, hy.s0, hy.s1, hy.m0, hy.m1, hy.n0, hy.n1, hy.t0, hy.t1⟩
  have HG : Hid (∀ {W1 W2 : World} {p : Addr} {B : Nat → Prop} {K : Int}, Below ((w.alloc (objR a l d s m n t)).alloc (objR a' l' d' s' m' n' t')).heap.size ((w.alloc (objR a l d s m n t)).alloc (objR a' l' d' s' m' n' t')) W1 → RB W2 B p K [] 0 0 → (∀ k, B k → W1.heap.size ≤ k) → Below W1.heap.size W1 W2 →
    Gone9 RB w p K [] 0 0 B [(w.heap.size, ⟨a, l, d, s, m, n, t⟩), (w.heap.size + 1, ⟨a', l', d', s', m', n', t'⟩)] W2 ∧ ∀ o, W2.frozen? ⟨w.heap.size + 1, o, none⟩ = false) := fun h1 h2 h3 h4 => Gone9.new h1 h2 h3 h4
  have HM0 : Hid (-9223372036854775808 ≤ most ∧ most ≤ 9223372036854775807) := ⟨hm0, hm1⟩
  clear C hx hy hm0 hm1
  by_cases hr : 1 ≤ most ∧ most ≤ 64
  case neg =>
    by_cases h1 : most < 1
    case' neg => have h2 : (64 : Int) < most := by omega
    all_goals
      clear hr
      go_enter Try.func10, Try.ntmps10
      go_wp2_with (first
        | (go_at_call 11; refine (awake_any HC.out _).mono ?_; rintro e W1 ⟨rfl, hb1⟩)
        | (go_at_call 15; refine (HC.out.new most _ HM0.out.1 HM0.out.2).mono ?_; rintro e W2 ⟨p, B, rfl, T2, hB2, hb2⟩; have he : ∀ W : World, (binOp .eql 32 (.pointer (some p)) (.pointer none)).run Try.prog W = .ok (.bool false) W := run_nilP _; have he' : ∀ W : World, (binOp .neq 32 (.pointer (some p)) (.pointer none)).run Try.prog W = .ok (.bool true) W := run_nilN _; obtain ⟨hG, -⟩ := HG.out hb1 T2 hB2 hb2; clear hb1 T2 hB2 hb2))
      go_ret
      exact ⟨rfl, hG.b⟩
  obtain ⟨K, rfl⟩ : ∃ K : Nat, most = (K : Int) := ⟨most.toNat, by omega⟩
  have HKK : Hid (1 ≤ K ∧ K ≤ 64) := by unfold Hid; omega
  have HMK : Hid (min (K : Int) 64 = (K : Int)) := by unfold Hid; omega
  have h1 : ¬ (K : Int) < 1 := by omega
  have h2 : ¬ (64 : Int) < (K : Int) := by omega
  clear hr
  go_enter Try.func10, Try.ntmps10
  go_wp2_with (first
    | (go_at_call 11; refine (awake_any HC.out _).mono ?_; rintro e W1 ⟨rfl, hb1⟩)
    | (go_at_call 15; refine (HC.out.new K _ HM0.out.1 HM0.out.2).mono ?_; rw [HMK.out]; rintro e W2 ⟨p, B, rfl, T2, hB2, hb2⟩; have he : ∀ W : World, (binOp .eql 32 (.pointer (some p)) (.pointer none)).run Try.prog W = .ok (.bool false) W := run_nilP _; obtain ⟨hG, fy⟩ := HG.out hb1 T2 hB2 hb2; clear hb1 T2 hB2 hb2))
  have HF0 : Hid (Gone9 RB w p K [] 0 0 B [(w.heap.size, ⟨a, l, d, s, m, n, t⟩), (w.heap.size + 1, ⟨a', l', d', s', m', n', t'⟩)] W2 ∧ Keys [] 0 ∧ ∀ o, W2.frozen? ⟨w.heap.size + 1, o, none⟩ = false) := ⟨hG, keys_nil, fy⟩
  clear hG fy he
  go_loopw [9] (fun i_ W => ∃ (j : Nat) (L : List Rt) (B : Nat → Prop), j ≤ K ∧ i_ = .int .i64 j ∧ Hid (Gone9 RB w p K L 0 j B [(w.heap.size, ⟨a, l, d, s, m, n, t⟩), (w.heap.size + 1, ⟨a', l', d', s', m', n', t'⟩)] W ∧ Keys L j ∧ ∀ o, W.frozen? ⟨w.heap.size + 1, o, none⟩ = false)) (fun i_ _ => K - (intOf i_).toNat)
  case atStart => exact ⟨0, [], B, Nat.zero_le _, rfl, HF0⟩
  case round =>
    clear HF0
    obtain ⟨j, L, B, hj, rfl, HB⟩ := hrel
    by_cases hlt : j < K
    · have hlt' : (j : Int) < (K : Int) := by omega
      have hj64 : j < 64 := by have := HKK.out; omega
      have hjk : j < 1001 := by omega
      have HN : Hid (_) := keys_new HB.out.2.1 hj64 hlt'
      have HP : Hid (∀ W1 e, DoneC RB wr B p K (putR K L (rowF j)) (fullR K L (rowF j) 0) (j + 1) (putRX K L (rowF j)) e W1 → e = .returned (.int .i64 0) ∧ ∃ L1 B1, Gone9 RB w p K L1 0 (j + 1) B1 [(w.heap.size, ⟨a, l, d, s, m, n, t⟩), (w.heap.size + 1, ⟨a', l', d', s', m', n', t'⟩)] W1 ∧ Keys L1 (j + 1) ∧ ∀ o, W1.frozen? ⟨w.heap.size + 1, o, none⟩ = false) := by
        intro W1 e hd
        have hfz := HB.out.1.frozen (N := w.heap.size + 1) (y := ⟨a', l', d', s', m', n', t'⟩) (by simp) HB.out.2.2 hd
        rw [HN.out.2.1, HN.out.2.2] at hd
        obtain ⟨he, B1, h1⟩ := HB.out.1.step hd
        exact ⟨he, _, B1, h1, HN.out.1, hfz⟩
      have hshl : ((j : Int) * 16777216) % 4294967296 = (j : Int) * 16777216 := by omega
      have hcv : (j : Int) % 4294967296 = (j : Int) := by omega
      have HPut : Hid (Calls Try.prog 17 #[.pointer (some p), valR ((j : Int) * 16777216) 8 15 0 0 0 0] wr fun e W1 => e = .returned (.int .i64 0) ∧ ∃ L1 B1, Gone9 RB w p K L1 0 (j + 1) B1 [(w.heap.size, ⟨a, l, d, s, m, n, t⟩), (w.heap.size + 1, ⟨a', l', d', s', m', n', t'⟩)] W1 ∧ Keys L1 (j + 1) ∧ ∀ o, W1.frozen? ⟨w.heap.size + 1, o, none⟩ = false) :=
        (HC.out.put (rowF j) HB.out.1.t (by omega) (rowF_ok hj64)).mono fun e W1 hd => HP.out W1 e hd
      clear HN HP
      go_wp2_with (go_at_call 17; refine HPut.out.mono ?_; rintro e W3 ⟨rfl, L3, B3, h3⟩; have HB3 : Hid (_) := h3; clear h3)
      go_roundw
      case rel => exact ⟨j + 1, L3, B3, by omega, by go_num, HB3⟩
      case measure => simp [intOf]; omega
    · have hlt' : ¬ (j : Int) < (K : Int) := by omega
      obtain rfl : j = K := by omega
      obtain ⟨hG, hK, fy⟩ := HB.out
      have H1 := (hG.setY HC.out 0 8).setD HC.out 15
      have hk1 := keys_old (x := ⟨0, 8, 15, s', m', n', t'⟩) hK (by simp) (by simp) HY.out.t0 HY.out.t1 (j := 0) (by have := HKK.out; omega) (by simp [rowF, Rt.k]) (j : Int)
      obtain ⟨L3, hL3⟩ : ∃ L3, putR (j : Int) L ⟨0, 8, 15, s', m', n', t'⟩ = L3 := ⟨_, rfl⟩
      obtain ⟨e1, he1⟩ : ∃ e1, putRX (j : Int) L ⟨0, 8, 15, s', m', n', t'⟩ = e1 := ⟨_, rfl⟩
      rw [hL3, he1] at hk1
      have HP1 : Hid (putR (j : Int) L ⟨0, 8, 15, s', m', n', t'⟩ = L3 ∧ putRX (j : Int) L ⟨0, 8, 15, s', m', n', t'⟩ = e1 ∧ fullR (j : Int) L ⟨0, 8, 15, s', m', n', t'⟩ 0 = 0) := ⟨hL3, he1, hk1.2.2 0⟩
      obtain ⟨L4, hL4⟩ : ∃ L4, putR (j : Int) L3 ⟨a, l, d, s, m, n, t⟩ = L4 := ⟨_, rfl⟩
      obtain ⟨e2, he2⟩ : ∃ e2, putRX (j : Int) L3 ⟨a, l, d, s, m, n, t⟩ = e2 := ⟨_, rfl⟩
      obtain ⟨f2, hf2⟩ : ∃ f2, fullR (j : Int) L3 ⟨a, l, d, s, m, n, t⟩ 0 = f2 := ⟨_, rfl⟩
      have HP2 : Hid (putR (j : Int) L3 ⟨a, l, d, s, m, n, t⟩ = L4 ∧ putRX (j : Int) L3 ⟨a, l, d, s, m, n, t⟩ = e2 ∧ fullR (j : Int) L3 ⟨a, l, d, s, m, n, t⟩ 0 = f2) := ⟨hL4, he2, hf2⟩
      obtain ⟨q, hq⟩ : ∃ q, a / 16777216 = q := ⟨_, rfl⟩
      obtain ⟨r, hr⟩ : ∃ r, a % 16777216 = r := ⟨_, rfl⟩
      have ha0 := HX.out.a0
      have ha1 := HX.out.a1
      simp only at ha0 ha1
      have hq0 : 0 ≤ q ∧ q < 256 := by omega
      have hcases : ((d == 15) = false ∨ d = 15 ∧ (l == 8) = false ∨ d = 15 ∧ l = 8 ∧ (r == 0) = false ∨ d = 15 ∧ l = 8 ∧ r = 0 ∧ ¬ q < (j : Int)) ∧ (e2 = 4 ∧ f2 = 1 ∧ (e1 = 0 ∨ e1 = 1) ∨ e2 = 1 ∧ f2 = 0) ∧ L4.length = j ∨ (d = 15 ∧ l = 8 ∧ r = 0 ∧ q < (j : Int)) ∧ (e2 = 0 ∨ e2 = 1) ∧ f2 = 0 ∧ L4.length = j := by
        by_cases hkn : ∃ i, i < j ∧ Rt.k ⟨a, l, d, s, m, n, t⟩ = (rowF i).k
        · right
          obtain ⟨i, hi, hxk⟩ := hkn
          have hk2 := keys_old (x := ⟨a, l, d, s, m, n, t⟩) hk1.1 HX.out.a0 HX.out.a1 HX.out.t0 HX.out.t1 hi hxk (j : Int)
          rw [hL4, he2] at hk2
          obtain ⟨h1, h2, i', hi', h3⟩ := known_iff.1 ⟨i, hi, hxk⟩
          simp only at h1 h2 h3
          exact ⟨⟨h1, h2, by omega, by omega⟩, hk2.2.1, by rw [← hf2]; exact hk2.2.2 0, hk2.1.l⟩
        · left
          have hk2 := keys_full (x := ⟨a, l, d, s, m, n, t⟩) hk1.1 (fun i hi e => hkn ⟨i, hi, e⟩)
          rw [hL4, he2] at hk2
          refine ⟨?_, ?_, by rw [hk2.1]; exact hk1.1.l⟩
          · by_cases c1 : d = 15
            · by_cases c2 : l = 8
              · by_cases c3 : r = 0
                · refine .inr (.inr (.inr ⟨c1, c2, c3, fun c4 => hkn (known_iff.2 ⟨c1, c2, q.toNat, by omega, ?_⟩)⟩))
                  simp only
                  omega
                · exact .inr (.inr (.inl ⟨c1, c2, by simpa using c3⟩))
              · exact .inr (.inl ⟨c1, by simpa using c2⟩)
            · exact .inl (by simpa using c1)
          · cases hm : mayR ⟨a, l, d, s, m, n, t⟩
            · have := hk2.2.2 hm
              exact .inr ⟨this.1, by rw [← hf2]; exact this.2 0⟩
            · have := hk2.2.1 hm
              exact .inl ⟨this.1, by rw [← hf2]; exact this.2 0, hk1.2.1⟩
      have hmod : a.tmod 16777216 = r := by rw [Int.tmod_eq_emod_of_nonneg ha0]; exact hr
      have hdiv : a.tdiv 16777216 = q := by rw [Int.tdiv_eq_ediv_of_nonneg ha0]; exact hq
      have H1' : Hid (_) := H1
      obtain ⟨x0, x1, x2, x3, x4, x5, x6⟩ := (hG.o _ (List.Mem.head _)).1.z; obtain ⟨y0, y1, y2, y3, y4, y5, y6⟩ := (hG.o _ (List.Mem.tail _ (List.Mem.head _))).1.z
      have HMk : Hid True := trivial
      clear hk1 hL3 he1 hL4 he2 hf2 hG H1 hK HB HG ha0 ha1 h1 h2 hj hlt
      rcases hcases with ⟨h | ⟨rfl, h⟩ | ⟨rfl, rfl, h⟩ | ⟨rfl, rfl, rfl, h⟩, ⟨rfl, rfl, rfl | rfl⟩ | ⟨rfl, rfl⟩, hl4⟩ | ⟨⟨rfl, rfl, rfl, h⟩, rfl | rfl, rfl, hl4⟩
      all_goals
        go_wp2_with (first
          | (go_at_call 17; have HMk' := HMk; clear HMk HMk'; refine (HC.out.put ⟨0, 8, 15, s', m', n', t'⟩ H1'.out.t (by have := HKK.out; omega) HY.out).mono ?_; intro e W3 hd; rw [HP1.out.1, HP1.out.2.1, HP1.out.2.2] at hd; obtain ⟨rfl, B3, H3⟩ := H1'.out.step hd; clear hd; obtain ⟨x0, x1, x2, x3, x4, x5, x6⟩ := (H3.o _ (List.Mem.head _)).1.z; obtain ⟨y0, y1, y2, y3, y4, y5, y6⟩ := (H3.o _ (List.Mem.tail _ (List.Mem.head _))).1.z)
          | (go_at_call 17; refine (HC.out.put _ H3.t (by have := HKK.out; omega) HX.out).mono ?_; intro e W4 hd; rw [HP2.out.1, HP2.out.2.1, HP2.out.2.2] at hd; obtain ⟨rfl, B4, H4⟩ := H3.step hd; clear hd; obtain ⟨x0, x1, x2, x3, x4, x5, x6⟩ := (H4.o _ (List.Mem.head _)).1.z; obtain ⟨y0, y1, y2, y3, y4, y5, y6⟩ := (H4.o _ (List.Mem.tail _ (List.Mem.head _))).1.z)
          | (go_at_call 27; refine (HC.out.refused H4.t (by have := HKK.out; omega)).mono ?_; rintro e W5 ⟨rfl, hb5⟩; have H5 := H4.later HC.out hb5; clear hb5; obtain ⟨x0, x1, x2, x3, x4, x5, x6⟩ := (H5.o _ (List.Mem.head _)).1.z; obtain ⟨y0, y1, y2, y3, y4, y5, y6⟩ := (H5.o _ (List.Mem.tail _ (List.Mem.head _))).1.z)
          | (go_at_call 22; refine (HC.out.all H5.t (by have := HKK.out; omega)).mono ?_; rintro e W6 ⟨aZ, nZ, cZ, rfl, ownZ, hb6⟩; obtain rfl : nZ = j := ownZ.len.symm.trans hl4))
        refine bodyPost_ret (v := .bool true) (by simp [results, Try.results10, go_sem]) rfl ?_
        exact ⟨rfl, stp H5.b hb6⟩
end
end Go.Proofs.Ytcabeclbdjfoaaa
