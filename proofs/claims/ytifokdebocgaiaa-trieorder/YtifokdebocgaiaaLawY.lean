/- The law TrieOrder, walked, over what is asked of the program's trie. -/
import Derived.Test.YtifokdebocgaiaaLawV
namespace Go.Proofs.Ytifokdebocgaiaa
open Go.RowKit

/-- All prefixes of some calls are put, each with its length. -/
def runP (xs : List Cl) (L : List Pr) : List Pr := xs.foldl (fun L c => putL 1000 L c.a c.l c.l) L
theorem runP_snoc (xs : List Cl) (c : Cl) (L : List Pr) : runP (xs ++ [c]) L = putL 1000 (runP xs L) c.a c.l c.l := by simp [runP]
theorem put_mem_len {L : List Pr} (hg : GoodP L) (hs : ∀ p ∈ L, p.n = p.l) (hL : L.length < 1000) (a l : Int) (p : Pr) : p ∈ putL 1000 L a l l ↔ p ∈ L ∨ mayB a l = true ∧ p = ⟨a, l, l⟩ := by
  cases hm : mayB a l
  · unfold putL
    rw [hm]
    simp
  · rw [mem_put hg.s (put_room hm (by omega))]
    constructor
    · rintro (h | h)
      · exact .inr ⟨rfl, h⟩
      · exact .inl h.1
    · rintro (h | ⟨-, h⟩)
      · by_cases hk : p.a = a ∧ p.l = l
        · left
          have := hs p h
          obtain ⟨pa, pl, pn⟩ := p
          simp only at hk this
          rw [this, hk.1, hk.2]
        · exact .inr ⟨h, hk⟩
      · exact .inl h
theorem run_facts : ∀ (xs : List Cl) (L : List Pr), Cls xs → GoodP L → (∀ p ∈ L, p.n = p.l) → L.length + xs.length ≤ 1000 →
    GoodP (runP xs L) ∧ ∀ p, p ∈ runP xs L ↔ p ∈ L ∨ ∃ c ∈ xs, mayB c.a c.l = true ∧ p = ⟨c.a, c.l, c.l⟩
  | [], L, _, hg, _, _ => ⟨hg, fun p => by simp [runP]⟩
  | c :: xs, L, hc, hg, hs, hL => by
    have hok := hc c (by simp)
    simp only [List.length_cons] at hL
    have hm := put_mem_len hg hs (by omega) c.a c.l
    obtain ⟨h1, h2⟩ := run_facts xs (putL 1000 L c.a c.l c.l) (fun x hx => hc x (by simp [hx])) (good_put hg hok.a0 hok.a1 hok.l0 hok.l1)
      (fun p hp => by
        rcases (hm p).1 hp with h | h
        · exact hs p h
        · rw [h.2]) (by have := put_len 1000 L c.a c.l c.l; omega)
    refine ⟨h1, fun p => ?_⟩
    show p ∈ runP xs (putL 1000 L c.a c.l c.l) ↔ _
    rw [h2, hm]
    constructor
    · rintro ((h | h) | ⟨d, hd, h⟩)
      · exact .inl h
      · exact .inr ⟨c, by simp, h⟩
      · exact .inr ⟨d, by simp [hd], h⟩
    · rintro (h | ⟨d, hd, h⟩)
      · exact .inl (.inl h)
      · rw [List.mem_cons] at hd
        rcases hd with rfl | hd
        · exact .inl (.inr h)
        · exact .inr ⟨d, hd, h⟩
theorem run_rev {cs : List Cl} (hc : Cls cs) (hn : cs.length ≤ 1000) : runP cs.reverse [] = runP cs [] := by
  obtain ⟨g1, m1⟩ := run_facts cs [] hc goodP_nil (by simp) (by simpa using hn)
  obtain ⟨g2, m2⟩ := run_facts cs.reverse [] (fun c h => hc c (by simpa using h)) goodP_nil (by simp) (by simpa using hn)
  exact srt_ext g2.s g1.s fun p => by rw [m1, m2]; simp
theorem takeC_next {cs : List Cl} {j : Nat} {c : Cl} (h : cs[j]? = some c) : cs.take (j + 1) = cs.take j ++ [c] := by rw [List.take_add_one, h]; rfl
theorem dropC_next {cs : List Cl} {j : Nat} {c : Cl} (h : cs[j]? = some c) : (cs.drop j).reverse = (cs.drop (j + 1)).reverse ++ [c] := by
  have hj := (List.getElem?_eq_some_iff.1 h).1
  rw [List.drop_eq_getElem_cons hj, (List.getElem?_eq_some_iff.1 h).2, List.reverse_cons]
section
variable {TR : World → (Nat → Prop) → Addr → Int → List Pr → Nat → Prop}
/-- Two tries of the program's that share no block. -/
structure Two (TR : World → (Nat → Prop) → Addr → Int → List Pr → Nat → Prop) (w : World) (p : Addr) (L : List Pr) (m : Nat) (B : Nat → Prop) (p' : Addr) (L' : List Pr) (m' : Nat) (B' : Nat → Prop) (W : World) : Prop where
  s : TR W B p 1000 L m
  t : TR W B' p' 1000 L' m'
  d : ∀ k, B k → w.heap.size ≤ k ∧ ¬ B' k
  e : ∀ k, B' k → w.heap.size ≤ k
  b : Below w.heap.size w W
theorem Two.later (C : TrieC TR) {w : World} {p : Addr} {L : List Pr} {m : Nat} {B : Nat → Prop} {p' : Addr} {L' : List Pr} {m' : Nat} {B' : Nat → Prop} {W W1 : World} (h : Two TR w p L m B p' L' m' B' W) (hb : Below W.heap.size W W1) : Two TR w p L m B p' L' m' B' W1 :=
  ⟨C.later h.s hb, C.later h.t hb, h.d, h.e, stp h.b hb⟩
theorem Two.stepS (C : TrieC TR) {w : World} {p : Addr} {L L2 : List Pr} {m m2 : Nat} {B : Nat → Prop} {p' : Addr} {L' : List Pr} {m' : Nat} {B' : Nat → Prop} {W W1 : World} {x : Int} {e : Ending} (h : Two TR w p L m B p' L' m' B' W) (hd : DoneT TR W B p 1000 L2 m2 x e W1) : e = .returned (.int .i64 x) ∧ ∃ B2, Two TR w p L2 m2 B2 p' L' m' B' W1 := by
  obtain ⟨B2, rfl, h1, h2, h3⟩ := hd
  refine ⟨rfl, B2, h1, C.keep h.t h3 (fun k hk hb => (h.d k hb).2 hk), fun k hk => ?_, h.e, h.b.trans (h3.below (fun i _ hi => (h.d i hi).1) h.b.size)⟩
  rcases h2 k hk with hk | hk
  · exact h.d k hk
  · exact ⟨Nat.le_trans h.b.size hk, fun hf => by have := C.lt h.t k hf; omega⟩
theorem Two.stepT (C : TrieC TR) {w : World} {p : Addr} {L L2 : List Pr} {m m2 : Nat} {B : Nat → Prop} {p' : Addr} {L' : List Pr} {m' : Nat} {B' : Nat → Prop} {W W1 : World} {x : Int} {e : Ending} (h : Two TR w p L m B p' L' m' B' W) (hd : DoneT TR W B' p' 1000 L2 m2 x e W1) : e = .returned (.int .i64 x) ∧ ∃ B2, Two TR w p L m B p' L2 m2 B2 W1 := by
  obtain ⟨B2, rfl, h1, h2, h3⟩ := hd
  refine ⟨rfl, B2, C.keep h.s h3 (fun k hk hb => (h.d k hk).2 hb), h1, fun k hk => ⟨(h.d k hk).1, fun hf => ?_⟩, fun k hk => ?_, h.b.trans (h3.below (fun i _ hi => h.e i hi) h.b.size)⟩
  · rcases h2 k hf with hf | hf
    · exact (h.d k hk).2 hf
    · have := C.lt h.s k hk; omega
  · rcases h2 k hk with hk | hk
    · exact h.e k hk
    · exact Nat.le_trans h.b.size hk
theorem Two.new (C : TrieC TR) {w W W1 : World} {p p' : Addr} {B B' : Nat → Prop} (h : TR W B p 1000 [] 0) (hB : ∀ k, B k → w.heap.size ≤ k) (hb : Below w.heap.size w W) (h' : TR W1 B' p' 1000 [] 0) (hB' : ∀ k, B' k → W.heap.size ≤ k) (hb' : Below W.heap.size W W1) : Two TR w p [] 0 B p' [] 0 B' W1 :=
  ⟨C.later h hb', h', fun k hk => ⟨hB k hk, fun hf => by have h1 := hB' k hf; have h2 := C.lt h k hk; omega⟩, fun k hk => Nat.le_trans hb.size (hB' k hk), stp hb hb'⟩
set_option maxRecDepth 100000 in
set_option maxHeartbeats 4000000 in
theorem law_order (C : TrieC TR) (ad : Option Addr) (n cap : Nat) (cs : List Cl) (x : Int) (w : World) (hr : RowC w ad n cs) (x0 : 0 ≤ x) (x1 : x < 4294967296) :
    Calls Try.prog 6 #[.slice ad n cap, .int .u32 x] w fun e w' => e = .returned (.bool true) ∧ Below w.heap.size w w' := by
  have HC : Hid (TrieC TR) := C
  have HR : Hid (RowC w ad n cs) := hr
  have HL : Hid (cs.length = n) := hr.1
  clear C hr
  by_cases hn : n ≤ 200
  case neg =>
    have hn' : (200 : Int) < (n : Int) := by omega
    go_enter Try.func6, Try.ntmps6
    go_wp2_with (first
      | (go_at_call 9; refine (awake_any HC.out _).mono ?_; rintro e W1 ⟨rfl, hb1⟩; have hcur : Below w.heap.size w W1 := hb1)
      | (go_at_call 10; refine (HC.out.new 1000 _ (by decide) (by decide)).mono ?_; rintro e W2 ⟨p, B, rfl, T2, hB2, hb2⟩; have hcur := stp hcur hb2; have he : ∀ W : World, (binOp .eql 24 (.pointer (some p)) (.pointer none)).run Try.prog W = .ok (.bool false) W := (fun _ => rfl); have he' : ∀ W : World, (binOp .neq 24 (.pointer (some p)) (.pointer none)).run Try.prog W = .ok (.bool true) W := (fun _ => rfl)))
    go_ret
    exact ⟨rfl, hcur⟩
  have hn' : ¬ (200 : Int) < (n : Int) := by omega
  go_enter Try.func6, Try.ntmps6
  go_wp2_with (first
    | (go_at_call 9; refine (awake_any HC.out _).mono ?_; rintro e W1 ⟨rfl, hb1⟩)
    | (go_at_call 10; have hb1' := hb1; clear hb1; refine (HC.out.new 1000 _ (by decide) (by decide)).mono ?_; rintro e W2 ⟨p, B, rfl, T2, hB2, hb2⟩; have he : ∀ W : World, (binOp .eql 24 (.pointer (some p)) (.pointer none)).run Try.prog W = .ok (.bool false) W := (fun _ => rfl))
    | (go_at_call 10; refine (HC.out.new 1000 _ (by decide) (by decide)).mono ?_; rintro e W3 ⟨p', B', rfl, T3, hB3, hb3⟩; have he' : ∀ W : World, (binOp .eql 24 (.pointer (some p')) (.pointer none)).run Try.prog W = .ok (.bool false) W := (fun _ => rfl)))
  have hnew := Two.new (w := w) HC.out T2 (fun k hk => Nat.le_trans hb1'.size (hB2 k hk)) (stp hb1' hb2) T3 hB3 hb3
  clear T2 T3 hB2 hB3 hb1' hb2 hb3 he he'
  go_loopw [8] (fun i_ W => ∃ (j : Nat) (B : Nat → Prop), j ≤ n ∧ i_ = .int .i64 j ∧ Hid (Two TR w p (runP (cs.take j) []) j B p' [] 0 B' W)) (fun i_ _ => n - (intOf i_).toNat)
  case atStart => exact ⟨0, B, Nat.zero_le _, rfl, hnew⟩
  case round =>
    clear hnew
    obtain ⟨j, B, hj, rfl, HB⟩ := hrel
    by_cases hlt : j < n
    · have hlt' : (j : Int) < (n : Int) := by omega
      obtain ⟨⟨ck, ca, cl, cn, cx⟩, b, off, he, hok, rfl, q5⟩ := HR.out.at hlt
      have HOK : Hid (Pr.Ok ⟨ca, cl, cl⟩) := ⟨hok.a0, hok.a1, hok.l0, hok.l1, hok.l0, hok.l1⟩
      have HQ : Hid (∀ W, Below w.heap.size w W → _) := fun W hb => (q5.later (W' := W) hb).zz
      have HN : Hid (putL 1000 (runP (cs.take j) []) ca cl cl = runP (cs.take (j + 1)) []) := by unfold Hid; rw [takeC_next he, runP_snoc]
      obtain ⟨-, d1, d2, -, -⟩ := HQ.out wr HB.out.b
      clear hok q5 he
      go_wp2
      go_region_held3 (fun w' => w'.cell? ⟨b, off + j * 5 + 1, none⟩ = some (.int .u32 ca) ∧ w'.cell? ⟨b, off + j * 5 + 2, none⟩ = some (.int .i64 cl)) (first | exact ⟨d1, d2⟩ | exact ⟨e1, e2⟩)
        ((go_at_call 11; refine (HC.out.put ca cl cl (HB.out.later HC.out (Below.refl _ _).drew).s (by omega) HOK.out).mono ?_; intro e W1 hd; rw [HN.out] at hd; obtain ⟨rfl, B1, hB1⟩ := (HB.out.later HC.out (Below.refl _ _).drew).stepS HC.out hd; obtain ⟨-, e1, e2, -, -⟩ := HQ.out W1 hB1.b))
      all_goals
        go_wp2
        go_roundw
        case rel => exact ⟨j + 1, B1, by omega, by go_num, hB1⟩
        case measure => simp [intOf]; omega
    · have hlt' : ¬ (j : Int) < (n : Int) := by omega
      obtain rfl : j = n := by omega
      rw [show cs.take j = cs by rw [← HL.out]; exact List.take_length] at HB
      obtain ⟨M, hM⟩ : ∃ M, runP cs [] = M := ⟨_, rfl⟩
      rw [hM] at HB
      have HM : Hid (runP cs.reverse [] = M) := by unfold Hid; rw [run_rev HR.out.2.1 (by rw [HL.out]; omega), hM]
      clear hM
      go_wp2
      go_loopw [9] (fun i_ W => ∃ (q r : Nat) (B2 : Nat → Prop), q + r = j ∧ i_ = .int .i64 ((r : Int) - 1) ∧ Hid (Two TR w p M j B p' (runP (cs.drop r).reverse []) q B2 W)) (fun i_ _ => (intOf i_ + 1).toNat)
      case atStart => exact ⟨0, j, B', by omega, by go_num, by unfold Hid; rw [List.drop_of_length_le (by rw [HL.out]; exact Nat.le_refl _)]; exact HB.out⟩
      case round =>
        clear HB
        obtain ⟨q, r, B2, hqr, rfl, HB⟩ := hrel
        cases r with
        | succ r =>
          have hr1 : ((r + 1 : Nat) : Int) - 1 = (r : Int) := by omega
          rw [hr1]
          have hge : (0 : Int) ≤ (r : Int) := by omega
          have hltr : r < j := by omega
          have hltr' : (r : Int) < (j : Int) := by omega
          obtain ⟨⟨ck, ca, cl, cn, cx⟩, b, off, he, hok, rfl, q5⟩ := HR.out.at hltr
          have HOK : Hid (Pr.Ok ⟨ca, cl, cl⟩) := ⟨hok.a0, hok.a1, hok.l0, hok.l1, hok.l0, hok.l1⟩
          have HQ : Hid (∀ W, Below w.heap.size w W → _) := fun W hb => (q5.later (W' := W) hb).zz
          have HN : Hid (putL 1000 (runP (cs.drop (r + 1)).reverse []) ca cl cl = runP (cs.drop r).reverse []) := by unfold Hid; rw [dropC_next he, runP_snoc]
          obtain ⟨-, d1, d2, -, -⟩ := HQ.out wr HB.out.b
          have hq' : q ≤ 200 := by omega
          clear hok q5 he hr1
          go_wp2
          go_region_held3 (fun w' => w'.cell? ⟨b, off + r * 5 + 1, none⟩ = some (.int .u32 ca) ∧ w'.cell? ⟨b, off + r * 5 + 2, none⟩ = some (.int .i64 cl)) (first | exact ⟨d1, d2⟩ | exact ⟨e1, e2⟩)
            ((go_at_call 11; refine (HC.out.put ca cl cl (HB.out.later HC.out (Below.refl _ _).drew).t (by omega) HOK.out).mono ?_; intro e W1 hd; rw [HN.out] at hd; obtain ⟨rfl, B3, hB3⟩ := (HB.out.later HC.out (Below.refl _ _).drew).stepT HC.out hd; obtain ⟨-, e1, e2, -, -⟩ := HQ.out W1 hB3.b))
          all_goals
            go_wp2
            go_roundw
            case rel => exact ⟨q + 1, r, B3, by omega, by go_num, hB3⟩
            case measure => simp [intOf] <;> omega
        | zero =>
          rw [List.drop_zero, HM.out] at HB
          have hge : ¬ (0 : Int) ≤ ((0 : Nat) : Int) - 1 := by omega
          obtain rfl : q = j := by omega
          have HG : Hid (GoodP M) := (HC.out.good HB.out.s).1
          have HGl : Hid (M.length ≤ q) := (HC.out.good HB.out.s).2
          have hmark : 0 = 0 := rfl
          have HMk : Hid (0 = 0) := hmark
          clear hmark
          go_wp2_with (first
            | (go_at_call 20; have HMk' := HMk; clear HMk; refine (HC.out.all HB.out.s (by omega)).mono ?_; rintro e V1 ⟨a1, n1, c1, rfl, own1, hb1⟩; have hB1 := HB.out.later HC.out hb1)
            | (go_at_call 20; refine (HC.out.all hB1.t (by omega)).mono ?_; rintro e V2 ⟨a2, n2, c2, rfl, own2, hb2⟩; have hB2 := hB1.later HC.out hb2; have hn12 : n2 = n1 := (own2.len.symm.trans own1.len); subst hn12))
          have HRow1 : Hid (RowX V2 a1 n2 (M.map keyX)) := (own1.row (keys_ok HG.out)).later hb2
          have HRow2 : Hid (RowX V2 a2 n2 (M.map keyX)) := own2.row (keys_ok HG.out)
          have hn2' : n2 ≤ 200 := by rw [← own2.len, List.length_map]; have := HGl.out; omega
          have HB2 : Hid (Two TR w p M q B p' M q B2 V2) := hB2
          clear own1 own2 hb1 hb2 hB1 hB2 HB
          go_loopw [12] (fun i_ W => ∃ (e : Nat), e ≤ n2 ∧ i_ = .int .i64 e ∧ Below V2.heap.size V2 W) (fun i_ _ => n2 - (intOf i_).toNat)
          case atStart => exact ⟨0, Nat.zero_le _, rfl, Below.refl _ _⟩
          case round =>
            obtain ⟨e, he, rfl, hBV⟩ := hrel
            by_cases hle : e < n2
            · have hle' : (e : Int) < (n2 : Int) := by omega
              obtain ⟨⟨xa, xl⟩, b, off, hx, -, rfl, q2⟩ := (HRow1.out.later hBV).at hle
              obtain ⟨⟨ya, yl⟩, b', off', hy, -, rfl, q2'⟩ := (HRow2.out.later hBV).at hle
              rw [hx] at hy
              simp only [Option.some.injEq, Px.mk.injEq] at hy
              obtain ⟨rfl, rfl⟩ := hy
              obtain ⟨d0, d1⟩ := q2
              obtain ⟨f0, f1⟩ := q2'
              simp only at d0 d1 f0 f1
              have neX := run_neX xa xl xa xl false (by simp)
              clear hx
              go_wp2
              go_quiet (fail)
              go_wp2
              go_roundw
              case rel => exact ⟨e + 1, by omega, by go_num, below_drewN hBV _⟩
              case measure => simp [intOf]; omega
            · have hle' : ¬ (e : Int) < (n2 : Int) := by omega
              have hcur := HB2.out.later HC.out hBV
              obtain ⟨fa, hfa⟩ : ∃ z, fndA x M = z := ⟨_, rfl⟩
              obtain ⟨fl, hfl⟩ : ∃ z, fndL x M = z := ⟨_, rfl⟩
              obtain ⟨fn, hfn⟩ : ∃ z, fndN x M = z := ⟨_, rfl⟩
              obtain ⟨fb, hfb⟩ : ∃ z, fndB x M = z := ⟨_, rfl⟩
              have HF : Hid (fndA x M = fa ∧ fndL x M = fl ∧ fndN x M = fn ∧ fndB x M = fb) := ⟨hfa, hfl, hfn, hfb⟩
              have HMk2 : Hid (0 = 0) := rfl
              have eqX := run_eqX fa fl fa fl true (by simp)
              clear hfa hfl hfn hfb
              go_wp2_with (first
                | (go_at_call 17; have HMk3 := HMk2; clear HMk2; refine (HC.out.find x hcur.s (by omega) x0 x1).mono ?_; rw [HF.out.1, HF.out.2.1, HF.out.2.2.1, HF.out.2.2.2]; rintro e V3 ⟨rfl, hb3⟩; have hcur := (hcur.later HC.out hb3).later HC.out (below1 _ (objX fa fl)))
                | (go_at_call 17; refine (HC.out.find x hcur.t (by omega) x0 x1).mono ?_; rw [HF.out.1, HF.out.2.1, HF.out.2.2.1, HF.out.2.2.2]; rintro e V4 ⟨rfl, hb4⟩; have hcur := (hcur.later HC.out hb4).later HC.out (below1 _ (objX fa fl)); obtain ⟨g0, g1⟩ := (((X2.new V3 fa fl).later hb4).later (below1 V4 (objX fa fl))).z))
              go_ret
              exact ⟨rfl, hcur.b⟩
end
end Go.Proofs.Ytifokdebocgaiaa
