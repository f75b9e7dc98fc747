/- The law TrieDoes, walked, over what is asked of the program's trie. -/
import Derived.Test.YtifokdebocgaiaaLawT
import Derived.Deep.Cut
import Derived.Deep.CutRange
import Derived.Deep.CutBlock
namespace Go.Proofs.Ytifokdebocgaiaa
open Go.RowKit

section
variable {TR : World → (Nat → Prop) → Addr → Int → List Pr → Nat → Prop}
/-- The program's trie has L, the document's L'; they share no block. -/
structure Both (TR : World → (Nat → Prop) → Addr → Int → List Pr → Nat → Prop) (w : World) (N : Nat) (p : Addr) (most : Int) (L L' : List Pr) (m : Nat) (B : Nat → Prop) (v : Value) (W : World) : Prop where
  t : TR W B p most L m
  r : RefT W N v most L'
  d : ∀ k, B k → w.heap.size ≤ k ∧ ¬ fpR N v k
  n : w.heap.size ≤ N
  b : Below w.heap.size w W
theorem Both.later (C : TrieC TR) {w : World} {N : Nat} {p : Addr} {most : Int} {L L' : List Pr} {m : Nat} {B : Nat → Prop} {v : Value} {W W1 : World} (h : Both TR w N p most L L' m B v W) (hb : Below W.heap.size W W1) : Both TR w N p most L L' m B v W1 :=
  ⟨C.later h.t hb, h.r.later hb, h.d, h.n, stp h.b hb⟩
theorem Both.up (C : TrieC TR) {w : World} {N : Nat} {p : Addr} {most : Int} {L L' : List Pr} {m : Nat} {B : Nat → Prop} {v : Value} {W : World} (h : Both TR w N p most L L' m B v W) : Both TR w N p most L L' (m + 1) B v W := ⟨C.up h.t, h.r, h.d, h.n, h.b⟩
theorem fpR_lt {W : World} {N : Nat} {v : Value} {most : Int} {L : List Pr} (h : RefT W N v most L) {k : Nat} (hk : fpR N v k) : k < W.heap.size := by
  rcases hk with rfl | hk
  · exact h.2.2.2.2.2
  · exact h.2.2.2.1.own_lt hk
theorem Both.stepT {w : World} {N : Nat} {p : Addr} {most : Int} {L L' L2 : List Pr} {m m2 : Nat} {B : Nat → Prop} {v : Value} {W W1 : World} {x : Int} {e : Ending} (h : Both TR w N p most L L' m B v W) (hd : DoneT TR W B p most L2 m2 x e W1) :
    e = .returned (.int .i64 x) ∧ ∃ B1, Both TR w N p most L2 L' m2 B1 v W1 := by
  obtain ⟨B1, rfl, h1, h2, h3⟩ := hd
  refine ⟨rfl, B1, h1, h.r.keep h3 (fun k hk hb => (h.d k hb).2 hk), fun k hk => ?_, h.n, h.b.trans (h3.below (fun i _ hi => (h.d i hi).1) h.b.size)⟩
  rcases h2 k hk with hk | hk
  · exact h.d k hk
  · exact ⟨Nat.le_trans h.b.size hk, fun hf => by have := fpR_lt h.r hf; omega⟩
theorem Both.stepR (C : TrieC TR) {w : World} {N : Nat} {p : Addr} {most : Int} {L L' L2 : List Pr} {m : Nat} {B : Nat → Prop} {v : Value} {W W1 : World} {x : Int} {e : Ending} (h : Both TR w N p most L L' m B v W) (hd : DoneR W N v most L2 x e W1) :
    e = .returned (.int .i64 x) ∧ ∃ v1, Both TR w N p most L L2 m B v1 W1 := by
  obtain ⟨v1, rfl, h1, h2, h3⟩ := hd
  refine ⟨rfl, v1, C.keep h.t h3 (fun k hk hf => (h.d k hk).2 hf), h1, fun k hk => ⟨(h.d k hk).1, fun hf => ?_⟩, h.n, h.b.trans (h3.below (fun i _ hi => ?_) h.b.size)⟩
  · rcases hf with rfl | hf
    · exact (h.d k hk).2 (.inl rfl)
    · rcases h2 k hf with hf | hf
      · exact (h.d k hk).2 (.inr hf)
      · have := C.lt h.t k hk; omega
  · rcases hi with rfl | hi
    · exact h.n
    · have := h.r.2.2.2.1.lt i hi; have := h.n; omega
abbrev objR (most : Int) (v : Value) : Obj := .cells #[.int .i64 most, v] 29
theorem refT_new (W : World) (most : Int) : RefT (W.alloc (objR most (.slice none 0 0))) W.heap.size (.slice none 0 0) most [] := by
  refine ⟨by simp [go_sem], by simp [go_sem], fun o => by simp [go_sem], ownQ_nil _ _, (fun _ h => by cases h), by simp⟩
theorem Both.new (C : TrieC TR) {w W : World} {p : Addr} {most : Int} {B : Nat → Prop} (h : TR W B p most [] 0) (hB : ∀ k, B k → w.heap.size ≤ k) (hb : Below w.heap.size w W) : Both TR w W.heap.size p most [] [] 0 B (.slice none 0 0) (W.alloc (objR most (.slice none 0 0))) :=
  ⟨C.later h (below1 _ _), refT_new W most, fun k hk => ⟨hB k hk, fun hf => by
    rcases hf with rfl | hf
    · have := C.lt h _ hk; omega
    · cases hf⟩, hb.size, stp hb (below1 _ _)⟩
theorem C5.z' {W : World} {b o : Nat} {k a l n x : Int} (h : C5 W b o ⟨k, a, l, n, x⟩) : W.cell? ⟨b, o, none⟩ = some (.int .i64 k) ∧ W.cell? ⟨b, o + 1, none⟩ = some (.int .u32 a) ∧ W.cell? ⟨b, o + 2, none⟩ = some (.int .i64 l) ∧ W.cell? ⟨b, o + 3, none⟩ = some (.int .i64 n) ∧ W.cell? ⟨b, o + 4, none⟩ = some (.int .u32 x) := h
set_option maxRecDepth 100000 in
set_option maxHeartbeats 4000000 in
theorem law_does (C : TrieC TR) (most : Int) (ad : Option Addr) (n cap : Nat) (cs : List Cl) (w : World) (hm0 : -9223372036854775808 ≤ most) (hm1 : most ≤ 9223372036854775807) (hr : RowC w ad n cs) :
    Calls Try.prog 3 #[.int .i64 most, .slice ad n cap] w fun e w' => e = .returned (.bool true) ∧ Below w.heap.size w w' := by
  have HC : Hid (TrieC TR) := C
  have HR : Hid (RowC w ad n cs) := hr
  clear C hr
  by_cases hn : n ≤ 200
  case neg =>
    have hn' : (200 : Int) < (n : Int) := by omega
    go_enter Try.func3, Try.ntmps3
    go_wp2_with (first
      | (go_at_call 9; refine (awake_any HC.out _).mono ?_; rintro e W1 ⟨rfl, hb1⟩)
      | (go_at_call 10; refine (HC.out.new most _ hm0 hm1).mono ?_; rintro e W2 ⟨p, B, rfl, T2, hB2, hb2⟩; have he : ∀ W : World, (binOp .eql 24 (.pointer (some p)) (.pointer none)).run Try.prog W = .ok (.bool false) W := (fun _ => rfl); have he' : ∀ W : World, (binOp .neq 24 (.pointer (some p)) (.pointer none)).run Try.prog W = .ok (.bool true) W := (fun _ => rfl)))
    go_ret
    exact ⟨rfl, stp hb1 hb2⟩
  have hn' : ¬ (200 : Int) < (n : Int) := by omega
  go_enter Try.func3, Try.ntmps3
  go_wp2_with (first
    | (go_at_call 9; refine (awake_any HC.out _).mono ?_; rintro e W1 ⟨rfl, hb1⟩)
    | (go_at_call 10; refine (HC.out.new most _ hm0 hm1).mono ?_; rintro e W2 ⟨p, B, rfl, T2, hB2, hb2⟩; have he : ∀ W : World, (binOp .eql 24 (.pointer (some p)) (.pointer none)).run Try.prog W = .ok (.bool false) W := (fun _ => rfl)))
  obtain ⟨N, hN⟩ : ∃ N, N = W2.heap.size := ⟨_, rfl⟩
  rw [← hN]
  have hnew := Both.new (w := w) HC.out T2 (fun k hk => Nat.le_trans hb1.size (hB2 k hk)) (stp hb1 hb2)
  rw [← hN] at hnew
  clear hN T2 hB2 hb1 hb2 he
  go_loopw [8] (fun i_ W => ∃ (j : Nat) (L : List Pr) (B : Nat → Prop) (v : Value), j ≤ n ∧ i_ = .int .i64 j ∧ Hid (Both TR w N p most L L j B v W)) (fun i_ _ => n - (intOf i_).toNat)
  case atStart => exact ⟨0, [], B, _, Nat.zero_le _, rfl, hnew⟩
  case round =>
    clear hnew
    obtain ⟨j, L, B, v, hj, rfl, HB⟩ := hrel
    by_cases hlt : j < n
    · have hlt' : (j : Int) < (n : Int) := by omega
      obtain ⟨⟨ck, ca, cl, cn, cx⟩, b, off, he, hok, rfl, q5⟩ := HR.out.at hlt
      have HOK : Hid (Pr.Ok ⟨ca, cl, cn⟩) := ⟨hok.a0, hok.a1, hok.l0, hok.l1, hok.n0, hok.n1⟩
      have cx0 : 0 ≤ cx := hok.x0
      have cx1 : cx < 4294967296 := hok.x1
      have HQ : Hid (∀ W, Below w.heap.size w W → _) := fun W hb => (q5.later (W' := W) hb).z'
      obtain ⟨d0, d1, d2, d3, d4⟩ := HQ.out wr HB.out.b
      have hj200 : j ≤ 200 := by omega
      clear hok q5 he
      have HOX : Hid (Px.Ok ⟨ca, cl⟩) := ⟨HOK.out.a0, HOK.out.a1, HOK.out.l0, HOK.out.l1⟩
      have HLn : Hid (L.length ≤ 1000) := Nat.le_trans (HC.out.good HB.out.t).2 (by omega)
      go_upto_block 2 with fail
      go_cut [9, 10, 11, 12, 13] from 43 to 187 (fun s9 _ _ _ _ wx => s9 = .bool true ∧ ∃ L2 B2 v2, Both TR w N p most L2 L2 (j + 1) B2 v2 wx)
      case first =>
        by_cases hk0 : ck = 0
        · subst hk0
          go_wp2
          go_region_held3 (fun w' => w'.cell? ⟨b, off + j * 5 + 1, none⟩ = some (.int .u32 ca) ∧ w'.cell? ⟨b, off + j * 5 + 2, none⟩ = some (.int .i64 cl) ∧ w'.cell? ⟨b, off + j * 5 + 3, none⟩ = some (.int .i64 cn)) (first | exact ⟨d1, d2, d3⟩ | exact ⟨e1, e2, e3⟩ | exact ⟨f1, f2, f3⟩)
            ((first
              | (go_at_call 11; refine (HC.out.put ca cl cn (HB.out.later HC.out (Below.refl _ _).drew).t (by omega) HOK.out).mono ?_; intro e W1 hd; obtain ⟨rfl, B1, hB1⟩ := (HB.out.later HC.out (Below.refl _ _).drew).stepT hd; obtain ⟨-, e1, e2, e3, -⟩ := HQ.out W1 hB1.b)
              | (go_at_call 12; refine (refPut_any N v most L ca cl cn _ hB1.r HLn.out HOK.out).mono ?_; intro e W2 hd2; obtain ⟨rfl, v2, hB2⟩ := hB1.stepR HC.out hd2; obtain ⟨-, f1, f2, f3, -⟩ := HQ.out W2 hB2.b)))
          all_goals
            go_wp2
            go_meet
            exact ⟨rfl, _, _, _, hB2⟩
        have hk0' : (ck == 0) = false := by simpa using hk0
        by_cases hk1 : ck = 1
        · subst hk1
          go_wp2
          go_region_held3 (fun w' => w'.cell? ⟨b, off + j * 5 + 1, none⟩ = some (.int .u32 ca) ∧ w'.cell? ⟨b, off + j * 5 + 2, none⟩ = some (.int .i64 cl)) (first | exact ⟨d1, d2⟩ | exact ⟨e1, e2⟩ | exact ⟨f1, f2⟩)
            ((first
              | (go_at_call 13; refine (HC.out.take ca cl (HB.out.later HC.out (Below.refl _ _).drew).t (by omega) HOX.out).mono ?_; intro e W1 hd; obtain ⟨rfl, B1, hB1⟩ := (HB.out.later HC.out (Below.refl _ _).drew).stepT hd; obtain ⟨-, e1, e2, -, -⟩ := HQ.out W1 hB1.b)
              | (go_at_call 14; refine (refTake_any N v most L ca cl _ hB1.r HLn.out).mono ?_; intro e W2 hd2; obtain ⟨rfl, v2, hB2⟩ := hB1.stepR HC.out hd2; obtain ⟨-, f1, f2, -, -⟩ := HQ.out W2 hB2.b)))
          all_goals
            go_wp2
            go_meet
            exact ⟨rfl, _, _, _, hB2⟩
        have hk1' : (ck == 1) = false := by simpa using hk1
        by_cases hk2 : ck = 2
        · subst hk2
          go_wp2_with (first
            | (go_at_call 15; refine (HC.out.get ca cl HB.out.t (by omega) HOX.out).mono ?_; rintro e W1 ⟨rfl, hb1⟩; have hB1 := HB.out.later HC.out hb1; obtain ⟨-, d1, d2, -, -⟩ := HQ.out W1 hB1.b)
            | (go_at_call 16; refine (refGet_any N v most L ca cl _ hB1.r HLn.out).mono ?_; rintro e W2 ⟨rfl, hb2⟩; have hB2 := hB1.later HC.out hb2))
          go_meet
          exact ⟨rfl, _, _, _, hB2.up HC.out⟩
        have hk2' : (ck == 2) = false := by simpa using hk2
        go_wp2
        go_meet
        exact ⟨rfl, _, _, _, HB.out.up HC.out⟩
      case rest =>
        obtain ⟨rfl, L2, B2, v2, hB2⟩ := hcut
        have HB2 : Hid (Both TR w N p most L2 L2 (j + 1) B2 v2 wc) := hB2
        obtain ⟨ad2, cp2, rfl⟩ := hB2.r.2.2.2.1.shape
        obtain ⟨n2, hn2⟩ : ∃ n2, L2.length = n2 := ⟨_, rfl⟩
        have HN2 : Hid (L2.length = n2) := hn2
        rw [hn2] at HB2
        have hn2' : n2 ≤ 201 := by rw [← hn2]; exact Nat.le_trans (HC.out.good hB2.t).2 (by omega)
        have HL2 : Hid (L2.length ≤ 1000) := by unfold Hid; rw [hn2]; omega
        clear hB2 hn2 d0 d1 d2 d3 d4 HB HLn
        obtain ⟨-, -, -, -, d4⟩ := HQ.out wc HB2.out.b
        obtain ⟨fa, hfa⟩ : ∃ x, fndA cx L2 = x := ⟨_, rfl⟩
        obtain ⟨fl, hfl⟩ : ∃ x, fndL cx L2 = x := ⟨_, rfl⟩
        obtain ⟨fn, hfn⟩ : ∃ x, fndN cx L2 = x := ⟨_, rfl⟩
        obtain ⟨fb, hfb⟩ : ∃ x, fndB cx L2 = x := ⟨_, rfl⟩
        have HFA : Hid (fndA cx L2 = fa) := hfa
        have HFL : Hid (fndL cx L2 = fl) := hfl
        have HFN : Hid (fndN cx L2 = fn) := hfn
        have HFB : Hid (fndB cx L2 = fb) := hfb
        clear hfa hfl hfn hfb
        have eqB : (fb != fb) = false := by simp
        have eqN : (fn != fn) = false := by simp
        have eqX := run_neX fa fl fa fl false (by simp)
        go_wp2_with (first
          | (go_at_call 17; refine (HC.out.find cx HB2.out.t (by omega) cx0 cx1).mono ?_; rw [HFA.out, HFL.out, HFN.out, HFB.out]; rintro e W3 ⟨rfl, hb3⟩; have hB3 := (HB2.out.later HC.out hb3).later HC.out (below1 _ (objX fa fl)); obtain ⟨-, -, -, -, d4⟩ := HQ.out _ hB3.b)
          | (go_at_call 18; refine (refFind_any N _ most L2 cx _ hB3.r HL2.out cx0 cx1).mono ?_; rw [HFA.out, HFL.out, HFN.out, HFB.out]; rintro e W4 ⟨rfl, hb4⟩; have HB4 : Hid (Both TR w N p most L2 L2 (j + 1) B2 (.slice ad2 n2 cp2) (W4.alloc (objX fa fl))) := (hB3.later HC.out hb4).later HC.out (below1 _ (objX fa fl)); have HX3 : Hid (X2 (W4.alloc (objX fa fl)) W3.heap.size 0 ⟨fa, fl⟩) := ((X2.new W3 fa fl).later hb4).later (below1 _ _); have HX4 : Hid (X2 (W4.alloc (objX fa fl)) W4.heap.size 0 ⟨fa, fl⟩) := X2.new W4 fa fl))
        obtain ⟨W5, hW5⟩ : ∃ W5, W5 = W4.alloc (objX fa fl) := ⟨_, rfl⟩
        rw [← hW5] at HB4 HX3 HX4 ⊢
        have z5 := HB4.out.r.2.1
        clear hW5 hb3 hb4 hB3 d4
        go_region_held3 (fun w' => w'.cell? ⟨N, 1, none⟩ = some (.slice ad2 n2 cp2)) (first | exact z5 | exact z6 | exact z7)
          ((first
            | (go_at_call 20; refine (HC.out.all (HB4.out.later HC.out (Below.refl _ _).drew).t (by omega)).mono ?_; rintro e W6 ⟨a6, n6, c6, rfl, own6, hb6⟩; have row6 := own6.row (keys_ok (HC.out.good HB4.out.t).1); clear own6; have hb6 : Below W5.heap.size W5 W6 := ((Below.refl _ _).drew).trans hb6; have hB6 := HB4.out.later HC.out hb6; have z6 := hB6.r.2.1)
            | (go_at_call 19; refine (allSame_any _ _ _ _ _ _ L2 _ row6 (by have h := hB6.r.2.2.2.1; rw [HN2.out] at h; exact h.row hB6.r.2.2.2.2.1) (by omega)).mono ?_; rintro e W7 ⟨rfl, hb7⟩; have hB7 := hB6.later HC.out hb7; have z7 := hB7.r.2.1)))
        all_goals
          have HB7 : Hid (Both TR w N p most L2 L2 (j + 1) B2 (.slice ad2 n2 cp2) W7) := hB7
          obtain ⟨p0, p1⟩ := (HX3.out.later (stp hb6 hb7)).z
          obtain ⟨q0, q1⟩ := (HX4.out.later (stp hb6 hb7)).z
          rename_i hHeld
          clear hHeld hb6 hb7 hB6 hB7 z5 z6 row6
          go_wp2
          go_region_held3 (fun w' => w'.cell? ⟨N, 1, none⟩ = some (.slice ad2 n2 cp2) ∧ w'.cell? ⟨W3.heap.size, 0, none⟩ = some (.int .u32 fa) ∧ w'.cell? ⟨W3.heap.size, 1, none⟩ = some (.int .i64 fl) ∧ w'.cell? ⟨W4.heap.size, 0, none⟩ = some (.int .u32 fa) ∧ w'.cell? ⟨W4.heap.size, 1, none⟩ = some (.int .i64 fl)) (first | exact ⟨z7, p0, p1, q0, q1⟩ | exact ⟨z8, r0, r1, s0, s1⟩)
            ((go_at_call 21; refine (HC.out.len (HB7.out.later HC.out (Below.refl _ _).drew).t (by omega)).mono ?_; rw [HN2.out]; rintro e W8 ⟨rfl, hb8⟩; have hb8 : Below W7.heap.size W7 W8 := ((Below.refl _ _).drew).trans hb8; have hB8 := HB7.out.later HC.out hb8; have z8 := hB8.r.2.1; have r0 := cell_later hb8 p0; have r1 := cell_later hb8 p1; have s0 := cell_later hb8 q0; have s1 := cell_later hb8 q1))
          all_goals
            go_wp2
            go_roundw
            case rel => exact ⟨j + 1, L2, B2, _, by omega, by go_num, hB8⟩
            case measure => simp [intOf]; omega
    · have hlt' : ¬ (j : Int) < (n : Int) := by omega
      go_wp2
      go_ret
      exact ⟨rfl, HB.out.b⟩
end
end Go.Proofs.Ytifokdebocgaiaa
