/- The laws TrieRoot and TrieEmpty, walked, over what is asked of the program's trie. -/
import Derived.Test.YtifokdebocgaiaaLawT
namespace Go.Proofs.Ytifokdebocgaiaa
open Go.RowKit

section
variable {TR : World → (Nat → Prop) → Addr → Int → List Pr → Nat → Prop}
/-- One trie of the program's, made behind w. -/
structure One (TR : World → (Nat → Prop) → Addr → Int → List Pr → Nat → Prop) (w : World) (p : Addr) (most : Int) (L : List Pr) (m : Nat) (B : Nat → Prop) (W : World) : Prop where
  t : TR W B p most L m
  d : ∀ k, B k → w.heap.size ≤ k
  b : Below w.heap.size w W
theorem One.later (C : TrieC TR) {w : World} {p : Addr} {most : Int} {L : List Pr} {m : Nat} {B : Nat → Prop} {W W1 : World} (h : One TR w p most L m B W) (hb : Below W.heap.size W W1) : One TR w p most L m B W1 := ⟨C.later h.t hb, h.d, stp h.b hb⟩
theorem One.step {w : World} {p : Addr} {most : Int} {L L2 : List Pr} {m m2 : Nat} {B : Nat → Prop} {W W1 : World} {x : Int} {e : Ending} (h : One TR w p most L m B W) (hd : DoneT TR W B p most L2 m2 x e W1) : e = .returned (.int .i64 x) ∧ ∃ B1, One TR w p most L2 m2 B1 W1 := by
  obtain ⟨B1, rfl, h1, h2, h3⟩ := hd
  refine ⟨rfl, B1, h1, fun k hk => ?_, h.b.trans (h3.below (fun i _ hi => h.d i hi) h.b.size)⟩
  rcases h2 k hk with hk | hk
  · exact h.d k hk
  · exact Nat.le_trans h.b.size hk
theorem C5.zz {W : World} {b o : Nat} {k a l n x : Int} (h : C5 W b o ⟨k, a, l, n, x⟩) : W.cell? ⟨b, o, none⟩ = some (.int .i64 k) ∧ W.cell? ⟨b, o + 1, none⟩ = some (.int .u32 a) ∧ W.cell? ⟨b, o + 2, none⟩ = some (.int .i64 l) ∧ W.cell? ⟨b, o + 3, none⟩ = some (.int .i64 n) ∧ W.cell? ⟨b, o + 4, none⟩ = some (.int .u32 x) := h
theorem mayB_root : mayB 0 0 = true := by decide
theorem root_ok {n : Int} (n0 : -9223372036854775808 ≤ n) (n1 : n ≤ 9223372036854775807) : Pr.Ok ⟨0, 0, n⟩ := ⟨Int.le_refl 0, (by decide : (0 : Int) < 4294967296), (by decide : (-9223372036854775808 : Int) ≤ 0), (by decide : (0 : Int) ≤ 9223372036854775807), n0, n1⟩
theorem put_room {most : Int} {L : List Pr} {a l : Int} (hm : mayB a l = true) (h : (L.length : Int) < most) : putX most L a l = 0 := by
  unfold putX
  rw [hm]
  simp only [Bool.true_eq_false, if_false]
  split
  · rfl
  · rw [if_neg (by omega)]
theorem put_arg {most : Int} {L : List Pr} {a l : Int} (hm : mayB a l = false) : putX most L a l = 1 := by unfold putX; rw [hm]; rfl
/-- What is found when the prefix of no bits has something. -/
theorem root_found {L : List Pr} (hg : GoodP L) {n x : Int} (hr : (⟨0, 0, n⟩ : Pr) ∈ L) (x0 : 0 ≤ x) (x1 : x < 4294967296) : ∃ a l m, fndA x L = a ∧ fndL x L = l ∧ fndN x L = m ∧ fndB x L = true ∧ (0 < l ∧ hasB a l x = true ∧ 0 ≤ a ∧ a < 4294967296 ∨ a = 0 ∧ l = 0 ∧ m = n) := by
  cases h : findP x L none with
  | none => have := find_none h _ hr; rw [hasB_root x0 x1] at this; cases this
  | some p =>
    obtain ⟨h1, h2, h3⟩ := find_some h
    refine ⟨p.a, p.l, p.n, by simp [fndA, h], by simp [fndL, h], by simp [fndN, h], by simp [fndB, h], ?_⟩
    have hl := (may_len (hg.m p h1)).1
    by_cases h0 : p.l = 0
    · have ha : p.a = 0 := has_uniq (l := 0) (x := x) (by rw [← h0]; exact h2) (hasB_root x0 x1)
      have := srt_uniq hg.s p h1 _ hr ha h0
      rw [this]
      exact .inr ⟨rfl, rfl, rfl⟩
    · exact .inl ⟨by omega, h2, (hg.u p h1).1, (hg.u p h1).2⟩
set_option maxRecDepth 100000 in
set_option maxHeartbeats 4000000 in
theorem law_root (C : TrieC TR) (ad : Option Addr) (n cap : Nat) (cs : List Cl) (y x : Int) (w : World) (hr : RowC w ad n cs) (y0 : -9223372036854775808 ≤ y) (y1 : y ≤ 9223372036854775807) (x0 : 0 ≤ x) (x1 : x < 4294967296) :
    Calls Try.prog 7 #[.slice ad n cap, .int .i64 y, .int .u32 x] w fun e w' => e = .returned (.bool true) ∧ Below w.heap.size w w' := by
  have HC : Hid (TrieC TR) := C
  have HR : Hid (RowC w ad n cs) := hr
  clear C hr
  by_cases hn : n ≤ 200
  case neg =>
    have hn' : (200 : Int) < (n : Int) := by omega
    go_enter Try.func7, Try.ntmps7
    go_wp2_with (first
      | (go_at_call 9; refine (awake_any HC.out _).mono ?_; rintro e W1 ⟨rfl, hb1⟩)
      | (go_at_call 10; refine (HC.out.new 1000 _ (by decide) (by decide)).mono ?_; rintro e W2 ⟨p, B, rfl, T2, hB2, hb2⟩; have he : ∀ W : World, (binOp .eql 24 (.pointer (some p)) (.pointer none)).run Try.prog W = .ok (.bool false) W := (fun _ => rfl); have he' : ∀ W : World, (binOp .neq 24 (.pointer (some p)) (.pointer none)).run Try.prog W = .ok (.bool true) W := (fun _ => rfl)))
    go_ret
    exact ⟨rfl, stp hb1 hb2⟩
  have hn' : ¬ (200 : Int) < (n : Int) := by omega
  go_enter Try.func7, Try.ntmps7
  go_wp2_with (first
    | (go_at_call 9; refine (awake_any HC.out _).mono ?_; rintro e W1 ⟨rfl, hb1⟩)
    | (go_at_call 10; refine (HC.out.new 1000 _ (by decide) (by decide)).mono ?_; rintro e W2 ⟨p, B, rfl, T2, hB2, hb2⟩; have he : ∀ W : World, (binOp .eql 24 (.pointer (some p)) (.pointer none)).run Try.prog W = .ok (.bool false) W := (fun _ => rfl)))
  have hnew : One TR w p 1000 [] 0 B W2 := ⟨T2, fun k hk => Nat.le_trans hb1.size (hB2 k hk), stp hb1 hb2⟩
  clear T2 hB2 hb1 hb2 he
  go_loopw [9] (fun i_ W => ∃ (j : Nat) (L : List Pr) (B : Nat → Prop), j ≤ n ∧ i_ = .int .i64 j ∧ Hid (One TR w p 1000 L j B W)) (fun i_ _ => n - (intOf i_).toNat)
  case atStart => exact ⟨0, [], B, Nat.zero_le _, rfl, hnew⟩
  case round =>
    clear hnew
    obtain ⟨j, L, B, hj, rfl, HB⟩ := hrel
    by_cases hlt : j < n
    · have hlt' : (j : Int) < (n : Int) := by omega
      obtain ⟨⟨ck, ca, cl, cn, cx⟩, b, off, he, hok, rfl, q5⟩ := HR.out.at hlt
      have HOK : Hid (Pr.Ok ⟨ca, cl, cn⟩) := ⟨hok.a0, hok.a1, hok.l0, hok.l1, hok.n0, hok.n1⟩
      have HQ : Hid (∀ W, Below w.heap.size w W → _) := fun W hb => (q5.later (W' := W) hb).zz
      obtain ⟨-, d1, d2, d3, -⟩ := HQ.out wr HB.out.b
      clear hok q5 he
      go_wp2
      go_region_held3 (fun w' => w'.cell? ⟨b, off + j * 5 + 1, none⟩ = some (.int .u32 ca) ∧ w'.cell? ⟨b, off + j * 5 + 2, none⟩ = some (.int .i64 cl) ∧ w'.cell? ⟨b, off + j * 5 + 3, none⟩ = some (.int .i64 cn)) (first | exact ⟨d1, d2, d3⟩ | exact ⟨e1, e2, e3⟩)
        ((go_at_call 11; refine (HC.out.put ca cl cn (HB.out.later HC.out (Below.refl _ _).drew).t (by omega) HOK.out).mono ?_; intro e W1 hd; obtain ⟨rfl, B1, hB1⟩ := (HB.out.later HC.out (Below.refl _ _).drew).step hd; obtain ⟨-, e1, e2, e3, -⟩ := HQ.out W1 hB1.b))
      all_goals
        go_wp2
        go_roundw
        case rel => exact ⟨j + 1, _, B1, by omega, by go_num, hB1⟩
        case measure => simp [intOf]; omega
    · have hlt' : ¬ (j : Int) < (n : Int) := by omega
      obtain rfl : j = n := by omega
      obtain ⟨hg, hlen⟩ := HC.out.good HB.out.t
      have hX : putX 1000 L 0 0 = 0 := put_room mayB_root (by omega)
      have HX : Hid (putX 1000 L 0 0 = 0) := hX
      have hg2 : GoodP (putL 1000 L 0 0 y) := good_put hg (by decide) (by decide) y0 y1
      obtain ⟨fa, fl, fn, e1, e2, e3, e4, hcase⟩ := root_found hg2 ((mem_put hg.s hX).2 (.inl rfl)) x0 x1
      have HF : Hid (fndA x (putL 1000 L 0 0 y) = fa ∧ fndL x (putL 1000 L 0 0 y) = fl ∧ fndN x (putL 1000 L 0 0 y) = fn ∧ fndB x (putL 1000 L 0 0 y) = true) := ⟨e1, e2, e3, e4⟩
      clear hg hlen hX hg2 e1 e2 e3 e4
      rcases hcase with ⟨hl, hh, ha0, ha1⟩ | ⟨rfl, rfl, rfl⟩
      · have HH : Hid (hasB fa fl x = true) := hh
        clear hh
        go_wp2_with (first
          | (go_at_call 11; refine (HC.out.put 0 0 y HB.out.t (by omega) (root_ok y0 y1)).mono ?_; intro e W1 hd; obtain ⟨rfl, B1, hB1⟩ := HB.out.step hd; rw [HX.out])
          | (go_at_call 17; refine (HC.out.find x hB1.t (by omega) x0 x1).mono ?_; rw [HF.out.1, HF.out.2.1, HF.out.2.2.1, HF.out.2.2.2]; rintro e W2 ⟨rfl, hb2⟩; have hB2 := (hB1.later HC.out hb2).later HC.out (below1 _ (objX fa fl)))
          | (go_at_call 22; refine (has_any _ _ _ _ ha0 ha1 x0 x1 HH.out).mono ?_; rintro e W3 ⟨rfl, hb3⟩))
        go_ret
        exact ⟨rfl, stp hB2.b hb3⟩
      · have eqX := run_eqX 0 0 0 0 true (by decide)
        go_wp2_with (first
          | (go_at_call 11; refine (HC.out.put 0 0 _ HB.out.t (by omega) (root_ok y0 y1)).mono ?_; intro e W1 hd; obtain ⟨rfl, B1, hB1⟩ := HB.out.step hd; rw [HX.out])
          | (go_at_call 17; refine (HC.out.find x hB1.t (by omega) x0 x1).mono ?_; rw [HF.out.1, HF.out.2.1, HF.out.2.2.1, HF.out.2.2.2]; rintro e W2 ⟨rfl, hb2⟩; have hB2 := (hB1.later HC.out hb2).later HC.out (below1 _ (objX 0 0))))
        go_ret
        exact ⟨rfl, hB2.b⟩
end
end Go.Proofs.Ytifokdebocgaiaa
