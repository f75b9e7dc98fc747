/- The law TrieEmpty, walked, over what is asked of the program's trie. -/
import Derived.Test.YtifokdebocgaiaaLawV
namespace Go.Proofs.Ytifokdebocgaiaa
open Go.RowKit

theorem take_first (p : Pr) (L : List Pr) : takeX (p :: L) p.a p.l = 0 ∧ takeL (p :: L) p.a p.l = L := by
  unfold takeX takeL
  have : fAt p.a p.l (p :: L) = some 0 := by rw [fAt, if_pos (Pr.is_iff.2 ⟨rfl, rfl⟩)]
  rw [this]
  exact ⟨rfl, rfl⟩
theorem put_empty {most : Int} (h : 1 ≤ most) : putX most [] 0 0 = 0 := put_room mayB_root (by simp; omega)
section
variable {TR : World → (Nat → Prop) → Addr → Int → List Pr → Nat → Prop}
/-- A trie, and a row of prefixes that it does not touch. -/
structure OneA (TR : World → (Nat → Prop) → Addr → Int → List Pr → Nat → Prop) (w : World) (p : Addr) (most : Int) (L : List Pr) (m : Nat) (B : Nat → Prop) (v : Value) (n : Nat) (ks : List Px) (W : World) : Prop where
  o : One TR w p most L m B W
  a : OwnX W w.heap.size v n ks
  d : ∀ k, B k → v.ownBlock ≠ some k
theorem OneA.later (C : TrieC TR) {w : World} {p : Addr} {most : Int} {L : List Pr} {m : Nat} {B : Nat → Prop} {v : Value} {n : Nat} {ks : List Px} {W W1 : World} (h : OneA TR w p most L m B v n ks W) (hb : Below W.heap.size W W1) : OneA TR w p most L m B v n ks W1 :=
  ⟨h.o.later C hb, h.a.same fun g hg => hb.block g (h.a.own_lt hg), h.d⟩
theorem OneA.step {w : World} {p : Addr} {most : Int} {L L2 : List Pr} {m m2 : Nat} {B : Nat → Prop} {v : Value} {n : Nat} {ks : List Px} {W W1 : World} {x : Int} {e : Ending} (h : OneA TR w p most L m B v n ks W) (hd : DoneT TR W B p most L2 m2 x e W1) : e = .returned (.int .i64 x) ∧ ∃ B1, OneA TR w p most L2 m2 B1 v n ks W1 := by
  have hd' := hd
  obtain ⟨B1, rfl, h1, h2, h3⟩ := hd
  refine ⟨rfl, B1, ⟨h1, fun k hk => ?_, h.o.b.trans (h3.below (fun i _ hi => h.o.d i hi) h.o.b.size)⟩, h.a.same fun g hg => h3.block g (h.a.own_lt hg) fun hb => h.d g hb hg, fun k hk hg => ?_⟩
  · rcases h2 k hk with hk | hk
    · exact h.o.d k hk
    · exact Nat.le_trans h.o.b.size hk
  · rcases h2 k hk with hk | hk
    · exact h.d k hk hg
    · have := h.a.own_lt hg; omega
theorem OneA.mk' (C : TrieC TR) {w : World} {p : Addr} {most : Int} {L : List Pr} {m : Nat} {B : Nat → Prop} {W W1 : World} {v : Value} {n : Nat} {ks : List Px} (h : One TR w p most L m B W) (hb : Below W.heap.size W W1) (own : OwnX W1 W.heap.size v n ks) : OneA TR w p most L m B v n ks W1 := by
  refine ⟨h.later C hb, ⟨own.1, ?_⟩, fun k hk hg => ?_⟩
  · rcases own.2 with hn | ⟨g, cap, cur, hv, hbg, r⟩
    · exact .inl hn
    · exact .inr ⟨g, cap, cur, hv, Nat.le_trans h.b.size hbg, r⟩
  · have h1 := C.lt h.t k hk
    have h2 := own.lt k hg
    omega
set_option maxRecDepth 100000 in
set_option maxHeartbeats 4000000 in
theorem law_empty (C : TrieC TR) (most : Int) (ad : Option Addr) (n cap : Nat) (cs : List Cl) (x : Int) (w : World) (hm0 : -9223372036854775808 ≤ most) (hm1 : most ≤ 9223372036854775807) (hr : RowC w ad n cs) (x0 : 0 ≤ x) (x1 : x < 4294967296) :
    Calls Try.prog 8 #[.int .i64 most, .slice ad n cap, .int .u32 x] w fun e w' => e = .returned (.bool true) ∧ Below w.heap.size w w' := by
  have HC : Hid (TrieC TR) := C
  have HR : Hid (RowC w ad n cs) := hr
  clear C hr
  by_cases hn : n ≤ 200
  case neg =>
    have hn' : (200 : Int) < (n : Int) := by omega
    go_enter Try.func8, Try.ntmps8
    go_wp2_with (first
      | (go_at_call 9; refine (awake_any HC.out _).mono ?_; rintro e W1 ⟨rfl, hb1⟩)
      | (go_at_call 10; refine (HC.out.new most _ hm0 hm1).mono ?_; rintro e W2 ⟨p, B, rfl, T2, hB2, hb2⟩; have he : ∀ W : World, (binOp .eql 24 (.pointer (some p)) (.pointer none)).run Try.prog W = .ok (.bool false) W := (fun _ => rfl); have he' : ∀ W : World, (binOp .neq 24 (.pointer (some p)) (.pointer none)).run Try.prog W = .ok (.bool true) W := (fun _ => rfl)))
    go_ret
    exact ⟨rfl, stp hb1 hb2⟩
  have hn' : ¬ (200 : Int) < (n : Int) := by omega
  by_cases h1 : most < 1
  · go_enter Try.func8, Try.ntmps8
    go_wp2_with (first
      | (go_at_call 9; refine (awake_any HC.out _).mono ?_; rintro e W1 ⟨rfl, hb1⟩)
      | (go_at_call 10; refine (HC.out.new most _ hm0 hm1).mono ?_; rintro e W2 ⟨p, B, rfl, T2, hB2, hb2⟩; have he : ∀ W : World, (binOp .eql 24 (.pointer (some p)) (.pointer none)).run Try.prog W = .ok (.bool false) W := (fun _ => rfl); have he' : ∀ W : World, (binOp .neq 24 (.pointer (some p)) (.pointer none)).run Try.prog W = .ok (.bool true) W := (fun _ => rfl)))
    go_ret
    exact ⟨rfl, stp hb1 hb2⟩
  go_enter Try.func8, Try.ntmps8
  go_wp2_with (first
    | (go_at_call 9; refine (awake_any HC.out _).mono ?_; rintro e W1 ⟨rfl, hb1⟩)
    | (go_at_call 10; refine (HC.out.new most _ hm0 hm1).mono ?_; rintro e W2 ⟨p, B, rfl, T2, hB2, hb2⟩; have he : ∀ W : World, (binOp .eql 24 (.pointer (some p)) (.pointer none)).run Try.prog W = .ok (.bool false) W := (fun _ => rfl)))
  have hnew : One TR w p most [] 0 B W2 := ⟨T2, fun k hk => Nat.le_trans hb1.size (hB2 k hk), stp hb1 hb2⟩
  clear T2 hB2 hb1 hb2 he
  go_loopw [9] (fun i_ W => ∃ (j : Nat) (L : List Pr) (B : Nat → Prop), j ≤ n ∧ i_ = .int .i64 j ∧ Hid (One TR w p most L j B W)) (fun i_ _ => n - (intOf i_).toNat)
  case atStart => exact ⟨0, [], B, Nat.zero_le _, rfl, hnew⟩
  case round =>
    clear hnew
    obtain ⟨j, L, B, hj, rfl, HB⟩ := hrel
    by_cases hlt : j < n
    · have hlt' : (j : Int) < (n : Int) := by omega
      obtain ⟨⟨ck, ca, cl, cn, cx⟩, b, off, he, hok, rfl, q5⟩ := HR.out.at hlt
      have HOK : Hid (Pr.Ok ⟨ca, cl, cn⟩) := ⟨hok.a0, hok.a1, hok.l0, hok.l1, hok.n0, hok.n1⟩
      have HQ : Hid (∀ W, Below w.heap.size w W → _) := fun W hb => (q5.later (W' := W) hb).zz
      obtain ⟨-, d1, d2, d3, -⟩ := HQ.out wr HB.out.b
      clear hok q5 he
      go_wp2
      go_region_held3 (fun w' => w'.cell? ⟨b, off + j * 5 + 1, none⟩ = some (.int .u32 ca) ∧ w'.cell? ⟨b, off + j * 5 + 2, none⟩ = some (.int .i64 cl) ∧ w'.cell? ⟨b, off + j * 5 + 3, none⟩ = some (.int .i64 cn)) (first | exact ⟨d1, d2, d3⟩ | exact ⟨e1, e2, e3⟩)
        ((go_at_call 11; refine (HC.out.put ca cl cn (HB.out.later HC.out (Below.refl _ _).drew).t (by omega) HOK.out).mono ?_; intro e W1 hd; obtain ⟨rfl, B1, hB1⟩ := (HB.out.later HC.out (Below.refl _ _).drew).step hd; obtain ⟨-, e1, e2, e3, -⟩ := HQ.out W1 hB1.b))
      all_goals
        go_wp2
        go_roundw
        case rel => exact ⟨j + 1, _, B1, by omega, by go_num, hB1⟩
        case measure => simp [intOf]; omega
    · have hlt' : ¬ (j : Int) < (n : Int) := by omega
      obtain rfl : j = n := by omega
      obtain ⟨hg, hlen⟩ := HC.out.good HB.out.t
      have HG : Hid (GoodP L) := hg
      have HLen : Hid (L.length ≤ j) := hlen
      clear hg hlen
      go_wp2_with (go_at_call 20; refine (HC.out.all HB.out.t (by omega)).mono ?_; rintro e W1 ⟨a1, n1, c1, rfl, own1, hb1⟩; have hA1 := OneA.mk' HC.out HB.out hb1 own1)
      have hn1 : n1 = L.length := by rw [← own1.len, List.length_map]
      have HN1 : Hid (n1 = L.length) := hn1
      have hn1' : n1 ≤ 200 := by have := HLen.out; omega
      clear own1 hb1 hn1
      go_loopw [11] (fun i_ W => ∃ (q : Nat) (B : Nat → Prop), q ≤ n1 ∧ i_ = .int .i64 q ∧ Hid (OneA TR w p most (L.drop q) (j + q) B (.slice a1 n1 c1) n1 (L.map keyX) W)) (fun i_ _ => n1 - (intOf i_).toNat)
      case atStart => exact ⟨0, B, Nat.zero_le _, rfl, hA1⟩
      case round =>
        clear hA1
        obtain ⟨q, B, hq, rfl, HA⟩ := hrel
        by_cases hlq : q < n1
        · have hlq' : (q : Int) < (n1 : Int) := by omega
          obtain ⟨⟨xa, xl⟩, b, off, he, hok, rfl, x2⟩ := (HA.out.a.row (keys_ok HG.out)).at hlq
          have hqL : q < L.length := by rw [← HN1.out]; exact hlq
          have hdrop : L.drop q = L[q] :: L.drop (q + 1) := List.drop_eq_getElem_cons hqL
          rw [List.getElem?_map, List.getElem?_eq_getElem hqL] at he
          simp only [Option.map_some, Option.some.injEq, keyX, Px.mk.injEq] at he
          have HT : Hid (takeX (L.drop q) xa xl = 0 ∧ takeL (L.drop q) xa xl = L.drop (q + 1)) := by
            unfold Hid; rw [hdrop, ← he.1, ← he.2]; exact take_first _ _
          have HOX : Hid (Px.Ok ⟨xa, xl⟩) := hok
          obtain ⟨d0, d1⟩ := x2
          simp only at d0 d1
          clear hok he hdrop
          go_wp2_with (go_at_call 13; refine (HC.out.take xa xl HA.out.o.t (by omega) HOX.out).mono ?_; intro e W2 hd; rw [HT.out.1, HT.out.2] at hd; obtain ⟨rfl, B2, hA2⟩ := HA.out.step hd)
          go_roundw
          case rel => exact ⟨q + 1, B2, by omega, by go_num, hA2⟩
          case measure => simp [intOf]; omega
        · have hlq' : ¬ (q : Int) < (n1 : Int) := by omega
          obtain rfl : q = n1 := by omega
          have hnil : L.drop q = [] := List.drop_eq_nil_of_le (by rw [HN1.out]; exact Nat.le_refl _)
          rw [hnil] at HA
          have HF : Hid (fndA x [] = 0 ∧ fndL x [] = 0 ∧ fndN x [] = 0 ∧ fndB x [] = false) := ⟨rfl, rfl, rfl, rfl⟩
          have HX : Hid (putX most [] 0 0 = 0) := put_empty (by omega)
          clear hnil
          go_wp2_with (first
            | (go_at_call 17; refine (HC.out.find x HA.out.o.t (by omega) x0 x1).mono ?_; rw [HF.out.1, HF.out.2.1, HF.out.2.2.1, HF.out.2.2.2]; rintro e W2 ⟨rfl, hb2⟩; have hB2 := (HA.out.o.later HC.out hb2).later HC.out (below1 _ (objX 0 0)))
            | (go_at_call 21; refine (HC.out.len hB2.t (by omega)).mono ?_; rintro e W3 ⟨rfl, hb3⟩; have hB3 := hB2.later HC.out hb3)
            | (go_at_call 20; refine (HC.out.all hB3.t (by omega)).mono ?_; rintro e W4 ⟨a4, n4, c4, rfl, own4, hb4⟩; have hB4 := hB3.later HC.out hb4; have hn4 : 0 = n4 := own4.len; subst hn4)
            | (go_at_call 11; refine (HC.out.put 0 0 1 hB4.t (by omega) (root_ok (by decide) (by decide))).mono ?_; intro e W5 hd; obtain ⟨rfl, B5, hB5⟩ := hB4.step hd; rw [HX.out]))
          go_ret
          exact ⟨rfl, hB5.b⟩
end
end Go.Proofs.Ytifokdebocgaiaa
