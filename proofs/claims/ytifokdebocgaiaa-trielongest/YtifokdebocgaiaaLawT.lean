/- What is asked of the program's trie; the example, and whether all are the document's, over it. -/
import Derived.Test.YtifokdebocgaiaaTriF
namespace Go.Proofs.Ytifokdebocgaiaa
open Go.RowKit

def keyX (p : Pr) : Px := ⟨p.a, p.l⟩
theorem OwnX.same {W W' : World} {base : Nat} {v : Value} {n : Nat} {L : List Px} (h : OwnX W base v n L) (hb : ∀ g, v.ownBlock = some g → W'.heap[g]? = W.heap[g]?) : OwnX W' base v n L := by
  refine ⟨h.1, ?_⟩
  rcases h.2 with hn | ⟨g, cap, cur, hv, hbg, hg, r⟩
  · exact .inl hn
  · refine .inr ⟨g, cap, cur, hv, hbg, ?_, r⟩
    rw [hb g (by rw [hv]; rfl)]
    exact hg
theorem OwnX.own_lt {W : World} {base : Nat} {v : Value} {n : Nat} {L : List Px} (h : OwnX W base v n L) {g : Nat} (hg : v.ownBlock = some g) : g < W.heap.size := by
  rcases h.2 with ⟨rfl, _⟩ | ⟨g', cap, cur, hv, hbg, hg', r⟩
  · cases hg
  · rw [hv] at hg
    simp [Value.ownBlock] at hg
    subst hg
    exact (Array.getElem?_eq_some_iff.1 hg').1
theorem keys_ok {L : List Pr} (h : GoodP L) : Pxs (L.map keyX) := fun q hq => by
  obtain ⟨p, hp, rfl⟩ := List.mem_map.1 hq
  have hl := may_len (h.m p hp)
  exact ⟨(h.u p hp).1, (h.u p hp).2, by show _ ≤ p.l; omega, by show p.l ≤ _; omega⟩
/-- What a call that changes the program's trie leaves. -/
def DoneT (TR : World → (Nat → Prop) → Addr → Int → List Pr → Nat → Prop) (w : World) (B : Nat → Prop) (p : Addr) (most : Int) (L : List Pr) (m : Nat) (x : Int) (e : Ending) (w' : World) : Prop :=
  ∃ B', e = .returned (.int .i64 x) ∧ TR w' B' p most L m ∧ (∀ k, B' k → B k ∨ w.heap.size ≤ k) ∧ Keep B w w'
/-- The program's trie at p, with the blocks B of its own, has L; m calls have changed it. -/
structure TrieC (TR : World → (Nat → Prop) → Addr → Int → List Pr → Nat → Prop) : Prop where
  keep : ∀ {w w' : World} {B C : Nat → Prop} {p : Addr} {most : Int} {L : List Pr} {m : Nat}, TR w B p most L m → Keep C w w' → (∀ k, B k → ¬ C k) → TR w' B p most L m
  up : ∀ {w : World} {B : Nat → Prop} {p : Addr} {most : Int} {L : List Pr} {m : Nat}, TR w B p most L m → TR w B p most L (m + 1)
  lt : ∀ {w : World} {B : Nat → Prop} {p : Addr} {most : Int} {L : List Pr} {m : Nat}, TR w B p most L m → ∀ k, B k → k < w.heap.size
  good : ∀ {w : World} {B : Nat → Prop} {p : Addr} {most : Int} {L : List Pr} {m : Nat}, TR w B p most L m → GoodP L ∧ L.length ≤ m
  new : ∀ (most : Int) (w : World), -9223372036854775808 ≤ most → most ≤ 9223372036854775807 → Calls Try.prog 10 #[.int .i64 most] w fun e w' => ∃ p B, e = .returned (.pointer (some p)) ∧ TR w' B p most [] 0 ∧ (∀ k, B k → w.heap.size ≤ k) ∧ Below w.heap.size w w'
  put : ∀ {w : World} {B : Nat → Prop} {p : Addr} {most : Int} {L : List Pr} {m : Nat} (a l n : Int), TR w B p most L m → m ≤ 1000 → Pr.Ok ⟨a, l, n⟩ → Calls Try.prog 11 #[.pointer (some p), valX a l, .int .i64 n] w (DoneT TR w B p most (putL most L a l n) (m + 1) (putX most L a l))
  take : ∀ {w : World} {B : Nat → Prop} {p : Addr} {most : Int} {L : List Pr} {m : Nat} (a l : Int), TR w B p most L m → m ≤ 1000 → Px.Ok ⟨a, l⟩ → Calls Try.prog 13 #[.pointer (some p), valX a l] w (DoneT TR w B p most (takeL L a l) (m + 1) (takeX L a l))
  get : ∀ {w : World} {B : Nat → Prop} {p : Addr} {most : Int} {L : List Pr} {m : Nat} (a l : Int), TR w B p most L m → m ≤ 2000 → Px.Ok ⟨a, l⟩ → Calls Try.prog 15 #[.pointer (some p), valX a l] w fun e w' => e = .returned (.tuple #[.int .i64 (getN L a l), .bool (getB L a l)]) ∧ Below w.heap.size w w'
  find : ∀ {w : World} {B : Nat → Prop} {p : Addr} {most : Int} {L : List Pr} {m : Nat} (x : Int), TR w B p most L m → m ≤ 2000 → 0 ≤ x → x < 4294967296 → Calls Try.prog 17 #[.pointer (some p), .int .u32 x] w fun e w' => e = .returned (.tuple #[valX (fndA x L) (fndL x L), .int .i64 (fndN x L), .bool (fndB x L)]) ∧ Below w.heap.size w w'
  all : ∀ {w : World} {B : Nat → Prop} {p : Addr} {most : Int} {L : List Pr} {m : Nat}, TR w B p most L m → m ≤ 2000 → Calls Try.prog 20 #[.pointer (some p)] w fun e w' => ∃ ad n cap, e = .returned (.slice ad n cap) ∧ OwnX w' w.heap.size (.slice ad n cap) n (L.map keyX) ∧ Below w.heap.size w w'
  len : ∀ {w : World} {B : Nat → Prop} {p : Addr} {most : Int} {L : List Pr} {m : Nat}, TR w B p most L m → m ≤ 2000 → Calls Try.prog 21 #[.pointer (some p)] w fun e w' => e = .returned (.int .i64 (L.length : Int)) ∧ Below w.heap.size w w'

section
variable {TR : World → (Nat → Prop) → Addr → Int → List Pr → Nat → Prop}
theorem TrieC.later (C : TrieC TR) {w w' : World} {B : Nat → Prop} {p : Addr} {most : Int} {L : List Pr} {m : Nat} (h : TR w B p most L m) (hb : Below w.heap.size w w') : TR w' B p most L m := C.keep (C := fun _ => False) h (keep_of hb) (fun _ _ h => h)
set_option maxHeartbeats 1000000 in
theorem awake_any (C : TrieC TR) (w : World) : Calls Try.prog 9 #[] w fun e w' => e = .returned (.bool true) ∧ Below w.heap.size w w' := by
  have HC : Hid (TrieC TR) := C
  clear C
  have HL1 : Hid (putL 5 [] 167772160 8 1 = [⟨167772160, 8, 1⟩] ∧ putX 5 [] 167772160 8 = 0) := by unfold Hid; decide
  have HL2 : Hid (putL 5 [⟨167772160, 8, 1⟩] 167837696 16 2 = [⟨167772160, 8, 1⟩, ⟨167837696, 16, 2⟩] ∧ putX 5 [⟨167772160, 8, 1⟩] 167837696 16 = 0) := by unfold Hid; decide
  have HF1 : Hid (fndA 167838211 [⟨167772160, 8, 1⟩, ⟨167837696, 16, 2⟩] = 167837696 ∧ fndL 167838211 [⟨167772160, 8, 1⟩, ⟨167837696, 16, 2⟩] = 16 ∧ fndN 167838211 [⟨167772160, 8, 1⟩, ⟨167837696, 16, 2⟩] = 2 ∧ fndB 167838211 [⟨167772160, 8, 1⟩, ⟨167837696, 16, 2⟩] = true) := by unfold Hid; decide
  have HF2 : Hid (fndA 167903232 [⟨167772160, 8, 1⟩, ⟨167837696, 16, 2⟩] = 167772160 ∧ fndL 167903232 [⟨167772160, 8, 1⟩, ⟨167837696, 16, 2⟩] = 8 ∧ fndN 167903232 [⟨167772160, 8, 1⟩, ⟨167837696, 16, 2⟩] = 1 ∧ fndB 167903232 [⟨167772160, 8, 1⟩, ⟨167837696, 16, 2⟩] = true) := by unfold Hid; decide
  go_enter Try.func9, Try.ntmps9
  go_wp2_with (first
    | (go_at_call 10; refine (HC.out.new 5 _ (by decide) (by decide)).mono ?_; rintro e W1 ⟨p, B, rfl, T1, hB, hb1⟩; have he : ∀ W : World, (binOp .eql 24 (.pointer (some p)) (.pointer none)).run Try.prog W = .ok (.bool false) W := fun _ => rfl)
    | (go_at_call_of 11 (Value.int IntKind.i64 1); refine (HC.out.put 167772160 8 1 T1 (by decide) ⟨by decide, by decide, by decide, by decide, by decide, by decide⟩).mono ?_; rw [HL1.out.1, HL1.out.2]; rintro e W2 ⟨B2, rfl, T2, hB2, K2⟩)
    | (go_at_call_of 11 (Value.int IntKind.i64 2); refine (HC.out.put 167837696 16 2 T2 (by decide) ⟨by decide, by decide, by decide, by decide, by decide, by decide⟩).mono ?_; rw [HL2.out.1, HL2.out.2]; rintro e W3 ⟨B3, rfl, T3, hB3, K3⟩)
    | (go_at_call_of 17 (Value.int IntKind.u32 167838211); refine (HC.out.find 167838211 T3 (by decide) (by decide) (by decide)).mono ?_; rw [HF1.out.1, HF1.out.2.1, HF1.out.2.2.1, HF1.out.2.2.2]; rintro e W4 ⟨rfl, hb4⟩; have T4 := HC.out.later T3 hb4)
    | (go_at_call_of 17 (Value.int IntKind.u32 167903232); refine (HC.out.find 167903232 (HC.out.later T4 (below1 _ _)) (by decide) (by decide) (by decide)).mono ?_; rw [HF2.out.1, HF2.out.2.1, HF2.out.2.2.1, HF2.out.2.2.2]; rintro e W5 ⟨rfl, hb5⟩; have T5 := HC.out.later (HC.out.later T4 (below1 _ (objX 167837696 16))) hb5; obtain ⟨y0, y1⟩ := ((X2.new W4 167837696 16).later hb5).z; have y1 := cell_later (below1 W5 (objX 167772160 8)) y1)
    | (go_at_call 21; refine (HC.out.len (HC.out.later T5 (below1 _ _)) (by decide)).mono ?_; rintro e W6 ⟨rfl, hb6⟩))
  go_ret
  have b2 : Below w.heap.size w W2 := hb1.trans (K2.below (fun i _ h => hB i h) hb1.size)
  have b3 : Below w.heap.size w W3 := b2.trans (K3.below (fun i _ h => by rcases hB2 i h with h | h; exact hB i h; exact Nat.le_trans hb1.size h) b2.size)
  exact ⟨rfl, stp1 (stp1 (stp b3 hb4) hb5) hb6⟩
/-- The same prefixes. -/
theorem allSame_any (ad : Option Addr) (n cap : Nat) (ad' : Option Addr) (n' cap' : Nat) (L : List Pr) (w : World) (h : RowX w ad n (L.map keyX)) (h' : RowQ w ad' n' L) (hn : n' ≤ 3000) :
    Calls Try.prog 19 #[.slice ad n cap, .slice ad' n' cap'] w fun e w' => e = .returned (.bool true) ∧ Below w.heap.size w w' := by
  have hnn : n = n' := by rw [← h.1, ← h'.1, List.length_map]
  subst hnn
  have HX : Hid (RowX w ad n (L.map keyX)) := h
  have HQ : Hid (RowQ w ad' n L) := h'
  clear h h'
  go_enter Try.func19, Try.ntmps19
  go_wp2
  go_loopw [5] (fun i_ W => ∃ (j : Nat), j ≤ n ∧ i_ = .int .i64 j ∧ Below w.heap.size w W) (fun i_ _ => n - (intOf i_).toNat)
  case atStart => exact ⟨0, Nat.zero_le _, rfl, Below.refl _ _⟩
  case round =>
    obtain ⟨j, hj, rfl, hB⟩ := hrel
    by_cases hlt : j < n
    · have hlt' : (j : Int) < (n : Int) := by omega
      obtain ⟨⟨pa, pl, pn⟩, b, off, he, -, rfl, q3⟩ := (HQ.out.later hB).at hlt
      obtain ⟨⟨xa, xl⟩, b', off', he', -, rfl, q2⟩ := (HX.out.later hB).at hlt
      rw [List.getElem?_map, he] at he'
      simp only [Option.map_some, Option.some.injEq, keyX, Px.mk.injEq] at he'
      obtain ⟨rfl, rfl⟩ := he'
      obtain ⟨d0, d1, -⟩ := q3
      obtain ⟨f0, f1⟩ := q2
      simp only at d0 d1 f0 f1
      have hp' := run_neX pa pl pa pl false (by simp)
      clear he
      go_wp2
      go_quiet (fail)
      go_wp2
      go_roundw
      case rel => exact ⟨j + 1, by omega, by go_num, below_drewN hB _⟩
      case measure => simp [intOf]; omega
    · have hlt' : ¬ (j : Int) < (n : Int) := by omega
      go_wp2
      go_ret
      exact ⟨rfl, hB⟩
end
end Go.Proofs.Ytifokdebocgaiaa
