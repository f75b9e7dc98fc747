/- The law NeighDoes over what is asked of the program's neighbour. -/
import Derived.Test.YtenkghcdhanciaaLawA
namespace Go.Proofs.Ytenkghcdhanciaa
open Go.RowKit

theorem fpN_lt {W : World} {N : Nat} {v : Value} {s : Nh} (h : RefN W N v s) {k : Nat} (hk : fpN N v k) : k < W.heap.size := by
  rcases hk with rfl | hk
  · exact h.lt
  · obtain ⟨g, off, cap, rfl, -, h2, -⟩ := h.row
    simp only [Value.ownBlock, Option.some.injEq] at hk
    omega
section
variable {TM : World → (Nat → Prop) → Addr → Nh → Prop}
/-- The program's neighbour and the document's, which share no block. -/
structure BothG (TM : World → (Nat → Prop) → Addr → Nh → Prop) (w : World) (N : Nat) (p : Addr) (s s' : Nh) (B : Nat → Prop) (v : Value) (W : World) : Prop where
  t : TM W B p s
  r : RefN W N v s'
  d : ∀ k, B k → w.heap.size ≤ k ∧ ¬ fpN N v k
  n : w.heap.size ≤ N
  b : Below w.heap.size w W
variable {w : World} {N : Nat} {p : Addr} {s s' s2 : Nh} {B : Nat → Prop} {v : Value} {W W1 : World} {e : Ending}
theorem BothG.later (C : NegC TM) (h : BothG TM w N p s s' B v W) (hb : Below W.heap.size W W1) : BothG TM w N p s s' B v W1 :=
  ⟨C.later h.t hb, h.r.later hb, h.d, h.n, stp h.b hb⟩
theorem BothG.stepT (h : BothG TM w N p s s' B v W) (hd : DoneG TM W B p s2 e W1) :
    e = .returned (.tuple #[]) ∧ ∃ B1, BothG TM w N p s2 s' B1 v W1 := by
  obtain ⟨B1, rfl, h1, h2, h3⟩ := hd
  refine ⟨rfl, B1, h1, h.r.keep h3 (fun k hk hb => (h.d k hb).2 hk), fun k hk => ?_, h.n, h.b.trans (h3.below (fun i _ hi => (h.d i hi).1) h.b.size)⟩
  rcases h2 k hk with hk | hk
  · exact h.d k hk
  · exact ⟨Nat.le_trans h.b.size hk, fun hf => by have := fpN_lt h.r hf; omega⟩
theorem BothG.stepR (C : NegC TM) (h : BothG TM w N p s s' B v W) (hd : DoneN W N v s2 e W1) :
    e = .returned (.tuple #[]) ∧ ∃ v1, BothG TM w N p s s2 B v1 W1 := by
  obtain ⟨v1, rfl, h1, h2, h3⟩ := hd
  refine ⟨rfl, v1, C.keep h.t h3 (fun k hk hf => (h.d k hk).2 (.inl hf)), h1, fun k hk => ⟨(h.d k hk).1, fun hf => ?_⟩, h.n, h.b.trans (h3.below (fun i _ hi => by rw [hi]; exact h.n) h.b.size)⟩
  rcases hf with rfl | hf
  · exact (h.d k hk).2 (.inl rfl)
  · rcases h2 k hf with hf | hf
    · exact (h.d k hk).2 (.inr hf)
    · have := C.lt h.t k hk; omega
theorem BothG.new (C : NegC TM) (h : TM W B p newN) (hB : ∀ k, B k → w.heap.size ≤ k) (hb : Below w.heap.size w W) (hr : RefN W1 (W.heap.size + 1) (.slice (some ⟨W.heap.size, 0, none⟩) 16 16) newN) (hb1 : Below W.heap.size W W1) :
    BothG TM w (W.heap.size + 1) p newN newN B (.slice (some ⟨W.heap.size, 0, none⟩) 16 16) W1 :=
  ⟨C.later h hb1, hr, fun k hk => ⟨hB k hk, fun hf => by
    have := C.lt h _ hk
    rcases hf with rfl | hf
    · omega
    · simp only [Value.ownBlock, Option.some.injEq] at hf; omega⟩, by have := hb.size; omega, stp hb hb1⟩
end
section
variable {TM : World → (Nat → Prop) → Addr → Nh → Prop}
set_option maxRecDepth 100000 in
set_option maxHeartbeats 4000000 in
theorem law_do (C : NegC TM) (ad : Option Addr) (n cap : Nat) (cs : List Op) (w : World) (hr : RowP w ad n cs) :
    Calls Try.prog 3 #[.slice ad n cap] w fun e w' => e = .returned (.bool true) ∧ Below w.heap.size w w' := by
  have HC : Hid (NegC TM) := C
  have HR : Hid (RowP w ad n cs) := hr
  clear C hr
  by_cases hn : n ≤ 200
  case neg =>
    have hn' : (200 : Int) < (n : Int) := by omega
    go_enter Try.func3, Try.ntmps3
    go_wp2_with (first
      | (go_at_call 9; refine (awake_any HC.out _).mono ?_; rintro e W1 ⟨rfl, hb1⟩)
      | (go_at_call 10; refine (HC.out.new _).mono ?_; rintro e W2 ⟨p, B, rfl, T2, hB2, hb2⟩; have he : ∀ W : World, (binOp .eql 24 (.pointer (some p)) (.pointer none)).run Try.prog W = .ok (.bool false) W := run_nilP _; have he' : ∀ W : World, (binOp .neq 24 (.pointer (some p)) (.pointer none)).run Try.prog W = .ok (.bool true) W := run_nilN _))
    go_ret
    exact ⟨rfl, stp hb1 hb2⟩
  have hn' : ¬ (200 : Int) < (n : Int) := by omega
  go_enter Try.func3, Try.ntmps3
  go_wp2_with (first
    | (go_at_call 9; refine (awake_any HC.out _).mono ?_; rintro e W1 ⟨rfl, hb1⟩)
    | (go_at_call 10; refine (HC.out.new _).mono ?_; rintro e W2 ⟨p, B, rfl, T2, hB2, hb2⟩; have he : ∀ W : World, (binOp .eql 24 (.pointer (some p)) (.pointer none)).run Try.prog W = .ok (.bool false) W := run_nilP _)
    | (go_at_call 11; refine (refNew_any _).mono ?_; rintro e W3 ⟨rfl, hr3, hb3⟩; have hnew := BothG.new (w := w) HC.out T2 (fun k hk => Nat.le_trans hb1.size (hB2 k hk)) (stp hb1 hb2) hr3 hb3; clear hr3 T2 hB2 hb1 hb3))
  obtain ⟨N, hN⟩ : ∃ N, N = W2.heap.size + 1 := ⟨_, rfl⟩
  rw [← hN] at hnew ⊢
  clear he
  go_loopw [6] (fun i_ W => ∃ (j : Nat) (s : Nh) (B : Nat → Prop) (v : Value), j ≤ n ∧ i_ = .int .i64 j ∧ Hid (BothG TM w N p s s B v W)) (fun i_ _ => n - (intOf i_).toNat)
  case atStart => exact ⟨0, _, B, _, Nat.zero_le _, rfl, hnew⟩
  case round =>
    clear hnew hN hb2
    obtain ⟨j, s, B, v, hj, rfl, HB⟩ := hrel
    by_cases hlt : j < n
    · have hlt' : (j : Int) < (n : Int) := by omega
      obtain ⟨⟨ck, ca⟩, b, off, he, hok, rfl, q5⟩ := HR.out.at hlt
      have HOK : Hid (-9223372036854775808 ≤ ca ∧ ca ≤ 9223372036854775807) := ⟨hok.a0, hok.a1⟩
      have HQ5 : Hid (∀ W, Below w.heap.size w W → _) := fun W hb => ops_tail (q5.later (W' := W) hb)
      obtain ⟨d0, d1⟩ := HQ5.out wr HB.out.b
      obtain ⟨q, hq⟩ : ∃ q, ca % 65536 = q := ⟨_, rfl⟩
      have hw : IntKind.u16.wrap ca = q := by rw [u16_wrap]; exact hq
      have HQ : Hid (0 ≤ q ∧ q < 65536) := by unfold Hid; omega
      clear hok q5 he hq
      have HE : Hid (∀ (x : Int) (y : Int), x = y → (x != y) = false) := fun x y h => by simp [h]
      have hcase : ck = 0 ∨ ck = 1 ∨ ck = 2 ∨ (ck == 0) = false ∧ (ck == 1) = false ∧ (ck == 2) = false := by
        by_cases h0 : ck = 0
        · exact .inl h0
        by_cases h1 : ck = 1
        · exact .inr (.inl h1)
        by_cases h2 : ck = 2
        · exact .inr (.inr (.inl h2))
        exact .inr (.inr (.inr ⟨by simpa using h0, by simpa using h1, by simpa using h2⟩))
      rcases hcase with rfl | rfl | rfl | ⟨k0, k1, k2⟩
      · go_wp2_with (first
          | (go_at_call 12; refine (HC.out.hello q HB.out.t HQ.out.1 HQ.out.2).mono ?_; intro e V1 hd; obtain ⟨rfl, B1, hB1⟩ := HB.out.stepT hd; clear hd; obtain ⟨d0, d1⟩ := HQ5.out V1 hB1.b)
          | (go_at_call 13; refine (refHello_any N v s q _ hB1.r).mono ?_; intro e V2 hd; obtain ⟨rfl, v2, hcur⟩ := hB1.stepR HC.out hd; clear hd)
          | (go_at_call 18; refine (HC.out.hist hcur.t).mono ?_; rintro e V ⟨rfl, hb⟩; have hcur := hcur.later HC.out hb; clear hb)
          | (go_at_call 19; refine (refHistory_any _ _ _ _ hcur.r).mono ?_; rintro e V ⟨rfl, hb⟩; have hcur := hcur.later HC.out hb; clear hb)
          | (go_at_call 20; refine (HC.out.rx hcur.t).mono ?_; rintro e V ⟨rfl, hb⟩; have hcur := hcur.later HC.out hb; clear hb)
          | (go_at_call 21; refine (refRx_any _ _ _ _ hcur.r).mono ?_; rintro e V ⟨rfl, hb⟩; have hcur := hcur.later HC.out hb; clear hb)
          | (go_at_call 22; refine (HC.out.cost hcur.t).mono ?_; rintro e V ⟨rfl, hb⟩; have hcur := hcur.later HC.out hb; clear hb)
          | (go_at_call 23; refine (refCost_any _ _ _ _ hcur.r).mono ?_; rintro e V ⟨rfl, hb⟩; have hcur := hcur.later HC.out hb; clear hb))
        go_roundw
        case rel => exact ⟨j + 1, _, B1, v2, by omega, by go_num, hcur⟩
        case measure => simp [intOf]; omega
      · go_wp2_with (first
          | (go_at_call 14; refine (HC.out.miss HB.out.t).mono ?_; intro e V1 hd; obtain ⟨rfl, B1, hB1⟩ := HB.out.stepT hd; clear hd)
          | (go_at_call 15; refine (refMiss_any N v s _ hB1.r).mono ?_; intro e V2 hd; obtain ⟨rfl, v2, hcur⟩ := hB1.stepR HC.out hd; clear hd)
          | (go_at_call 18; refine (HC.out.hist hcur.t).mono ?_; rintro e V ⟨rfl, hb⟩; have hcur := hcur.later HC.out hb; clear hb)
          | (go_at_call 19; refine (refHistory_any _ _ _ _ hcur.r).mono ?_; rintro e V ⟨rfl, hb⟩; have hcur := hcur.later HC.out hb; clear hb)
          | (go_at_call 20; refine (HC.out.rx hcur.t).mono ?_; rintro e V ⟨rfl, hb⟩; have hcur := hcur.later HC.out hb; clear hb)
          | (go_at_call 21; refine (refRx_any _ _ _ _ hcur.r).mono ?_; rintro e V ⟨rfl, hb⟩; have hcur := hcur.later HC.out hb; clear hb)
          | (go_at_call 22; refine (HC.out.cost hcur.t).mono ?_; rintro e V ⟨rfl, hb⟩; have hcur := hcur.later HC.out hb; clear hb)
          | (go_at_call 23; refine (refCost_any _ _ _ _ hcur.r).mono ?_; rintro e V ⟨rfl, hb⟩; have hcur := hcur.later HC.out hb; clear hb))
        go_roundw
        case rel => exact ⟨j + 1, _, B1, v2, by omega, by go_num, hcur⟩
        case measure => simp [intOf]; omega
      · go_wp2_with (first
          | (go_at_call 16; refine (HC.out.ihu ca HB.out.t HOK.out.1 HOK.out.2).mono ?_; intro e V1 hd; obtain ⟨rfl, B1, hB1⟩ := HB.out.stepT hd; clear hd; obtain ⟨d0, d1⟩ := HQ5.out V1 hB1.b)
          | (go_at_call 17; refine (refIhu_any N v s ca _ hB1.r).mono ?_; intro e V2 hd; obtain ⟨rfl, v2, hcur⟩ := hB1.stepR HC.out hd; clear hd)
          | (go_at_call 18; refine (HC.out.hist hcur.t).mono ?_; rintro e V ⟨rfl, hb⟩; have hcur := hcur.later HC.out hb; clear hb)
          | (go_at_call 19; refine (refHistory_any _ _ _ _ hcur.r).mono ?_; rintro e V ⟨rfl, hb⟩; have hcur := hcur.later HC.out hb; clear hb)
          | (go_at_call 20; refine (HC.out.rx hcur.t).mono ?_; rintro e V ⟨rfl, hb⟩; have hcur := hcur.later HC.out hb; clear hb)
          | (go_at_call 21; refine (refRx_any _ _ _ _ hcur.r).mono ?_; rintro e V ⟨rfl, hb⟩; have hcur := hcur.later HC.out hb; clear hb)
          | (go_at_call 22; refine (HC.out.cost hcur.t).mono ?_; rintro e V ⟨rfl, hb⟩; have hcur := hcur.later HC.out hb; clear hb)
          | (go_at_call 23; refine (refCost_any _ _ _ _ hcur.r).mono ?_; rintro e V ⟨rfl, hb⟩; have hcur := hcur.later HC.out hb; clear hb))
        go_roundw
        case rel => exact ⟨j + 1, _, B1, v2, by omega, by go_num, hcur⟩
        case measure => simp [intOf]; omega
      · have hcur := HB.out
        go_wp2_with (first
          | (go_at_call 18; refine (HC.out.hist hcur.t).mono ?_; rintro e V ⟨rfl, hb⟩; have hcur := hcur.later HC.out hb; clear hb)
          | (go_at_call 19; refine (refHistory_any _ _ _ _ hcur.r).mono ?_; rintro e V ⟨rfl, hb⟩; have hcur := hcur.later HC.out hb; clear hb)
          | (go_at_call 20; refine (HC.out.rx hcur.t).mono ?_; rintro e V ⟨rfl, hb⟩; have hcur := hcur.later HC.out hb; clear hb)
          | (go_at_call 21; refine (refRx_any _ _ _ _ hcur.r).mono ?_; rintro e V ⟨rfl, hb⟩; have hcur := hcur.later HC.out hb; clear hb)
          | (go_at_call 22; refine (HC.out.cost hcur.t).mono ?_; rintro e V ⟨rfl, hb⟩; have hcur := hcur.later HC.out hb; clear hb)
          | (go_at_call 23; refine (refCost_any _ _ _ _ hcur.r).mono ?_; rintro e V ⟨rfl, hb⟩; have hcur := hcur.later HC.out hb; clear hb))
        go_roundw
        case rel => exact ⟨j + 1, _, B, v, by omega, by go_num, hcur⟩
        case measure => simp [intOf]; omega
    · have hlt' : ¬ (j : Int) < (n : Int) := by omega
      go_wp2
      go_ret
      exact ⟨rfl, HB.out.b⟩
end
end Go.Proofs.Ytenkghcdhanciaa
