/- The law TimersDo over what is asked of the program's timers. -/
import Derived.Test.YtajpfmnnkglkiaaLawO
import Derived.Deep.Cut
import Derived.Deep.CutRange
import Derived.Deep.CutBlock
namespace Go.Proofs.Ytajpfmnnkglkiaa
open Go.RowKit

theorem fpM_lt {W : World} {N : Nat} {v : Value} {L : List Tm} (h : RefM W N v L) {k : Nat} (hk : fpM N v k) : k < W.heap.size := by
  rcases hk with rfl | hk
  · exact h.lt
  · exact h.own.own_lt hk
theorem refM_new (W : World) : RefM (W.alloc (.cells #[.slice none 0 0] 29)) W.heap.size (.slice none 0 0) [] :=
  ⟨by simp [go_sem], fun o => by simp [go_sem], ownT_nil _ _, (fun _ h => by cases h), by simp⟩
section
variable {TM : World → (Nat → Prop) → Addr → List Tm → Nat → Prop}
/-- The program's timers and the document's, which share no block. -/
structure BothM (TM : World → (Nat → Prop) → Addr → List Tm → Nat → Prop) (w : World) (N : Nat) (p : Addr) (L L' : List Tm) (m : Nat) (B : Nat → Prop) (v : Value) (W : World) : Prop where
  t : TM W B p L m
  r : RefM W N v L'
  d : ∀ k, B k → w.heap.size ≤ k ∧ ¬ fpM N v k
  n : w.heap.size ≤ N
  b : Below w.heap.size w W
variable {w : World} {N : Nat} {p : Addr} {L L' L2 : List Tm} {m m2 : Nat} {B : Nat → Prop} {v : Value} {W W1 : World} {x now : Int} {e : Ending}
theorem BothM.later (C : TimC TM) (h : BothM TM w N p L L' m B v W) (hb : Below W.heap.size W W1) : BothM TM w N p L L' m B v W1 :=
  ⟨C.later h.t hb, h.r.later hb, h.d, h.n, stp h.b hb⟩
theorem BothM.up (C : TimC TM) (h : BothM TM w N p L L' m B v W) : BothM TM w N p L L' (m + 1) B v W := ⟨C.up h.t, h.r, h.d, h.n, h.b⟩
theorem BothM.stepT (h : BothM TM w N p L L' m B v W) (hd : DoneK TM W B p L2 m2 x e W1) :
    e = .returned (.int .i64 x) ∧ ∃ B1, BothM TM w N p L2 L' m2 B1 v W1 := by
  obtain ⟨B1, rfl, h1, h2, h3⟩ := hd
  refine ⟨rfl, B1, h1, h.r.keep h3 (fun k hk hb => (h.d k hb).2 hk), fun k hk => ?_, h.n, h.b.trans (h3.below (fun i _ hi => (h.d i hi).1) h.b.size)⟩
  rcases h2 k hk with hk | hk
  · exact h.d k hk
  · exact ⟨Nat.le_trans h.b.size hk, fun hf => by have := fpM_lt h.r hf; omega⟩
theorem BothM.stepR (C : TimC TM) (h : BothM TM w N p L L' m B v W) (hd : DoneM W N v L2 x e W1) :
    e = .returned (.int .i64 x) ∧ ∃ v1, BothM TM w N p L L2 m B v1 W1 := by
  obtain ⟨v1, rfl, h1, h2, h3⟩ := hd
  refine ⟨rfl, v1, C.keep h.t h3 (fun k hk hf => (h.d k hk).2 hf), h1, fun k hk => ⟨(h.d k hk).1, fun hf => ?_⟩, h.n, h.b.trans (h3.below (fun i _ hi => ?_) h.b.size)⟩
  · rcases hf with rfl | hf
    · exact (h.d k hk).2 (.inl rfl)
    · rcases h2 k hf with hf | hf
      · exact (h.d k hk).2 (.inr hf)
      · have := C.lt h.t k hk; omega
  · rcases hi with rfl | hi
    · exact h.n
    · have := h.r.own.lt i hi; have := h.n; omega
theorem BothM.dueT (h : BothM TM w N p L L' m B v W) (hd : DueK TM W B p L m2 now e W1) :
    ∃ B1 ad k cap, e = .returned (.slice ad k cap) ∧ BothM TM w N p (dueR now L) L' m2 B1 v W1 ∧ OwnT W1 W.heap.size (.slice ad k cap) k (dueL now L) := by
  obtain ⟨B1, ad, k, cap, rfl, own, h1, h2, -, h3⟩ := hd
  refine ⟨B1, ad, k, cap, rfl, ⟨h1, h.r.keep h3 (fun k hk hb => (h.d k hb).2 hk), fun k hk => ?_, h.n, h.b.trans (h3.below (fun i _ hi => (h.d i hi).1) h.b.size)⟩, own⟩
  rcases h2 k hk with hk | hk
  · exact h.d k hk
  · exact ⟨Nat.le_trans h.b.size hk, fun hf => by have := fpM_lt h.r hf; omega⟩
theorem BothM.dueR (C : TimC TM) (h : BothM TM w N p L L' m B v W) (hd : DueM W N v L' now e W1) :
    ∃ v1 ad k cap, e = .returned (.slice ad k cap) ∧ BothM TM w N p L (dueR now L') m B v1 W1 ∧ OwnT W1 W.heap.size (.slice ad k cap) k (dueL now L') ∧ Keep (fpM N v) W W1 := by
  obtain ⟨ad, k, cap, v1, rfl, own, h1, h2, h3⟩ := hd
  refine ⟨v1, ad, k, cap, rfl, ⟨C.keep h.t h3 (fun k hk hf => (h.d k hk).2 hf), h1, fun k hk => ⟨(h.d k hk).1, fun hf => ?_⟩, h.n, h.b.trans (h3.below (fun i _ hi => ?_) h.b.size)⟩, own, h3⟩
  · rcases hf with rfl | hf
    · exact (h.d k hk).2 (.inl rfl)
    · have := h2 k hf; have := C.lt h.t k hk; omega
  · rcases hi with rfl | hi
    · exact h.n
    · have := h.r.own.lt i hi; have := h.n; omega
theorem BothM.new (C : TimC TM) (h : TM W B p [] 0) (hB : ∀ k, B k → w.heap.size ≤ k) (hb : Below w.heap.size w W) : BothM TM w W.heap.size p [] [] 0 B (.slice none 0 0) (W.alloc (.cells #[.slice none 0 0] 29)) :=
  ⟨C.later h (below1 _ _), refM_new W, fun k hk => ⟨hB k hk, fun hf => by
    rcases hf with rfl | hf
    · have := C.lt h _ hk; omega
    · cases hf⟩, hb.size, stp hb (below1 _ _)⟩
end
section
variable {TM : World → (Nat → Prop) → Addr → List Tm → Nat → Prop}
set_option maxRecDepth 100000 in
set_option maxHeartbeats 4000000 in
theorem law_do (C : TimC TM) (ad : Option Addr) (n cap : Nat) (cs : List Op) (w : World) (hr : RowP w ad n cs) :
    Calls Try.prog 3 #[.slice ad n cap] w fun e w' => e = .returned (.bool true) ∧ Below w.heap.size w w' := by
  have HC : Hid (TimC TM) := C
  have HR : Hid (RowP w ad n cs) := hr
  clear C hr
  by_cases hn : n ≤ 400
  case neg =>
    have hn' : (400 : Int) < (n : Int) := by omega
    go_enter Try.func3, Try.ntmps3
    go_wp2_with (first
      | (go_at_call 8; refine (awake_any HC.out _).mono ?_; rintro e W1 ⟨rfl, hb1⟩)
      | (go_at_call 9; refine (HC.out.new _).mono ?_; rintro e W2 ⟨p, B, rfl, T2, hB2, hb2⟩; have he : ∀ W : World, (binOp .eql 24 (.pointer (some p)) (.pointer none)).run Try.prog W = .ok (.bool false) W := run_nilP _; have he' : ∀ W : World, (binOp .neq 24 (.pointer (some p)) (.pointer none)).run Try.prog W = .ok (.bool true) W := run_nilN _))
    go_ret
    exact ⟨rfl, stp hb1 hb2⟩
  have hn' : ¬ (400 : Int) < (n : Int) := by omega
  go_enter Try.func3, Try.ntmps3
  go_wp2_with (first
    | (go_at_call 8; refine (awake_any HC.out _).mono ?_; rintro e W1 ⟨rfl, hb1⟩)
    | (go_at_call 9; refine (HC.out.new _).mono ?_; rintro e W2 ⟨p, B, rfl, T2, hB2, hb2⟩; have hnew := BothM.new (w := w) HC.out T2 (fun k hk => Nat.le_trans hb1.size (hB2 k hk)) (stp hb1 hb2); have he : ∀ W : World, (binOp .eql 24 (.pointer (some p)) (.pointer none)).run Try.prog W = .ok (.bool false) W := run_nilP _; clear T2 hB2 hb1 hb2))
  obtain ⟨N, hN⟩ : ∃ N, N = W2.heap.size := ⟨_, rfl⟩
  rw [← hN] at hnew ⊢
  clear hN he
  go_loopw [6] (fun i_ W => ∃ (j : Nat) (L : List Tm) (B : Nat → Prop) (v : Value), j ≤ n ∧ i_ = .int .i64 j ∧ Hid (BothM TM w N p L L j B v W)) (fun i_ _ => n - (intOf i_).toNat)
  case atStart => exact ⟨0, [], B, _, Nat.zero_le _, rfl, hnew⟩
  case round =>
    clear hnew
    obtain ⟨j, L, B, v, hj, rfl, HB⟩ := hrel
    by_cases hlt : j < n
    · have hlt' : (j : Int) < (n : Int) := by omega
      obtain ⟨⟨ck, ci, ca⟩, b, off, he, hok, rfl, q5⟩ := HR.out.at hlt
      have HOK : Hid (Tm.Ok ⟨ci, ca⟩) := ⟨hok.i0, hok.i1, hok.a0, hok.a1⟩
      have HQ : Hid (∀ W, Below w.heap.size w W → _) := fun W hb => ops_tail (q5.later (W' := W) hb)
      obtain ⟨d0, d1, d2⟩ := HQ.out wr HB.out.b
      have hj400 : j ≤ 400 := by omega
      clear hok q5 he
      have HL256 : Hid (L.length ≤ 256) := (HC.out.good HB.out.t).2.2.2
      have HTm : Hid (Tms (dueL ca L)) := fun p hp => (HC.out.good HB.out.t).2.1 p (((mem_due ca (HC.out.good HB.out.t).1.s).1 p).1 hp).1
      go_upto_block 2 with fail
      go_cut [7] from 36 to 142 (fun s7 wx => s7 = .bool true ∧ ∃ L2 B2 v2, BothM TM w N p L2 L2 (j + 1) B2 v2 wx)
      case first =>
        by_cases hk0 : ck = 0
        · subst hk0
          go_wp2
          go_region_held3 (fun w' => w'.cell? ⟨b, off + j * 3 + 1, none⟩ = some (.int .i64 ci) ∧ w'.cell? ⟨b, off + j * 3 + 2, none⟩ = some (.int .i64 ca)) (first | exact ⟨d1, d2⟩ | exact ⟨e1, e2⟩ | exact ⟨f1, f2⟩)
            ((first
              | (go_at_call 10; refine (HC.out.set ci ca (HB.out.later HC.out (Below.refl _ _).drew).t (by omega) HOK.out).mono ?_; intro e W1 hd; obtain ⟨rfl, B1, hB1⟩ := (HB.out.later HC.out (Below.refl _ _).drew).stepT hd; obtain ⟨-, e1, e2⟩ := HQ.out W1 hB1.b)
              | (go_at_call 11; refine (refSet_any N v L ci ca _ hB1.r (Nat.le_trans HL256.out (by decide)) HOK.out).mono ?_; intro e W2 hd2; obtain ⟨rfl, v2, hB2⟩ := hB1.stepR HC.out hd2; obtain ⟨-, f1, f2⟩ := HQ.out W2 hB2.b)))
          all_goals
            go_wp2
            go_meet
            exact ⟨rfl, _, _, _, hB2⟩
        have hk0' : (ck == 0) = false := by simpa using hk0
        by_cases hk1 : ck = 1
        · subst hk1
          go_wp2
          go_region_held3 (fun w' => w'.cell? ⟨b, off + j * 3 + 1, none⟩ = some (.int .i64 ci)) (first | exact d1 | exact e1 | exact f1)
            ((first
              | (go_at_call 12; refine (HC.out.stop ci (HB.out.later HC.out (Below.refl _ _).drew).t (by omega) HOK.out.i0 HOK.out.i1).mono ?_; intro e W1 hd; obtain ⟨rfl, B1, hB1⟩ := (HB.out.later HC.out (Below.refl _ _).drew).stepT hd; obtain ⟨-, e1, e2⟩ := HQ.out W1 hB1.b)
              | (go_at_call 13; refine (refStop_any N v L ci _ hB1.r (Nat.le_trans HL256.out (by decide))).mono ?_; intro e W2 hd2; obtain ⟨rfl, v2, hB2⟩ := hB1.stepR HC.out hd2; obtain ⟨-, f1, f2⟩ := HQ.out W2 hB2.b)))
          all_goals
            go_wp2
            go_meet
            exact ⟨rfl, _, _, _, hB2⟩
        have hk1' : (ck == 1) = false := by simpa using hk1
        by_cases hk2 : ck = 2
        · subst hk2
          go_wp2
          go_region_held3 (fun w' => w'.cell? ⟨b, off + j * 3 + 2, none⟩ = some (.int .i64 ca)) (first | exact d2 | exact e2 | exact f2 | exact g2)
            ((first
              | (go_at_call 15; refine (HC.out.due ca (HB.out.later HC.out (Below.refl _ _).drew).t (by omega) HOK.out.a0 HOK.out.a1).mono ?_; intro e W1 hd; obtain ⟨B1, ad1, k1, cap1, rfl, hB1, own1⟩ := (HB.out.later HC.out (Below.refl _ _).drew).dueT hd; obtain ⟨-, e1, e2⟩ := HQ.out W1 hB1.b)
              | (go_at_call 16; refine (refDue_any N v L ca _ hB1.r (Nat.le_trans HL256.out (by decide))).mono ?_; intro e W2 hd2; obtain ⟨v2, ad2, k2, cap2, rfl, hB2, own2, kp2⟩ := hB1.dueR HC.out hd2; obtain ⟨-, f1, f2⟩ := HQ.out W2 hB2.b; have hk12 : k2 = k1 := own2.len.symm.trans own1.len; subst hk12; have own3 := own1.same (W' := W2) (fun g hg => kp2.block g (own1.own_lt hg) (fun hf => absurd (fpM_lt HB.out.r hf) (Nat.not_lt.2 (own1.lt g hg)))))
              | (go_at_call 14; refine (same_any _ _ _ _ _ (dueL ca L) _ (own3.row HTm.out) (own2.row HTm.out) (by have h1 := own2.len; have h2 := due_len ca L; have h3 := HL256.out; omega)).mono ?_; rintro e W3 ⟨rfl, hb3⟩; have hB3 := hB2.later HC.out hb3; obtain ⟨-, g1, g2⟩ := HQ.out W3 hB3.b)))
          all_goals
            go_wp2
            go_meet
            exact ⟨rfl, _, _, _, hB3⟩
        have hk2' : (ck == 2) = false := by simpa using hk2
        go_wp2
        go_meet
        exact ⟨rfl, _, _, _, HB.out.up HC.out⟩
      case rest =>
        obtain ⟨rfl, L2, B2, v2, hB2⟩ := hcut
        have HB2 : Hid (BothM TM w N p L2 L2 (j + 1) B2 v2 wc) := hB2
        obtain ⟨ad2, cp2, rfl⟩ := hB2.r.own.shape
        obtain ⟨n2, hn2⟩ : ∃ n2, L2.length = n2 := ⟨_, rfl⟩
        have HN2 : Hid (L2.length = n2) := hn2
        have hn256 : n2 ≤ 256 := by rw [← hn2]; exact (HC.out.good hB2.t).2.2.2
        rw [hn2] at HB2
        clear hB2 hn2 d0 d1 d2 HB HL256 HTm
        obtain ⟨nx, hnx⟩ : ∃ x, nextT L2 = x := ⟨_, rfl⟩
        obtain ⟨nb, hnb⟩ : ∃ x, nextB L2 = x := ⟨_, rfl⟩
        have HNx : Hid (nextT L2 = nx ∧ nextB L2 = nb) := ⟨hnx, hnb⟩
        clear hnx hnb
        go_wp2_with (go_at_call 17; refine (HC.out.next HB2.out.t (by omega)).mono ?_; rw [HNx.out.1, HNx.out.2]; rintro e W3 ⟨rfl, hb3⟩; have HB3 : Hid (_) := HB2.out.later HC.out hb3)
        have hlen : Hid (∀ W, Below W3.heap.size W3 W → Calls Try.prog 18 #[.pointer (some p)] W fun e w' => e = .returned (.int .i64 (n2 : Int)) ∧ Below W.heap.size W w') := fun W hb => by
          have h := HC.out.len (HB3.out.later HC.out hb).t (by omega)
          rw [HN2.out] at h
          exact h
        have z0 := cell_regrown HB3.out.r.1
        have row := HB3.out.r.own
        rw [HN2.out] at row
        cases L2 with
        | nil =>
          obtain rfl : n2 = 0 := HN2.out.symm
          obtain rfl : nx = 0 := HNx.out.1.symm
          obtain rfl : nb = false := HNx.out.2.symm
          clear row hb3
          refine wp_region_quiet_below (by kernel_rfl) (by kernel_rfl) ?_
          repeat (go_big_quiet_step ((go_at_call 18; exact Calls.regrown_of (hlen.out _ (below_regrown _ _ _)))))
          refine wpQuiet_nil ?_
          intro _ hw'
          obtain ⟨⟨dq, osq⟩, hw''⟩ := hw'
          subst hw''
          go_wp2
          go_roundw
          case rel => exact ⟨j + 1, _, B2, _, by omega, by go_num, HB3.out.later HC.out (below_regrown _ dq osq)⟩
          case measure => simp [intOf]; omega
        | cons y L2 =>
          obtain ⟨yi, ya⟩ := y
          obtain rfl : nx = ya := HNx.out.1.symm
          obtain rfl : nb = true := HNx.out.2.symm
          have h0n : 0 < n2 := by rw [← HN2.out]; simp
          obtain ⟨g, rfl, hq⟩ := row_of row HB3.out.r.ok h0n
          obtain ⟨y0, y1⟩ := hq 0 _ rfl
          simp only [Nat.zero_mul, Nat.zero_add] at y0 y1
          have z1 := cell_regrown y1
          have eqA : (nx != nx) = false := by simp
          have h0i : (0 : Int) < (n2 : Int) := by omega
          clear row hb3 hq y0 y1
          refine wp_region_quiet_below (by kernel_rfl) (by kernel_rfl) ?_
          repeat (go_big_quiet_step ((go_at_call 18; exact Calls.regrown_of (hlen.out _ (below_regrown _ _ _)))))
          refine wpQuiet_nil ?_
          intro _ hw'
          obtain ⟨⟨dq, osq⟩, hw''⟩ := hw'
          subst hw''
          go_wp2
          go_roundw
          case rel => exact ⟨j + 1, _, B2, _, by omega, by go_num, HB3.out.later HC.out (below_regrown _ dq osq)⟩
          case measure => simp [intOf]; omega
    · have hlt' : ¬ (j : Int) < (n : Int) := by omega
      go_wp2
      go_ret
      exact ⟨rfl, HB.out.b⟩
end
end Go.Proofs.Ytajpfmnnkglkiaa
