/- The law JournalDoes over what is asked of the program's journal. -/
import Derived.Test.YtofmgkpghkeegaaLawA
import Derived.Test.YtofmgkpghkeegaaRegG
import Derived.Deep.Cut
import Derived.Deep.CutRange
import Derived.Deep.CutBlock
namespace Go.Proofs.Ytofmgkpghkeegaa
open Go.RowKit

/-- A slice value that reads some bytes. -/
def IsB (W : World) (v : Value) (l : List Int) : Prop := ∃ ad k c, v = .slice ad k c ∧ Row8 W ad k l
theorem stays_B (l : List Int) : Stays fun v W => IsB W v l := fun _ _ _ h hb => by obtain ⟨ad, k, c, e, r⟩ := h; exact ⟨ad, k, c, e, r.later hb⟩
theorem ne_u32 (W : World) (u : Int) (x y : Operand) : Sem.run Try.prog (do eqGuard .neq 30 x y (.int .u32 u) (.int .u32 u); binOp .neq 30 (.int .u32 u) (.int .u32 u)) W = .ok (.bool false) W := by
  have e : (u != u) = false := by simp
  go_simp
theorem ne_i64 (W : World) (n : Nat) (x y : Operand) : Sem.run Try.prog (do eqGuard .neq 3 x y (.int .i64 (n : Int)) (.int .i64 (n : Int)); binOp .neq 3 (.int .i64 (n : Int)) (.int .i64 (n : Int))) W = .ok (.bool false) W := by
  have e : ((n : Int) != (n : Int)) = false := by simp
  go_simp
theorem ne_bool (W : World) (v : Bool) (x y : Operand) : Sem.run Try.prog (do eqGuard .neq 4 x y (.bool v) (.bool v); binOp .neq 4 (.bool v) (.bool v)) W = .ok (.bool false) W := by
  cases v <;> go_simp
theorem ne_str (W : World) (S : ByteArray) (x y : Operand) : Sem.run Try.prog (do eqGuard .neq 9 x y (.string S) (.string S); binOp .neq 9 (.string S) (.string S)) W = .ok (.bool false) W := by
  have e : (S.toList == S.toList) = true := by simp
  go_simp
theorem fieldJ (W : World) (N : Nat) : Sem.run Try.prog (Instr.fieldAt 29 (.pointer (some ⟨N, 0, none⟩)) 1) W = .ok (.pointer (some ⟨N, 1, none⟩)) W := by go_simp
theorem loadJ {W : World} {N : Nat} {v : Value} (h : W.cell? ⟨N, 1, none⟩ = some v) : Sem.run Try.prog (Instr.loadAt 27 (.pointer (some ⟨N, 1, none⟩))) W = .ok v W := by go_simp
section
variable {R : Nat → Value → World → Prop} {a : Act} {W : World} {o : Oper} {i : Nat} {Q : Exit → Act → World → Prop}
theorem st_lenF (d : Tmp) (ra : Option Addr) (q c : Nat) (ho : o.op = .call { callee := .builtin .len, args := #[.tmp d], argTypes := #[27] }) (hv : a.tmps[d]?.getD undef = .slice ra q c) (hR : R i (.int .i64 (q : Int)) W) : o.wp Try.prog a W (Nxt R i o a W) Q := by
  refine wp_value (.int .i64 (q : Int)) W ?_ ⟨_, rfl, hR, Below.refl _ _⟩
  unfold execOp
  simp [ho, hv, resolve, invoke, go_sem]
theorem convB {d : Tmp} {l : List Int} {S : ByteArray} (hS : strOfNums l = S) (ho : o.op = .convert 43 9 (.tmp d)) (h : IsB W (a.tmps[d]?.getD undef) l) (hR : R i (.string S) W) : o.wp Try.prog a W (Nxt R i o a W) Q := by
  obtain ⟨ad, k, c, e, r⟩ := h
  have hc := conv_any c r
  rw [hS] at hc
  exact st_conv _ _ _ _ _ ho (ev_tmp e) hc hR
end
def mixL (l : List Oper) (f : Nat → Value) : Nat → List Value → List Value
  | _, [] => []
  | k, x :: xs => (if (l.all fun o => o.dst != some k) = true then x else f k) :: mixL l f (k + 1) xs
theorem mixL_len (l : List Oper) (f : Nat → Value) : ∀ (k : Nat) (xs : List Value), (mixL l f k xs).length = xs.length
  | _, [] => rfl
  | k, x :: xs => by simp [mixL, mixL_len l f (k + 1) xs]
theorem mixL_at (l : List Oper) (f : Nat → Value) : ∀ (k : Nat) (xs : List Value) (i : Nat) (x : Value), xs[i]? = some x → (mixL l f k xs)[i]? = some (if (l.all fun o => o.dst != some (k + i)) = true then x else f (k + i))
  | _, [], i, x, h => by simp at h
  | k, y :: xs, 0, x, h => by simp at h; subst h; simp [mixL]
  | k, y :: xs, i + 1, x, h => by
    have := mixL_at l f (k + 1) xs i x (by simpa using h)
    rw [show k + 1 + i = k + (i + 1) by omega] at this
    simpa [mixL] using this
/-- The frame behind a region, slot by slot. -/
theorem fr_eq {l : List Oper} {a0 a : Act} (h : Fr l a0 a) : a = { tmps := (mixL l (fun k => a.tmps[k]?.getD undef) 0 a0.tmps.toList).toArray, defers := a0.defers } := by
  obtain ⟨h1, h2, h3⟩ := h
  obtain ⟨ts, ds⟩ := a
  simp only at h1 h2 h3
  subst h1
  have key : ts = (mixL l (fun k => ts[k]?.getD undef) 0 a0.tmps.toList).toArray := by
    apply Array.ext_getElem?
    intro i
    by_cases hi : i < ts.size
    · have hi0 : i < a0.tmps.size := by omega
      have h4 := mixL_at l (fun k => ts[k]?.getD undef) 0 a0.tmps.toList i a0.tmps[i] (by simp [hi0])
      rw [Nat.zero_add] at h4
      conv => rhs; rw [List.getElem?_toArray, h4]
      by_cases hc : (l.all fun o => o.dst != some i) = true
      · rw [if_pos hc]
        have := h3 i hc
        simp [hi, hi0] at this
        simp [hi, this]
      · rw [if_neg hc]; simp [hi]
    · conv => rhs; rw [List.getElem?_toArray, List.getElem?_eq_none (by rw [mixL_len]; simp; omega)]
      simp; omega
  exact congrArg (fun t => ({ tmps := t, defers := a0.defers } : Act)) key
theorem fpJ_lt {W : World} {N K : Nat} {room : Int} {v : Value} {L : List Fc} (h : RefJ W N room v L K) {k : Nat} (hk : fpJ N v k) : k < W.heap.size := by
  rcases hk with rfl | hk
  · exact h.lt
  · exact h.own.own_lt hk
theorem refJ_new (W : World) (room : Int) : RefJ (W.alloc (.cells #[.int .i64 room, .slice none 0 0, .int .i64 0] 29)) W.heap.size room (.slice none 0 0) [] 0 :=
  ⟨by simp [go_sem], by simp [go_sem], by simp [go_sem], fun o => by simp [go_sem], ownF_nil _ _, (fun _ h => by cases h), Nat.le_refl _⟩
section
variable {JM : World → (Nat → Prop) → Addr → Int → List Fc → Nat → Nat → Prop}
/-- The program's journal and the document's, which share no block. -/
structure BothJ (JM : World → (Nat → Prop) → Addr → Int → List Fc → Nat → Nat → Prop) (w : World) (N : Nat) (p : Addr) (room : Int) (L : List Fc) (K : Nat) (L' : List Fc) (K' m : Nat) (B : Nat → Prop) (v : Value) (W : World) : Prop where
  t : JM W B p room L K m
  r : RefJ W N room v L' K'
  d : ∀ k, B k → w.heap.size ≤ k ∧ ¬ fpJ N v k
  n : w.heap.size ≤ N
  b : Below w.heap.size w W
variable {w : World} {N K K' K2 : Nat} {p : Addr} {room : Int} {L L' L2 : List Fc} {m m2 : Nat} {B : Nat → Prop} {v : Value} {W W1 : World} {e e0 : Ending}
theorem BothJ.later (C : JouC JM) (h : BothJ JM w N p room L K L' K' m B v W) (hb : Below W.heap.size W W1) : BothJ JM w N p room L K L' K' m B v W1 :=
  ⟨C.later h.t hb, h.r.later hb, h.d, h.n, stp h.b hb⟩
theorem BothJ.up (C : JouC JM) (h : BothJ JM w N p room L K L' K' m B v W) : BothJ JM w N p room L K L' K' (m + 1) B v W := ⟨C.up h.t, h.r, h.d, h.n, h.b⟩
theorem BothJ.stepT (h : BothJ JM w N p room L K L' K' m B v W) (hd : DoneJ JM W B p room L2 K2 m2 e0 e W1) :
    e = e0 ∧ ∃ B1, BothJ JM w N p room L2 K2 L' K' m2 B1 v W1 := by
  obtain ⟨B1, rfl, h1, h2, h3⟩ := hd
  refine ⟨rfl, B1, h1, h.r.keep h3 (fun k hk hb => (h.d k hb).2 hk), fun k hk => ?_, h.n, h.b.trans (h3.below (fun i _ hi => (h.d i hi).1) h.b.size)⟩
  rcases h2 k hk with hk | hk
  · exact h.d k hk
  · exact ⟨Nat.le_trans h.b.size hk, fun hf => by have := fpJ_lt h.r hf; omega⟩
theorem BothJ.stepR (C : JouC JM) (h : BothJ JM w N p room L K L' K' m B v W) (hd : DoneR W N room v L2 K2 e0 e W1) :
    e = e0 ∧ ∃ v1, BothJ JM w N p room L K L2 K2 m B v1 W1 := by
  obtain ⟨v1, rfl, h1, h2, h3⟩ := hd
  refine ⟨rfl, v1, C.keep h.t h3 (fun k hk hf => (h.d k hk).2 hf), h1, fun k hk => ⟨(h.d k hk).1, fun hf => ?_⟩, h.n, h.b.trans (h3.below (fun i _ hi => ?_) h.b.size)⟩
  · rcases hf with rfl | hf
    · exact (h.d k hk).2 (.inl rfl)
    · rcases h2 k hf with hf | hf
      · exact (h.d k hk).2 (.inr hf)
      · have := C.lt h.t k hk; omega
  · rcases hi with rfl | hi
    · exact h.n
    · have := h.r.own.lt i hi; have := h.n; omega
theorem BothJ.new (C : JouC JM) (h : JM W B p room [] 0 0) (hB : ∀ k, B k → w.heap.size ≤ k) (hb : Below w.heap.size w W) : BothJ JM w W.heap.size p room [] 0 [] 0 0 B (.slice none 0 0) (W.alloc (.cells #[.int .i64 room, .slice none 0 0, .int .i64 0] 29)) :=
  ⟨C.later h (below1 _ _), refJ_new W room, fun k hk => ⟨hB k hk, fun hf => by
    rcases hf with rfl | hf
    · have := C.lt h _ hk; omega
    · cases hf⟩, hb.size, stp hb (below1 _ _)⟩
end
section
variable {JM : World → (Nat → Prop) → Addr → Int → List Fc → Nat → Nat → Prop}
set_option maxRecDepth 100000 in
set_option maxHeartbeats 8000000 in
theorem law_does (C : JouC JM) (room : Int) (ad : Option Addr) (n cap : Nat) (cs : List Op) (w : World) (h0 : I64 room) (hr : RowO w ad n cs) :
    Calls Try.prog 3 #[.int .i64 room, .slice ad n cap] w fun e w' => e = .returned (.bool true) ∧ Below w.heap.size w w' := by
  have HC : Hid (JouC JM) := C
  have HR : Hid (RowO w ad n cs) := hr
  have H0 : Hid (I64 room) := h0
  clear C hr h0
  by_cases hn : n ≤ 150
  case neg =>
    have hn' : (150 : Int) < (n : Int) := by omega
    go_enter Try.func3, Try.ntmps3
    go_wp2_with (first
      | (go_at_call 9; refine (awake_any HC.out _).mono ?_; rintro e W1 ⟨rfl, hb1⟩)
      | (go_at_call 10; refine (HC.out.new _ room H0.out).mono ?_; rintro e W2 ⟨p, B, rfl, T2, hB2, hb2⟩; have he : ∀ W : World, (binOp .eql 24 (.pointer (some p)) (.pointer none)).run Try.prog W = .ok (.bool false) W := run_nilP _; have he' : ∀ W : World, (binOp .neq 24 (.pointer (some p)) (.pointer none)).run Try.prog W = .ok (.bool true) W := run_nilN _))
    go_ret
    exact ⟨rfl, stp hb1 hb2⟩
  have hn' : ¬ (150 : Int) < (n : Int) := by omega
  go_enter Try.func3, Try.ntmps3
  go_wp2_with (first
    | (go_at_call 9; refine (awake_any HC.out _).mono ?_; rintro e W1 ⟨rfl, hb1⟩)
    | (go_at_call 10; refine (HC.out.new _ room H0.out).mono ?_; rintro e W2 ⟨p, B, rfl, T2, hB2, hb2⟩; have hnew := BothJ.new (w := w) HC.out T2 (fun k hk => Nat.le_trans hb1.size (hB2 k hk)) (stp hb1 hb2); have he : ∀ W : World, (binOp .eql 24 (.pointer (some p)) (.pointer none)).run Try.prog W = .ok (.bool false) W := run_nilP _; clear T2 hB2 hb1 hb2))
  obtain ⟨N, hN⟩ : ∃ N, N = W2.heap.size := ⟨_, rfl⟩
  rw [← hN] at hnew ⊢
  clear hN he
  go_loopw [8] (fun i_ W => ∃ (j : Nat) (L : List Fc) (K : Nat) (B : Nat → Prop) (v : Value), j ≤ n ∧ i_ = .int .i64 j ∧ Hid (BothJ JM w N p room L K L K j B v W)) (fun i_ _ => n - (intOf i_).toNat)
  case atStart => exact ⟨0, [], 0, B, _, Nat.zero_le _, rfl, hnew⟩
  case round =>
    clear hnew
    obtain ⟨j, L, K, B, v, hj, rfl, HB⟩ := hrel
    by_cases hlt : j < n
    · have hlt' : (j : Int) < (n : Int) := by omega
      obtain ⟨⟨ck, cm, fk, fy, fn⟩, b, off, he, hok, rfl, q5⟩ := HR.out.at hlt
      have HOK : Hid (Fc.Ok ⟨fk, fy, fn⟩) := ⟨hok.k0, hok.k1, hok.y0, hok.y1, hok.n0, hok.n1⟩
      have HCM : Hid (I64 cm) := ⟨hok.m0, hok.m1⟩
      have HQ : Hid (∀ W, Below w.heap.size w W → O5 W b (off + j * 5) ⟨ck, cm, fk, fy, fn⟩) := fun W hb => q5.later (W' := W) hb
      obtain ⟨d0, d1, d2, d3, d4⟩ := HQ.out wr HB.out.b
      simp only at d0 d1 d2 d3 d4
      have hj150 : j ≤ 150 := by omega
      have HL : Hid (L.length ≤ 3000) := by have := (HC.out.good HB.out.t).2.2.2.1; show L.length ≤ 3000; omega
      clear hok q5 he
      go_upto_block 2 with fail
      go_cut [9] from 37 to 166 (fun s9 wx => s9 = .bool true ∧ ∃ L2 K2 B2 v2, BothJ JM w N p room L2 K2 L2 K2 (j + 1) B2 v2 wx)
      case first =>
        by_cases hk0 : ck = 0
        · subst hk0
          go_wp2
          go_region_held3 (fun w' => w'.cell? ⟨b, off + j * 5 + 2, none⟩ = some (.int .i64 fk) ∧ w'.cell? ⟨b, off + j * 5 + 3, none⟩ = some (.int .u32 fy) ∧ w'.cell? ⟨b, off + j * 5 + 4, none⟩ = some (.int .u32 fn)) (first | exact ⟨d2, d3, d4⟩ | exact ⟨e2, e3, e4⟩ | exact ⟨f2, f3, f4⟩)
            ((first
              | (go_at_call 11; refine (HC.out.put fk fy fn (HB.out.later HC.out (Below.refl _ _).drew).t (by omega) HOK.out).mono ?_; intro e W1 hd; obtain ⟨rfl, B1, hB1⟩ := (HB.out.later HC.out (Below.refl _ _).drew).stepT hd; obtain ⟨-, -, e2, e3, e4⟩ := HQ.out W1 hB1.b)
              | (go_at_call 12; refine (refPut_any N K room v L fk fy fn _ hB1.r HL.out HOK.out).mono ?_; intro e W2 hd2; obtain ⟨rfl, v2, hB2⟩ := hB1.stepR HC.out hd2; obtain ⟨-, -, f2, f3, f4⟩ := HQ.out W2 hB2.b)))
          all_goals
            go_wp2
            go_meet
            exact ⟨by simp, _, _, _, _, hB2⟩
        have hk0' : (ck == 0) = false := by simpa using hk0
        by_cases hk1 : ck = 1
        · subst hk1
          go_wp2_with (first
            | (go_at_call 13; refine (HC.out.sync HB.out.t (by omega)).mono ?_; intro e W1 hd; obtain ⟨rfl, B1, hB1⟩ := HB.out.stepT hd)
            | (go_at_call 14; refine (refSync_any N K room v L _ hB1.r).mono ?_; intro e W2 hd2; obtain ⟨rfl, v2, hB2⟩ := hB1.stepR HC.out hd2))
          go_meet
          exact ⟨rfl, _, _, _, _, hB2⟩
        have hk1' : (ck == 1) = false := by simpa using hk1
        by_cases hk2 : ck = 2
        · subst hk2
          go_wp2_with (first
            | (go_at_call 15; refine (HC.out.crash cm HB.out.t (by omega) HCM.out).mono ?_; intro e W1 hd; obtain ⟨rfl, B1, hB1⟩ := HB.out.stepT hd; obtain ⟨-, e1, -, -, -⟩ := HQ.out W1 hB1.b; simp only at e1)
            | (go_at_call 16; refine (refCrash_any N K room cm v L _ hB1.r HL.out).mono ?_; intro e W2 hd2; obtain ⟨rfl, v2, hB2⟩ := hB1.stepR HC.out hd2))
          go_meet
          exact ⟨rfl, _, _, _, _, hB2⟩
        have hk2' : (ck == 2) = false := by simpa using hk2
        by_cases hk3 : ck = 3
        · subst hk3
          go_wp2_with (first
            | (go_at_call 17; refine (HC.out.pack HB.out.t (by omega)).mono ?_; intro e W1 hd; obtain ⟨rfl, B1, hB1⟩ := HB.out.stepT hd)
            | (go_at_call 18; refine (refPack_any N K room v L _ hB1.r HL.out).mono ?_; intro e W2 hd2; obtain ⟨rfl, v2, hB2⟩ := hB1.stepR HC.out hd2))
          go_meet
          exact ⟨rfl, _, _, _, _, hB2⟩
        have hk3' : (ck == 3) = false := by simpa using hk3
        go_wp2
        go_meet
        exact ⟨rfl, _, _, _, _, HB.out.up HC.out⟩
      case rest =>
        obtain ⟨rfl, L2, K2, B2, v2, hB2⟩ := hcut
        obtain ⟨ad2, cp2, rfl⟩ := hB2.r.own.shape
        obtain ⟨n2, hn2⟩ : ∃ n2, L2.length = n2 := ⟨_, rfl⟩
        have HN2 : Hid (L2.length = n2) := hn2
        have HL2 : Hid (L2.length ≤ 3000) := by have := (HC.out.good hB2.t).2.2.2.1; show L2.length ≤ 3000; omega
        have HMy : Hid (∀ f ∈ L2, MayF f) := (HC.out.good hB2.t).2.1
        rw [hn2] at hB2
        have HB2 : Hid (BothJ JM w N p room L2 K2 L2 K2 (j + 1) B2 (.slice ad2 n2 cp2) wc) := hB2
        clear hB2 hn2 d0 d1 d2 d3 d4 HB HL
        obtain ⟨u, hu⟩ : ∃ u, numF fk fy L2 = u := ⟨_, rfl⟩
        obtain ⟨iv, hiv⟩ : ∃ iv, isF fk fy L2 = iv := ⟨_, rfl⟩
        have HU : Hid (numF fk fy L2 = u ∧ isF fk fy L2 = iv) := ⟨hu, hiv⟩
        clear hu hiv
        obtain ⟨-, -, d2, d3, -⟩ := HQ.out wc HB2.out.b
        have z2 := cell_regrown d2
        have z3 := cell_regrown d3
        have hget : Hid (∀ W, Below wc.heap.size wc W → Calls Try.prog 19 #[.pointer (some p), .int .i64 fk, .int .u32 fy] W fun e w' => e = .returned (.tuple #[.int .u32 u, .bool iv]) ∧ Below W.heap.size W w') := fun W hb => by
          have h := HC.out.get fk fy (HB2.out.later HC.out hb).t (by omega) ⟨HOK.out.k0, HOK.out.k1⟩ ⟨HOK.out.y0, HOK.out.y1⟩
          rw [HU.out.1, HU.out.2] at h
          exact h
        go_wp2
        refine wp_region_quiet_below (by kernel_rfl) (by kernel_rfl) ?_
        repeat (go_big_quiet_step ((go_at_call 19; exact Calls.regrown_of (hget.out _ (below_regrown _ _ _)))))
        refine wpQuiet_nil ?_
        intro _ hw'
        obtain ⟨⟨dq, osq⟩, hw''⟩ := hw'
        subst hw''
        obtain ⟨W3, hW3⟩ : ∃ W3, W3 = Sort.grow (redrawn wc dq) osq := ⟨_, rfl⟩
        have HB3 : Hid (BothJ JM w N p room L2 K2 L2 K2 (j + 1) B2 (.slice ad2 n2 cp2) W3) := by rw [hW3]; exact HB2.out.later HC.out (below_regrown _ dq osq)
        rw [← hW3]
        clear hW3 z2 z3 d2 d3 hget
        obtain ⟨-, -, d2, d3, -⟩ := HQ.out W3 HB3.out.b
        have z2 := cell_regrown d2
        have z3 := cell_regrown d3
        have hget2 : Hid (∀ W, Below W3.heap.size W3 W → Calls Try.prog 20 #[.pointer (some ⟨N, 0, none⟩), .int .i64 fk, .int .u32 fy] W fun e w' => e = .returned (.tuple #[.int .u32 u, .bool iv]) ∧ Below W.heap.size W w') := fun W hb => by
          have h := refGet_any N K2 room fk fy (.slice ad2 n2 cp2) L2 W (HB3.out.later HC.out hb).r HL2.out
          rw [HU.out.1, HU.out.2] at h
          exact h.mono fun _ _ ⟨h1, h2⟩ => ⟨h1, by rw [h2]; exact Below.refl _ _⟩
        go_wp2
        refine wp_region_quiet_below (by kernel_rfl) (by kernel_rfl) ?_
        repeat (go_big_quiet_step ((go_at_call 20; exact Calls.regrown_of (hget2.out _ (below_regrown _ _ _)))))
        refine wpQuiet_nil ?_
        intro _ hw'
        obtain ⟨⟨dq2, osq2⟩, hw''⟩ := hw'
        subst hw''
        obtain ⟨W4, hW4⟩ : ∃ W4, W4 = Sort.grow (redrawn W3 dq2) osq2 := ⟨_, rfl⟩
        have HB4 : Hid (BothJ JM w N p room L2 K2 L2 K2 (j + 1) B2 (.slice ad2 n2 cp2) W4) := by rw [hW4]; exact HB3.out.later HC.out (below_regrown _ dq2 osq2)
        rw [← hW4]
        clear hW4 z2 z3 d2 d3 hget2 HB3 HB2
        obtain ⟨F, hF⟩ : ∃ F, factsJ L2 = F := ⟨_, rfl⟩
        have HF : Hid (factsJ L2 = F) := hF
        have HP : Hid (Fcs F) := by unfold Hid; rw [← hF]; exact factsJ_sub (HC.out.good HB4.out.t).1
        have HL3 : Hid (F.length ≤ 3000) := by have h1 := factsJ_len L2; have h2 := HL2.out; rw [hF] at h1; show F.length ≤ 3000; omega
        obtain ⟨S, hS⟩ : ∃ S, strOfNums (bytesJ L2) = S := ⟨_, rfl⟩
        have HS : Hid (strOfNums (bytesJ L2) = S) := hS
        have HBy : Hid (Bytes (bytesJ L2)) := bytes_J (HC.out.good HB4.out.t).1 HMy.out
        clear hF hS
        go_wp2_with (first
          | (go_at_call 22; refine (HC.out.facts HB4.out.t (by omega)).mono ?_; rw [HF.out]; rintro e W5 ⟨fa, fl, fc, rfl, own, hb⟩; have HB5 : Hid (BothJ JM w N p room L2 K2 L2 K2 (j + 1) B2 (.slice ad2 n2 cp2) W5) := HB4.out.later HC.out hb; have HO5 : Hid (OwnF W5 W4.heap.size (.slice fa fl fc) fl F) := own; clear own hb HB4)
          | (go_at_call 23; refine (refFacts_any N K2 room _ L2 _ HB5.out.r HL2.out).mono ?_; rw [HF.out]; rintro e W6 ⟨ga, gl, gc, rfl, own, hb⟩; have HB6 : Hid (BothJ JM w N p room L2 K2 L2 K2 (j + 1) B2 (.slice ad2 n2 cp2) W6) := HB5.out.later HC.out hb; have hgl : gl = fl := own.len.symm.trans HO5.out.len; subst hgl; have HR1 : Hid (RowF W6 fa gl F) := (HO5.out.later hb).row HP.out; have HR2 : Hid (RowF W6 ga gl F) := own.row HP.out; have hg3 : gl ≤ 3000 := (by have := own.len; have := HL3.out; omega); clear own hb HB5)
          | (go_at_call 21; refine (same_any _ _ _ _ _ F _ HR1.out HR2.out hg3).mono ?_; rintro e W7 ⟨rfl, hb⟩; have HB7 : Hid (BothJ JM w N p room L2 K2 L2 K2 (j + 1) B2 (.slice ad2 n2 cp2) W7) := HB6.out.later HC.out hb; clear hb HB6))
        go_cut [166] from 132 to 166 (fun s166 wx => s166 = .bool false ∧ BothJ JM w N p room L2 K2 L2 K2 (j + 1) B2 (.slice ad2 n2 cp2) wx)
        case first =>
          refine wp_region_oblG (relOf [fun v _ => v = .bool true, fun v _ => v = .bool false, fun v _ => v = .bool false, fun v _ => v = .int .u32 u, fun v _ => v = .int .u32 u, fun v _ => v = .bool false, fun v _ => v = .bool false, fun v _ => v = .bool false, fun v _ => v = .bool iv, fun v _ => v = .bool iv, fun v _ => v = .bool false, fun v _ => v = .bool false, fun v _ => v = .bool false, fun v _ => v = .bool true, fun v _ => v = .bool false, fun v _ => v = .bool false, fun v _ => v = .bool false, fun v _ => v = .pointer (some p), fun v _ => v = .int .i64 (n2 : Int), fun v _ => v = .pointer (some ⟨N, 0, none⟩), fun v _ => v = .pointer (some ⟨N, 0, none⟩), fun v _ => v = .pointer (some ⟨N, 1, none⟩), fun v _ => v = .slice ad2 n2 cp2, fun v _ => v = .int .i64 (n2 : Int), fun v _ => v = .bool false, fun v _ => v = .bool false, fun v _ => v = .bool false, fun v _ => v = .pointer (some p), fun v W => IsB W v (bytesJ L2), fun v _ => v = .string S, fun v _ => v = .pointer (some ⟨N, 0, none⟩), fun v W => IsB W v (bytesJ L2), fun v _ => v = .string S, fun v _ => v = .bool false]) 34 (by kernel_rfl) (by kernel_rfl) (by kernel_rfl) (relOf_mono ⟨stays_eq _, stays_eq _, stays_eq _, stays_eq _, stays_eq _, stays_eq _, stays_eq _, stays_eq _, stays_eq _, stays_eq _, stays_eq _, stays_eq _, stays_eq _, stays_eq _, stays_eq _, stays_eq _, stays_eq _, stays_eq _, stays_eq _, stays_eq _, stays_eq _, stays_eq _, stays_eq _, stays_eq _, stays_eq _, stays_eq _, stays_eq _, stays_eq _, stays_B _, stays_eq _, stays_eq _, stays_B _, stays_eq _, stays_eq _, trivial⟩) ?_
          refine ⟨?_, ?_, ?_, ?_, ?_, ?_, ?_, ?_, ?_, ?_, ?_, ?_, ?_, ?_, ?_, ?_, ?_, ?_, ?_, ?_, ?_, ?_, ?_, ?_, ?_, ?_, ?_, ?_, ?_, ?_, ?_, ?_, ?_, ?_, ?_, trivial⟩
          · exact oblG_step rfl (stepU rfl fun A W hf hd hb => st_move (.tmp 9) _ rfl (ev_tmp ((hf.2.2 9 (by kernel_rfl)).trans rfl)) rfl)
          · exact oblG_step rfl (stepU rfl fun A W hf hd hb => st_not _ (.tmp 132) true rfl (ev_tmp (dep hd 0 132 rfl rfl)) rfl)
          · exact oblG_step rfl (stepU rfl fun A W hf hd hb => st_move (.tmp 133) _ rfl (ev_tmp (dep hd 1 133 rfl rfl)) rfl)
          · exact oblG_step rfl (stepW 2 134 false rfl rfl rfl (fun _ _ h => h) fun A W hf hd hb => st_move (.tmp 10) _ rfl (ev_tmp ((hf.2.2 10 (by kernel_rfl)).trans rfl)) rfl)
          · exact oblG_step rfl (stepW 2 134 false rfl rfl rfl (fun _ _ h => h) fun A W hf hd hb => st_move (.tmp 12) _ rfl (ev_tmp ((hf.2.2 12 (by kernel_rfl)).trans rfl)) rfl)
          · exact oblG_step rfl (stepW 2 134 false rfl rfl rfl (fun _ _ h => h) fun A W hf hd hb => st_bin _ _ _ _ _ _ _ _ rfl (ev_tmp (dep hd 3 135 rfl rfl)) (ev_tmp (dep hd 4 136 rfl rfl)) (ne_u32 W u _ _) rfl)
          · exact oblG_step rfl (stepU rfl fun A W hf hd hb => st_pick _ _ _ false _ rfl (ev_tmp (dep hd 2 134 rfl rfl)) (fun h => by cases h) (fun _ => (ev_tmp (dep hd 5 137 rfl rfl))) rfl)
          · exact oblG_step rfl (stepU rfl fun A W hf hd hb => st_move (.tmp 138) _ rfl (ev_tmp (dep hd 6 138 rfl rfl)) rfl)
          · exact oblG_step rfl (stepW 7 139 false rfl rfl rfl (fun _ _ h => h) fun A W hf hd hb => st_move (.tmp 11) _ rfl (ev_tmp ((hf.2.2 11 (by kernel_rfl)).trans rfl)) rfl)
          · exact oblG_step rfl (stepW 7 139 false rfl rfl rfl (fun _ _ h => h) fun A W hf hd hb => st_move (.tmp 13) _ rfl (ev_tmp ((hf.2.2 13 (by kernel_rfl)).trans rfl)) rfl)
          · exact oblG_step rfl (stepW 7 139 false rfl rfl rfl (fun _ _ h => h) fun A W hf hd hb => st_bin _ _ _ _ _ _ _ _ rfl (ev_tmp (dep hd 8 140 rfl rfl)) (ev_tmp (dep hd 9 141 rfl rfl)) (ne_bool W iv _ _) rfl)
          · exact oblG_step rfl (stepU rfl fun A W hf hd hb => st_pick _ _ _ false _ rfl (ev_tmp (dep hd 7 139 rfl rfl)) (fun h => by cases h) (fun _ => (ev_tmp (dep hd 10 142 rfl rfl))) rfl)
          · exact oblG_step rfl (stepU rfl fun A W hf hd hb => st_move (.tmp 143) _ rfl (ev_tmp (dep hd 11 143 rfl rfl)) rfl)
          · exact oblG_step rfl (stepW 12 144 false rfl rfl rfl (fun _ _ h => h) fun A W hf hd hb => st_move (.tmp 14) _ rfl (ev_tmp ((hf.2.2 14 (by kernel_rfl)).trans rfl)) rfl)
          · exact oblG_step rfl (stepW 12 144 false rfl rfl rfl (fun _ _ h => h) fun A W hf hd hb => st_not _ (.tmp 145) true rfl (ev_tmp (dep hd 13 145 rfl rfl)) rfl)
          · exact oblG_step rfl (stepU rfl fun A W hf hd hb => st_pick _ _ _ false _ rfl (ev_tmp (dep hd 12 144 rfl rfl)) (fun h => by cases h) (fun _ => (ev_tmp (dep hd 14 146 rfl rfl))) rfl)
          · exact oblG_step rfl (stepU rfl fun A W hf hd hb => st_move (.tmp 147) _ rfl (ev_tmp (dep hd 15 147 rfl rfl)) rfl)
          · exact oblG_step rfl (stepW 16 148 false rfl rfl rfl (fun _ _ h => h) fun A W hf hd hb => st_move (.tmp 6) _ rfl (ev_tmp ((hf.2.2 6 (by kernel_rfl)).trans rfl)) rfl)
          · exact oblG_step rfl (stepW 16 148 false rfl rfl rfl (fun _ _ h => h) fun A W hf hd hb => st_call 24 _ _ #[.pointer (some p)] rfl (by kernel_rfl) (by simp only [List.map_toArray, List.map_cons, List.map_nil, ev_tmp (dep hd 17 149 rfl rfl)]) ((HC.out.len (HB7.out.later HC.out hb).t (by omega)).mono (by rw [HN2.out]; rintro e W' ⟨rfl, hb'⟩; exact ⟨_, rfl, rfl, hb'⟩)))
          · exact oblG_step rfl (stepW 16 148 false rfl rfl rfl (fun _ _ h => h) fun A W hf hd hb => st_move (.tmp 7) _ rfl (ev_tmp ((hf.2.2 7 (by kernel_rfl)).trans rfl)) rfl)
          · exact oblG_step rfl (stepW 16 148 false rfl rfl rfl (fun _ _ h => h) fun A W hf hd hb => st_nil (.tmp 151) _ rfl (ev_tmp (dep hd 19 151 rfl rfl)) rfl)
          · exact oblG_step rfl (stepW 16 148 false rfl rfl rfl (fun _ _ h => h) fun A W hf hd hb => st_field 29 (.tmp 152) 1 ⟨N, 0, none⟩ ⟨N, 1, none⟩ rfl (ev_tmp (dep hd 20 152 rfl rfl)) (fieldJ W N) rfl)
          · exact oblG_step rfl (stepW 16 148 false rfl rfl rfl (fun _ _ h => h) fun A W hf hd hb => st_load 27 (.tmp 153) ⟨N, 1, none⟩ (.slice ad2 n2 cp2) rfl (ev_tmp (dep hd 21 153 rfl rfl)) (loadJ ((HB7.out.later HC.out hb).r.c1)) rfl)
          · exact oblG_step rfl (stepW 16 148 false rfl rfl rfl (fun _ _ h => h) fun A W hf hd hb => st_lenF 154 ad2 n2 cp2 rfl (dep hd 22 154 rfl rfl) rfl)
          · exact oblG_step rfl (stepW 16 148 false rfl rfl rfl (fun _ _ h => h) fun A W hf hd hb => st_bin _ _ _ _ _ _ _ _ rfl (ev_tmp (dep hd 18 150 rfl rfl)) (ev_tmp (dep hd 23 155 rfl rfl)) (ne_i64 W n2 _ _) rfl)
          · exact oblG_step rfl (stepU rfl fun A W hf hd hb => st_pick _ _ _ false _ rfl (ev_tmp (dep hd 16 148 rfl rfl)) (fun h => by cases h) (fun _ => (ev_tmp (dep hd 24 156 rfl rfl))) rfl)
          · exact oblG_step rfl (stepU rfl fun A W hf hd hb => st_move (.tmp 157) _ rfl (ev_tmp (dep hd 25 157 rfl rfl)) rfl)
          · exact oblG_step rfl (stepW 26 158 false rfl rfl rfl (fun _ _ h => h) fun A W hf hd hb => st_move (.tmp 6) _ rfl (ev_tmp ((hf.2.2 6 (by kernel_rfl)).trans rfl)) rfl)
          · exact oblG_step rfl (stepW 26 158 false rfl rfl rfl (fun _ _ h => h) fun A W hf hd hb => st_call 25 _ _ #[.pointer (some p)] rfl (by kernel_rfl) (by simp only [List.map_toArray, List.map_cons, List.map_nil, ev_tmp (dep hd 27 159 rfl rfl)]) ((HC.out.bytes (HB7.out.later HC.out hb).t (by omega)).mono (by rintro e W' ⟨ba, bk, bc, rfl, row, hb'⟩; exact ⟨_, rfl, ⟨ba, bk, bc, rfl, row⟩, hb'⟩)))
          · exact oblG_step rfl (stepW 26 158 false rfl rfl rfl (fun _ _ h => h) fun A W hf hd hb => convB HS.out rfl (dep hd 28 160 rfl rfl) rfl)
          · exact oblG_step rfl (stepW 26 158 false rfl rfl rfl (fun _ _ h => h) fun A W hf hd hb => st_move (.tmp 7) _ rfl (ev_tmp ((hf.2.2 7 (by kernel_rfl)).trans rfl)) rfl)
          · exact oblG_step rfl (stepW 26 158 false rfl rfl rfl (fun _ _ h => h) fun A W hf hd hb => st_call 26 _ _ #[.pointer (some ⟨N, 0, none⟩)] rfl (by kernel_rfl) (by simp only [List.map_toArray, List.map_cons, List.map_nil, ev_tmp (dep hd 30 162 rfl rfl)]) ((refBytes_any N K2 room _ L2 _ (HB7.out.later HC.out hb).r HL2.out HMy.out).mono (by rintro e W' ⟨ra, rk, rc, rfl, own, hb'⟩; exact ⟨_, rfl, ⟨ra, rk, rc, rfl, own.row HBy.out (by have h1 := own.len; have h2 := bytesJ_len L2; have h3 := HL2.out; omega)⟩, hb'⟩)))
          · exact oblG_step rfl (stepW 26 158 false rfl rfl rfl (fun _ _ h => h) fun A W hf hd hb => convB HS.out rfl (dep hd 31 163 rfl rfl) rfl)
          · exact oblG_step rfl (stepW 26 158 false rfl rfl rfl (fun _ _ h => h) fun A W hf hd hb => st_bin _ _ _ _ _ _ _ _ rfl (ev_tmp (dep hd 29 161 rfl rfl)) (ev_tmp (dep hd 32 164 rfl rfl)) (ne_str W S _ _) rfl)
          · refine oblG_last fun A W hf hd hb => ⟨rfl, ?_⟩
            refine st_last _ _ _ false (.bool false) rfl (ev_tmp (dep2 hd 26 158 (by decide) rfl)) (fun h => by cases h) (fun _ => ev_tmp (dep2 hd 33 165 (by decide) rfl)) ?_
            rename_i J1 K1 hJ hK
            have HfA := Fr.put hf (List.mem_of_getElem? (i := 34) rfl) (.bool false)
            have hfe := fr_eq HfA
            have h166 : (A.put (some 166) (.bool false)).tmps[166]?.getD undef = .bool false := by
              unfold Act.put
              have hs : 166 < A.tmps.size := by rw [hf.2.1]; exact (by decide : 166 < 167)
              simp [hs]
            refine hK _ _ (Met.intro (hJ _ _ ?_))
            refine ⟨(A.put (some 166) (.bool false)).tmps[132]?.getD undef, (A.put (some 166) (.bool false)).tmps[133]?.getD undef, (A.put (some 166) (.bool false)).tmps[134]?.getD undef, (A.put (some 166) (.bool false)).tmps[135]?.getD undef, (A.put (some 166) (.bool false)).tmps[136]?.getD undef, (A.put (some 166) (.bool false)).tmps[137]?.getD undef, (A.put (some 166) (.bool false)).tmps[138]?.getD undef, (A.put (some 166) (.bool false)).tmps[139]?.getD undef, (A.put (some 166) (.bool false)).tmps[140]?.getD undef, (A.put (some 166) (.bool false)).tmps[141]?.getD undef, (A.put (some 166) (.bool false)).tmps[142]?.getD undef, (A.put (some 166) (.bool false)).tmps[143]?.getD undef, (A.put (some 166) (.bool false)).tmps[144]?.getD undef, (A.put (some 166) (.bool false)).tmps[145]?.getD undef, (A.put (some 166) (.bool false)).tmps[146]?.getD undef, (A.put (some 166) (.bool false)).tmps[147]?.getD undef, (A.put (some 166) (.bool false)).tmps[148]?.getD undef, (A.put (some 166) (.bool false)).tmps[149]?.getD undef, (A.put (some 166) (.bool false)).tmps[150]?.getD undef, (A.put (some 166) (.bool false)).tmps[151]?.getD undef, (A.put (some 166) (.bool false)).tmps[152]?.getD undef, (A.put (some 166) (.bool false)).tmps[153]?.getD undef, (A.put (some 166) (.bool false)).tmps[154]?.getD undef, (A.put (some 166) (.bool false)).tmps[155]?.getD undef, (A.put (some 166) (.bool false)).tmps[156]?.getD undef, (A.put (some 166) (.bool false)).tmps[157]?.getD undef, (A.put (some 166) (.bool false)).tmps[158]?.getD undef, (A.put (some 166) (.bool false)).tmps[159]?.getD undef, (A.put (some 166) (.bool false)).tmps[160]?.getD undef, (A.put (some 166) (.bool false)).tmps[161]?.getD undef, (A.put (some 166) (.bool false)).tmps[162]?.getD undef, (A.put (some 166) (.bool false)).tmps[163]?.getD undef, (A.put (some 166) (.bool false)).tmps[164]?.getD undef, (A.put (some 166) (.bool false)).tmps[165]?.getD undef, (A.put (some 166) (.bool false)).tmps[166]?.getD undef, ⟨h166, HB7.out.later HC.out hb⟩, hfe.trans ?_⟩
            kernel_rfl
        case rest =>
          obtain ⟨rfl, hB8⟩ := hcut
          have HB8 : Hid (BothJ JM w N p room L2 K2 L2 K2 (j + 1) B2 (.slice ad2 n2 cp2) wc) := hB8
          clear hB8
          go_wp2
          go_roundw
          case rel => exact ⟨j + 1, L2, K2, B2, _, by omega, by go_num, HB8⟩
          case measure => simp [intOf]; omega
    · have hlt' : ¬ (j : Int) < (n : Int) := by omega
      go_wp2
      go_ret
      exact ⟨rfl, HB.out.b⟩
end
end Go.Proofs.Ytofmgkpghkeegaa
