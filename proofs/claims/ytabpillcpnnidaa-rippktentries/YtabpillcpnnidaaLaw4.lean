/- The law RippktEntries, walked. -/
import Derived.Test.YtabpillcpnnidaaLaw2
import Derived.Deep.Cut
namespace Go.Proofs.Ytabpillcpnnidaa
open Go.RowKit

theorem two3 (w : World) (c1 : Int) (w1 : Bool) (a1 : Option Addr) (n1 cap1 : Nat) (c2 : Int) (w2 : Bool) (a2 : Option Addr) (n2 cap2 : Nat) :
    P3 ((w.alloc (objP c1 w1 a1 n1 cap1)).alloc (objP c2 w2 a2 n2 cap2)) w.heap.size c1 w1 a1 n1 cap1 ∧ P3 ((w.alloc (objP c1 w1 a1 n1 cap1)).alloc (objP c2 w2 a2 n2 cap2)) (w.heap.size + 1) c2 w2 a2 n2 cap2 := by
  refine ⟨(P3.new w c1 w1 a1 n1 cap1).later (below1 _ _), ?_⟩
  have := P3.new (w.alloc (objP c1 w1 a1 n1 cap1)) c2 w2 a2 n2 cap2
  simpa using this

set_option maxHeartbeats 1000000 in
theorem entries_no (c1 : Int) (w1 : Bool) (a1 : Option Addr) (n1 cap1 : Nat) (c2 : Int) (w2 : Bool) (a2 : Option Addr) (n2 cap2 : Nat) (w : World) (h : 12 < n1 ∨ 12 < n2 ∨ w1 = true ∨ w2 = true ∨ c1 ≠ c2) :
    Calls Try.prog 8 #[.agg #[.int .i64 c1, .bool w1, .slice a1 n1 cap1], .agg #[.int .i64 c2, .bool w2, .slice a2 n2 cap2]] w fun e w' => e = .returned (.bool true) ∧ Below w.heap.size w w' := by
  have key : 12 < (n1 : Int) ∨ (¬ 12 < (n1 : Int) ∧ 12 < (n2 : Int)) ∨ (¬ 12 < (n1 : Int) ∧ ¬ 12 < (n2 : Int) ∧ w1 = true) ∨ (¬ 12 < (n1 : Int) ∧ ¬ 12 < (n2 : Int) ∧ w1 = false ∧ w2 = true) ∨ (¬ 12 < (n1 : Int) ∧ ¬ 12 < (n2 : Int) ∧ w1 = false ∧ w2 = false ∧ (c1 != c2) = true) := by
    by_cases h1 : 12 < (n1 : Int)
    · exact .inl h1
    by_cases h2 : 12 < (n2 : Int)
    · exact .inr (.inl ⟨h1, h2⟩)
    cases w1
    · cases w2
      · refine .inr (.inr (.inr (.inr ⟨h1, h2, rfl, rfl, ?_⟩)))
        rw [bne_iff_ne]
        rcases h with h | h | h | h | h
        · omega
        · omega
        · cases h
        · cases h
        · exact h
      · exact .inr (.inr (.inr (.inl ⟨h1, h2, rfl, rfl⟩)))
    · exact .inr (.inr (.inl ⟨h1, h2, rfl⟩))
  clear h
  rcases key with h1 | ⟨h1, h2⟩ | ⟨h1, h2, rfl⟩ | ⟨h1, h2, rfl, rfl⟩ | ⟨h1, h2, rfl, rfl, h3⟩
  all_goals
    go_enter Try.func8, Try.ntmps8
    go_wp2_with (first
      | (go_at_call 10; refine (awake_any _).mono ?_; rintro e W1 ⟨rfl, hb1⟩; obtain ⟨p0, p1, p2, pz⟩ := (two3 w _ _ a1 n1 cap1 _ _ a2 n2 cap2).1.later hb1; obtain ⟨q0, q1, q2, qz⟩ := (two3 w _ _ a1 n1 cap1 _ _ a2 n2 cap2).2.later hb1; have hB1 := Below.out2 hb1))
    go_ret
    exact ⟨rfl, hB1⟩

theorem size1 (W : World) (o : Obj) : W.heap.size + 1 ≤ (W.alloc o).drew.heap.size := by simp [World.drew]
theorem size1' (W : World) (o : Obj) : (W.alloc o).drew.heap.size ≤ W.heap.size + 1 := by simp [World.drew]
theorem keepB {w W W' : World} {B : Nat} {c : Int} {a1 : Option Addr} {n1 cap1 : Nat} {a2 : Option Addr} {n2 cap2 : Nat} (hb : Below B W W') (hB : w.heap.size + 1 < B) (h : W.cell? ⟨w.heap.size, 0, none⟩ = some (.int .i64 c) ∧ W.cell? ⟨w.heap.size, 2, none⟩ = some (.slice a1 n1 cap1) ∧ W.cell? ⟨w.heap.size + 1, 2, none⟩ = some (.slice a2 n2 cap2) ∧ w.heap.size + 1 < W.heap.size) : W'.cell? ⟨w.heap.size, 0, none⟩ = some (.int .i64 c) ∧ W'.cell? ⟨w.heap.size, 2, none⟩ = some (.slice a1 n1 cap1) ∧ W'.cell? ⟨w.heap.size + 1, 2, none⟩ = some (.slice a2 n2 cap2) ∧ w.heap.size + 1 < W'.heap.size :=
  ⟨(hb.cell (p := ⟨w.heap.size, 0, none⟩) (show w.heap.size < B by omega)).trans h.1, (hb.cell (p := ⟨w.heap.size, 2, none⟩) (show w.heap.size < B by omega)).trans h.2.1, (hb.cell (p := ⟨w.heap.size + 1, 2, none⟩) hB).trans h.2.2.1, Nat.lt_of_lt_of_le h.2.2.2 hb.size⟩
theorem keepN {w W : World} {c : Int} {a1 : Option Addr} {n1 cap1 : Nat} {a2 : Option Addr} {n2 cap2 : Nat} (o : Obj) (h : W.cell? ⟨w.heap.size, 0, none⟩ = some (.int .i64 c) ∧ W.cell? ⟨w.heap.size, 2, none⟩ = some (.slice a1 n1 cap1) ∧ W.cell? ⟨w.heap.size + 1, 2, none⟩ = some (.slice a2 n2 cap2) ∧ w.heap.size + 1 < W.heap.size) : (W.alloc o).cell? ⟨w.heap.size, 0, none⟩ = some (.int .i64 c) ∧ (W.alloc o).cell? ⟨w.heap.size, 2, none⟩ = some (.slice a1 n1 cap1) ∧ (W.alloc o).cell? ⟨w.heap.size + 1, 2, none⟩ = some (.slice a2 n2 cap2) ∧ w.heap.size + 1 < (W.alloc o).heap.size := keepB (below1 W o) h.2.2.2 h
theorem keepSet {w W : World} {M : Nat} {x y z : Value} {c : Int} {a1 : Option Addr} {n1 cap1 : Nat} {a2 : Option Addr} {n2 cap2 : Nat} (hM : w.heap.size + 1 < M) (h : W.cell? ⟨w.heap.size, 0, none⟩ = some (.int .i64 c) ∧ W.cell? ⟨w.heap.size, 2, none⟩ = some (.slice a1 n1 cap1) ∧ W.cell? ⟨w.heap.size + 1, 2, none⟩ = some (.slice a2 n2 cap2) ∧ w.heap.size + 1 < W.heap.size) : (((W.setCell ⟨M, 0, none⟩ x).setCell ⟨M, 1, none⟩ y).setCell ⟨M, 2, none⟩ z).cell? ⟨w.heap.size, 0, none⟩ = some (.int .i64 c) ∧ (((W.setCell ⟨M, 0, none⟩ x).setCell ⟨M, 1, none⟩ y).setCell ⟨M, 2, none⟩ z).cell? ⟨w.heap.size, 2, none⟩ = some (.slice a1 n1 cap1) ∧ (((W.setCell ⟨M, 0, none⟩ x).setCell ⟨M, 1, none⟩ y).setCell ⟨M, 2, none⟩ z).cell? ⟨w.heap.size + 1, 2, none⟩ = some (.slice a2 n2 cap2) ∧ w.heap.size + 1 < (((W.setCell ⟨M, 0, none⟩ x).setCell ⟨M, 1, none⟩ y).setCell ⟨M, 2, none⟩ z).heap.size := by
  have n0 : M ≠ w.heap.size := by omega
  have n1 : M ≠ w.heap.size + 1 := by omega
  obtain ⟨h0, h1, h2, h3⟩ := h
  refine ⟨?_, ?_, ?_, by simpa using h3⟩
  · rw [World.cell?_setCell_far _ _ _ _ (by exact n0), World.cell?_setCell_far _ _ _ _ (by exact n0), World.cell?_setCell_far _ _ _ _ (by exact n0)]; exact h0
  · rw [World.cell?_setCell_far _ _ _ _ (by exact n0), World.cell?_setCell_far _ _ _ _ (by exact n0), World.cell?_setCell_far _ _ _ _ (by exact n0)]; exact h1
  · rw [World.cell?_setCell_far _ _ _ _ (by exact n1), World.cell?_setCell_far _ _ _ _ (by exact n1), World.cell?_setCell_far _ _ _ _ (by exact n1)]; exact h2

/-- Append onto a row of entries, with a block that stays. -/
theorem run_appEf {P : Program} (w : World) (M : Nat) (hM : M < w.heap.size) (base : Nat) (t ty : TypeId) (ht : P.underlying t = some (.slice 43)) (hinfo : (P.info? 43).map (fun i => (i.zero, i.size, i.bytes)) = some (some (.agg #[.int .u32 0, .int .i64 0, .int .u16 0, .int .u32 0, .int .i64 0]), 5, 32))
    (v : Value) (n : Nat) (es : List Ent) (hown : OwnE w base v n es) (hne : v.ownBlock ≠ some M) (ad : Option Addr) (m c : Nat) (fs : List Ent) (h2 : RowE w ad m fs) (hlen : n + m ≤ 100000) (hbase : base ≤ w.heap.size) :
    ∃ a' c' w', (Builtin.append_ #[t, t] ty #[v, .slice ad m c]).run P w = .ok (.slice a' (n + m) c') w' ∧ OwnE w' base (.slice a' (n + m) c') (n + m) (es ++ fs) ∧ Below base w w' ∧ w'.heap[M]? = w.heap[M]? ∧ (Value.slice a' (n + m) c').ownBlock ≠ some M := by
  obtain ⟨i, hi, hzz⟩ := Option.map_eq_some_iff.1 hinfo
  simp only [Prod.mk.injEq] at hzz
  obtain ⟨hz, hs, hb⟩ := hzz
  obtain ⟨hl2, _, hc2⟩ := h2
  cases ad with
  | none =>
    have hm : m = 0 := by
      rcases Nat.eq_zero_or_pos m with h | h
      · exact h
      · obtain ⟨_, _, h, _⟩ := hc2 0 _ (List.getElem?_eq_getElem (by omega)); cases h
    subst hm
    obtain rfl : fs = [] := List.eq_nil_of_length_eq_zero hl2
    obtain ⟨a', c', rfl⟩ := hown.shape
    refine ⟨a', c', w, run_appE_nil w t ty i ht hi base _ n es hown c, ?_, Below.refl _ _, rfl, hne⟩
    simpa using hown
  | some x =>
    have hnews : ∀ j u, (fs.flatMap Ent.cs)[j]? = some u → w.cell? (x.add j) = some u := by
      intro j u hj
      have hjl : j < fs.length * 5 := by
        rcases Nat.lt_or_ge j (fs.length * 5) with h | h
        · exact h
        · rw [List.getElem?_eq_none (by rw [cs_flat_len]; exact h)] at hj; cases hj
      have hq : j / 5 < fs.length := by omega
      obtain ⟨b, off, e1, hc⟩ := hc2 (j / 5) _ (List.getElem?_eq_getElem hq)
      simp only [Option.some.injEq] at e1
      subst e1
      have hat := cs_at fs (j / 5) _ (List.getElem?_eq_getElem hq) (j % 5) (by omega)
      rw [show j / 5 * 5 + j % 5 = j from by omega, hj] at hat
      rw [Go.WideShapes.add_plain]
      have : off + j = off + j / 5 * 5 + j % 5 := by omega
      rw [this]
      obtain ⟨c0, c1, c2, c3, c4⟩ := hc
      have hm5 : j % 5 < 5 := by omega
      generalize j % 5 = r at hat hm5
      match r, hm5, hat with
      | 0, _, hat => simp [Ent.cs] at hat; rw [hat]; exact c0
      | 1, _, hat => simp [Ent.cs] at hat; rw [hat]; exact c1
      | 2, _, hat => simp [Ent.cs] at hat; rw [hat]; exact c2
      | 3, _, hat => simp [Ent.cs] at hat; rw [hat]; exact c3
      | 4, _, hat => simp [Ent.cs] at hat; rw [hat]; exact c4
    obtain ⟨v', w', hr, h3, h4, _, hat⟩ := run_append_own_at (P := P) w base t ty 43 i (.agg #[.int .u32 0, .int .i64 0, .int .u16 0, .int .u32 0, .int .i64 0]) 5 32 ht hi hz hs hb rfl (by decide) v n _ hown x m c (fs.flatMap Ent.cs) (by rw [cs_flat_len, hl2]) hnews
      (by intro u hu; obtain ⟨k, _, hk⟩ := List.mem_flatMap.1 hu; simp only [Ent.cs, List.mem_cons, List.not_mem_nil, or_false] at hk; rcases hk with rfl | rfl | rfl | rfl | rfl <;> rfl) (by unfold maxLen; omega) (by omega) hbase
    have h5 : OwnE w' base v' (n + m) (es ++ fs) := by unfold OwnE; rw [List.flatMap_append]; exact h3
    obtain ⟨a', c', rfl⟩ := h5.shape
    refine ⟨a', c', w', hr, h5, (Below.refl _ _).grown h4 hbase hown.lt, h4.block M hM (fun e => hne e.symm), ?_⟩
    rcases hat with h | h
    · rw [h]; exact hne
    · rw [h]; intro e; simp only [Option.some.injEq] at e; omega
theorem step_appEf {P : Program} (w : World) {ops : Array Oper} {o : Oper} {a : Act} {K : Act → World → Prop} {Q : Exit → Act → World → Prop} {E : Prop} (M : Nat) (hM : M < w.heap.size) (hgd : o.guard = none) (s x : Operand) (t : TypeId)
    (ho : o.op = .call { callee := .builtin .append, args := #[s, x], argTypes := #[t, t] }) (base : Nat)
    (ht : P.underlying t = some (.slice 43)) (hinfo : (P.info? 43).map (fun i => (i.zero, i.size, i.bytes)) = some (some (.agg #[.int .u32 0, .int .i64 0, .int .u16 0, .int .u32 0, .int .i64 0]), 5, 32))
    (v : Value) (n : Nat) (es : List Ent) (hs : a.eval s = v) (hown : OwnE w base v n es) (hne : v.ownBlock ≠ some M) (ad : Option Addr) (m c : Nat) (fs : List Ent) (hx : a.eval x = .slice ad m c) (h2 : RowE w ad m fs) (k : Nat) (hk : n + m = k) (gs : List Ent) (hl : es ++ fs = gs) (hlen : k ≤ 100000) (hbase : base ≤ w.heap.size)
    (h : ∀ a' c' w', OwnE w' base (.slice a' k c') k gs → Below base w w' → w'.heap[M]? = w.heap[M]? → (Value.slice a' k c').ownBlock ≠ some M → K (a.put o.dst (.slice a' k c')) w') :
    if Region.wanted o (yielded ops a.tmps) = true then Oper.wp P o a w K Q else E := by
  have hw : Region.wanted o (yielded ops a.tmps) = true := by simp [Region.wanted, hgd]
  rw [if_pos hw]
  subst hk hl
  obtain ⟨a', c', w', hr, h3, h4, h5, h6⟩ := run_appEf (P := P) w M hM base t o.type ht hinfo v n es hown hne ad m c fs h2 hlen hbase
  unfold Oper.wp execOp
  simp only [ho, resolve, invoke, builtin, Sem.run_bind, Sem.run_pure, Result.andThen_ok, List.map_toArray, List.map_cons, List.map_nil, hs, hx, hr]
  exact h a' c' w' h3 h4 h5 h6
theorem OwnE.not_new {w : World} {base : Nat} {v : Value} {n : Nat} {es : List Ent} (h : OwnE w base v n es) : v.ownBlock ≠ some w.heap.size := by
  intro hk
  have := (World.ownsRow.lt h _ hk).2
  omega
theorem PF.same {W W' : World} {N : Nat} {c : Int} {wh : Bool} {a : Option Addr} {n cap : Nat} (h : PF W N c wh a n cap) (hb : W'.heap[N]? = W.heap[N]?) (hz : W.heap.size ≤ W'.heap.size) : PF W' N c wh a n cap :=
  ⟨⟨(World.cell?_of_block (a := ⟨N, 0, none⟩) hb).trans h.1.1, (World.cell?_of_block (a := ⟨N, 1, none⟩) hb).trans h.1.2.1, (World.cell?_of_block (a := ⟨N, 2, none⟩) hb).trans h.1.2.2.1, Nat.lt_of_lt_of_le h.1.2.2.2 hz⟩, fun o => (World.frozen?_of_block (a := ⟨N, o, none⟩) hb).trans (h.2 o)⟩
theorem PF.set3 {W : World} {N : Nat} {c c' : Int} {wh wh' : Bool} {a a' : Option Addr} {n cap n' cap' : Nat} (h : PF W N c wh a n cap) : P3 (set3 W N c' wh' a' n' cap') N c' wh' a' n' cap' := by
  obtain ⟨h0, h1, h2⟩ := set3_cells h.1 c' wh' a' n' cap'
  exact ⟨h0, h1, h2, by simpa using h.1.2.2.2⟩

theorem strOf_append (l m : List Int) : strOfNums (l ++ m) = strOfNums l ++ strOfNums m := by
  apply ByteArray.ext
  simp [strOfNums]
theorem strOf_size (l : List Int) : (strOfNums l).size = l.length := by simp [strOfNums, ByteArray.size]
/-- What the statement leaves: a packet in a block of its own. -/
def RelC (W : World) (c : Int) (n : Nat) (es : List Ent) (s : Value) (wx : World) : Prop :=
  ∃ M a cp, s = .pointer (some ⟨M, 0, none⟩) ∧ P3 wx M c false a n cp ∧ RowE wx a n es ∧ Below W.heap.size W wx
theorem cut1 {W W5 : World} {c : Int} {a5 : Option Addr} {n c5 : Nat} {es : List Ent} (hE : Ents es) (own : OwnE W5 W.heap.size (.slice a5 n c5) n es) (hb : Below W.heap.size W.drew W5) :
    RelC W c n es (.pointer (some ⟨W5.heap.size, 0, none⟩)) (W5.alloc (objP c false a5 n c5)) :=
  ⟨_, a5, c5, rfl, P3.new W5 c false a5 n c5, (own.row hE).later (below1 _ _), stp ((Below.refl _ _).drew.trans hb) (below1 _ _)⟩
theorem cut2 {W W5 : World} {M base : Nat} {c : Int} {a5 : Option Addr} {n c5 : Nat} {es : List Ent} (hE : Ents es) (own : OwnE W5 base (.slice a5 n c5) n es) (hne : (Value.slice a5 n c5).ownBlock ≠ some M) (hp : PF W5 M 0 false none 0 0) (hb : Below W.heap.size W W5) (hM : W.heap.size ≤ M) :
    RelC W c n es (.pointer (some ⟨M, 0, none⟩)) (set3 W5 M c false a5 n c5) := by
  refine ⟨_, a5, c5, rfl, hp.set3, ?_, set3_below hb hM _ _ _ _ _⟩
  have key : OwnE (set3 W5 M c false a5 n c5) base (.slice a5 n c5) n es := by
    refine ⟨own.1, ?_⟩
    rcases own.2 with hn | ⟨g, cap, cur, hv, hbg, hg, r⟩
    · exact .inl hn
    · refine .inr ⟨g, cap, cur, hv, hbg, ?_, r⟩
      have hMg : M ≠ g := by
        intro e; apply hne; rw [hv, e]; rfl
      rw [setCell_block _ _ _ _ (by exact hMg), setCell_block _ _ _ _ (by exact hMg), setCell_block _ _ _ _ (by exact hMg)]
      exact hg
  exact key.row hE
set_option maxHeartbeats 2000000 in
theorem entries_yes (c : Int) (a1 : Option Addr) (n1 cap1 : Nat) (a2 : Option Addr) (n2 cap2 : Nat) (es1 es2 : List Ent) (w : World) (hr1 : RowE w a1 n1 es1) (hr2 : RowE w a2 n2 es2) (h1 : n1 ≤ 12) (h2 : n2 ≤ 12) (x1 : encX c false es1 = 0) (x2 : encX c false es2 = 0) :
    Calls Try.prog 8 #[.agg #[.int .i64 c, .bool false, .slice a1 n1 cap1], .agg #[.int .i64 c, .bool false, .slice a2 n2 cap2]] w fun e w' => e = .returned (.bool true) ∧ Below w.heap.size w w' := by
  have HR1 : Hid (RowE w a1 n1 es1) := hr1
  have HR2 : Hid (RowE w a2 n2 es2) := hr2
  have HB1 : Hid (Bytes (encB c false es1)) := encB_bytes hr1.2.1
  have HB2 : Hid (Bytes (encB c false es2)) := encB_bytes hr2.2.1
  have HX1 : Hid (encX c false es1 = 0) := x1
  have HX2 : Hid (encX c false es2 = 0) := x2
  have hj := enc_join (c := c) (a := es1) (b := es2) (by rw [hr1.1]; exact h1) (by rw [hr2.1]; exact h2) x1 x2
  have HX3 : Hid (encX c false (es1 ++ es2) = 0) := hj.1
  have HE3 : Hid (encB c false (es1 ++ es2) = encB c false es1 ++ (encB c false es2).drop 4) := hj.2
  have HL1 : Hid ((encB c false es1).length = 4 + 20 * n1) := by unfold Hid; rw [encB_plain x1, List.length_append, flat_len, hr1.1]; rfl
  have HL2 : Hid ((encB c false es2).length = 4 + 20 * n2) := by unfold Hid; rw [encB_plain x2, List.length_append, flat_len, hr2.1]; rfl
  have i1 : ¬ 12 < (n1 : Int) := by omega
  have i2 : ¬ 12 < (n2 : Int) := by omega
  clear hr1 hr2 x1 x2 hj
  go_enter Try.func8, Try.ntmps8
  go_wp2_with (first
    | (go_at_call 10; refine (awake_any _).mono ?_; rintro e W1 ⟨rfl, hb1⟩; obtain ⟨p0, p1, p2, pz⟩ := (two3 w c false a1 n1 cap1 c false a2 n2 cap2).1.later hb1; obtain ⟨q0, q1, q2, qz⟩ := (two3 w c false a1 n1 cap1 c false a2 n2 cap2).2.later hb1; have hB1 := Below.out2 hb1)
    | (go_at_call_of 11 (Value.agg #[Value.int IntKind.i64 c, Value.bool false, Value.slice a1 n1 cap1]); refine (encode_any _ _ _ _ _ es1 _ (HR1.out.later hB1) (by omega)).mono ?_; rintro e W2 ⟨ad2, k2, cp2, rfl, own2, hb2⟩; have hB2 := stp hB1 hb2; rw [HX1.out]; have hk2 : 4 + 20 * n1 = k2 := by { have h1 := own2.1; have h2 := HL1.out; simp at h1; omega }; subst hk2; obtain ⟨p0, p1, p2, pz⟩ := P3.later ⟨p0, p1, p2, pz⟩ hb2; obtain ⟨q0, q1, q2, qz⟩ := P3.later ⟨q0, q1, q2, qz⟩ hb2)
    | (go_at_call_of 11 (Value.agg #[Value.int IntKind.i64 c, Value.bool false, Value.slice a2 n2 cap2]); refine (encode_any _ _ _ _ _ es2 _ (HR2.out.later hB2) (by omega)).mono ?_; rintro e W3 ⟨ad3, k3, cp3, rfl, own3, hb3⟩; have hB3 := stp hB2 hb3; rw [HX2.out]; have hk3 : 4 + 20 * n2 = k3 := by { have h1 := own3.1; have h2 := HL2.out; simp at h1; omega }; subst hk3; have HP : Hid (P3 W3 w.heap.size c false a1 n1 cap1) := P3.later ⟨p0, p1, p2, pz⟩ hb3; have HQ : Hid (P3 W3 (w.heap.size + 1) c false a2 n2 cap2) := P3.later ⟨q0, q1, q2, qz⟩ hb3))
  have HES : Hid (Ents (es1 ++ es2)) := HR1.out.2.1.append HR2.out.2.1
  have HES : Hid (Ents (es1 ++ es2)) := HR1.out.2.1.append HR2.out.2.1
  have HES : Hid (Ents (es1 ++ es2)) := HR1.out.2.1.append HR2.out.2.1
  have HES : Hid (Ents (es1 ++ es2)) := HR1.out.2.1.append HR2.out.2.1
  have HES : Hid (Ents (es1 ++ es2)) := HR1.out.2.1.append HR2.out.2.1
  have HES : Hid (Ents (es1 ++ es2)) := HR1.out.2.1.append HR2.out.2.1
  have HES : Hid (Ents (es1 ++ es2)) := HR1.out.2.1.append HR2.out.2.1
  have HES : Hid (Ents (es1 ++ es2)) := HR1.out.2.1.append HR2.out.2.1
  have HES : Hid (Ents (es1 ++ es2)) := HR1.out.2.1.append HR2.out.2.1
  have HES : Hid (Ents (es1 ++ es2)) := HR1.out.2.1.append HR2.out.2.1
  have HES : Hid (Ents (es1 ++ es2)) := HR1.out.2.1.append HR2.out.2.1
  obtain ⟨p0, p1, p2, pz⟩ := HP.out
  obtain ⟨q0, q1, q2, qz⟩ := HQ.out
  have RA : Hid (RowE W3 a1 n1 es1) := HR1.out.later hB3
  have RB : Hid (RowE W3 a2 n2 es2) := HR2.out.later hB3
  have bd : Hid (Below W3.heap.size W3 W3.drew) := (Below.refl _ _).drew
  have bz : Hid (Below W3.heap.size W3 (W3.alloc (objP 0 false none 0 0)).drew) := (below1 _ _).drew
  have HZ : Hid (PF (W3.alloc (objP 0 false none 0 0)).drew W3.heap.size 0 false none 0 0) := (PF.new W3 0 false none 0 0).later (Below.refl _ _).drew
  have qzd : w.heap.size + 1 < W3.drew.heap.size := qz
  go_cut [10] from 60 (fun s wx => RelC W3 c (n1 + n2) (es1 ++ es2) s wx)
  case first =>
    go_region_held3 (fun w' => w'.cell? ⟨w.heap.size, 0, none⟩ = some (.int .i64 c) ∧ w'.cell? ⟨w.heap.size, 2, none⟩ = some (.slice a1 n1 cap1) ∧ w'.cell? ⟨w.heap.size + 1, 2, none⟩ = some (.slice a2 n2 cap2) ∧ w.heap.size + 1 < w'.heap.size)
      (first | with_reducible exact k5 | with_reducible exact k4 | with_reducible exact keepN _ (by assumption) | with_reducible exact keepN _ k5 | with_reducible exact keepSet (by assumption) (by assumption) | go_keep)
      (first
        | (refine step_appE _ (by rfl) _ _ 22 (by rfl) W3.heap.size Try.underlying22 info43 _ 0 [] (by rfl) (ownE_nil _ _) _ n1 cap1 es1 (by rfl) (RA.out.later bd.out) n1 (by omega) es1 (by rfl) (by omega) bd.out.size ?_; intro a4 c4 W4 own4 hb4; have k4 := keepB (w := w) hb4 qz (by assumption); have z4 : w.heap.size + 1 < W4.heap.size := k4.2.2.2)
        | (refine step_appE _ (by rfl) _ _ 22 (by rfl) (W3.heap.size + 1) Try.underlying22 info43 _ 0 [] (by rfl) (ownE_nil _ _) _ n1 cap1 es1 (by rfl) (RA.out.later bz.out) n1 (by omega) es1 (by rfl) (by omega) (by simp [World.drew]) ?_; intro a4 c4 W4 own4 hb4; have qz1 : w.heap.size + 1 < W3.heap.size + 1 := Nat.lt_succ_of_lt qz; have zz4 : W3.heap.size + 1 ≤ W4.heap.size := Nat.le_trans (size1 _ _) hb4.size; have k4 := keepB (w := w) hb4 qz1 (by assumption); have z4 : w.heap.size + 1 < W4.heap.size := k4.2.2.2)
        | (refine step_appE _ (by rfl) _ _ 22 (by rfl) W3.heap.size Try.underlying22 info43 _ n1 es1 (by rfl) own4 _ n2 cap2 es2 (by rfl) ((RB.out.later bd.out).later hb4) (n1 + n2) (by rfl) (es1 ++ es2) (by rfl) (by omega) hb4.size ?_; intro a5 c5 W5 own5 hb5; have k5 := keepB (w := w) hb5 qz k4)
        | (refine step_appE _ (by rfl) _ _ 22 (by rfl) (W3.heap.size + 1) Try.underlying22 info43 _ n1 es1 (by rfl) own4 _ n2 cap2 es2 (by rfl) ((RB.out.later bz.out).later (hb4.mono (size1' _ _))) (n1 + n2) (by rfl) (es1 ++ es2) (by rfl) (by omega) zz4 ?_; intro a5 c5 W5 own5 hb5; have k5 := keepB (w := w) hb5 qz1 k4; have PM := (HZ.out.lift hb4 (Nat.lt_succ_self _)).lift hb5 (Nat.lt_succ_self _); have HPM : Hid (PF W5 W3.heap.size 0 false none 0 0) := PM; obtain ⟨⟨m0, m1, m2, mz⟩, mf⟩ := PM)
        | (refine step_appEf _ W4.heap.size (by simp) (by rfl) _ _ 22 (by rfl) W3.heap.size Try.underlying22 info43 _ n1 es1 (by rfl) (own4.later (below1 _ _)) own4.not_new _ n2 cap2 es2 (by rfl) (((RB.out.later bd.out).later hb4).later (below1 _ _)) (n1 + n2) (by rfl) (es1 ++ es2) (by rfl) (by omega) (Nat.le_trans hb4.size (below1 _ _).size) ?_; intro a5 c5 W5 own5 hb5 sm5 ne5; have k5 := keepB (w := w) hb5 qz (keepN _ k4); have PM := (PF.new W4 0 false none 0 0).same sm5 hb5.size; have HPM : Hid (PF W5 W4.heap.size 0 false none 0 0) := PM; obtain ⟨⟨m0, m1, m2, mz⟩, mf⟩ := PM))
    · go_wp2_with fail
      go_meet
      exact cut1 HES.out own5 (hb4.trans hb5)
    · go_wp2_with fail
      go_meet
      exact cut2 HES.out own5 ne5 HPM.out (((bd.out.trans hb4).alloc (bd.out.trans hb4).size _).trans hb5) (bd.out.trans hb4).size
    · go_wp2_with fail
      go_meet
      exact cut2 HES.out own5 (fun hk => by have := own5.lt _ hk; omega) HPM.out (bz.out.trans ((hb4.mono (Nat.le_succ _)).trans (hb5.mono (Nat.le_succ _)))) (Nat.le_refl _)
  case rest =>
    obtain ⟨M, a6, c6, rfl, ⟨m0, m1, m2, mz⟩, R6, hb6⟩ := hcut
    have hB6 := stp hB3 hb6
    have R2 : Row8 wc ad2 (4 + 20 * n1) (encB c false es1) := ((own2.row HB1.out (by omega)).later hb3).later hb6
    have R3 : Row8 wc ad3 (4 + 20 * n2) (encB c false es2) := (own3.row HB2.out (by omega)).later hb6
    have hc3 := own3.cap_le
    obtain ⟨b3, o3, rfl, -⟩ := R3.at (by omega)
    have HB3 : Hid (Bytes (encB c false (es1 ++ es2))) := encB_bytes HES.out
    have HL3 : Hid ((encB c false (es1 ++ es2)).length = 4 + 20 * n1 + 20 * n2) := by unfold Hid; rw [HE3.out, List.length_append, List.length_drop, HL1.out, HL2.out]; omega
    have H2 : Hid (Row8 wc ad2 (4 + 20 * n1) (encB c false es1)) := R2
    have H3 : Hid (Row8 wc (if cp3 = 4 then some ⟨b3, o3, none⟩ else some ⟨b3, o3 + 4, none⟩) (4 + 20 * n2 - 4) ((encB c false es2).drop 4)) := R3.rest 4 cp3 (by omega) hc3 b3 o3 rfl
    obtain ⟨T7, hT7⟩ : ∃ T, strOfNums (encB c false (es1 ++ es2)) = T := ⟨_, rfl⟩
    obtain ⟨T2, hT2⟩ : ∃ T, strOfNums (encB c false es1) = T := ⟨_, rfl⟩
    obtain ⟨T3, hT3⟩ : ∃ T, strOfNums ((encB c false es2).drop 4) = T := ⟨_, rfl⟩
    have hcat : T7 = T2 ++ T3 := by rw [← hT7, ← hT2, ← hT3, HE3.out, strOf_append]
    have H7 : Hid (strOfNums (encB c false (es1 ++ es2)) = T2 ++ T3) := by unfold Hid; rw [hT7, hcat]
    have HT2 : Hid (strOfNums (encB c false es1) = T2) := hT2
    have HT3 : Hid (strOfNums ((encB c false es2).drop 4) = T3) := hT3
    have P1 : Hid (P3 wc w.heap.size c false a1 n1 cap1) := HP.out.later hb6
    clear hT7 hT2 hT3 hcat R2 R3 own2 own3 qzd pz qz p0 p1 p2 q0 q1 q2
    obtain ⟨p0, p1, p2, pz⟩ := P1.out
    go_wp2_with (first
      | (go_at_call 11; refine (encode_any _ _ _ _ _ (es1 ++ es2) _ R6 (by omega)).mono ?_; rintro e W7 ⟨ad7, k7, cp7, rfl, own7, hb7⟩; have hB7 := stp hB6 hb7; rw [HX3.out]; have hk7 : 4 + 20 * n1 + 20 * n2 = k7 := by { have h1 := own7.1; have h2 := HL3.out; simp at h1; omega }; subst hk7; have R7 := own7.row HB3.out (by omega); have S2 := H2.out.later hb7; have S3 := H3.out.later hb7; obtain ⟨p0, p1, p2, pz⟩ := P1.out.later hb7))
    have hsz : T2.size + T3.size ≤ 9223372036854775807 := by
      rw [← HT2.out, ← HT3.out, strOf_size, strOf_size, List.length_drop, HL1.out, HL2.out]
      omega
    have hw1 : IntKind.i64.wrap (20 * (n1 : Int)) = 20 * (n1 : Int) := wrap_in (by omega) (by omega)
    have hw2 : IntKind.i64.wrap (4 + 20 * (n1 : Int)) = 4 + 20 * (n1 : Int) := wrap_in (by omega) (by omega)
    have i3 : (4 : Int) ≤ ((4 + 20 * n2 : Nat) : Int) := by omega
    have i4 : ((4 + 20 * n2 : Nat) : Int) ≤ (cp3 : Int) := by omega
    have hR2 : Hid (Row8 W7 ad2 (4 + 20 * n1) (encB c false es1)) := S2
    have hR7 : Hid (Row8 W7 ad7 (4 + 20 * n1 + 20 * n2) (encB c false (es1 ++ es2))) := R7
    clear S2 R7
    by_cases hcp : cp3 = 4
    · rw [if_pos hcp] at S3
      have hR3 : Hid (Row8 W7 (some ⟨b3, o3, none⟩) (20 * n2) ((encB c false es2).drop 4)) := by unfold Hid; rw [Nat.add_sub_cancel_left] at S3; exact S3
      clear S3 H3
      have v2 : ∀ n, Sem.run Try.prog (convert 26 9 (.slice ad2 (4 + 20 * n1) cp2)) (W7.drewN n) = .ok (.string T2) (W7.drewN n) := fun n => by rw [← HT2.out]; exact conv_any _ (hR2.out.later (below_drewN (Below.refl _ _) n))
      have v3 : ∀ n, Sem.run Try.prog (convert 26 9 (.slice (some ⟨b3, o3, none⟩) (20 * n2) 0)) (W7.drewN n) = .ok (.string T3) (W7.drewN n) := fun n => by rw [← HT3.out]; exact conv_any _ (hR3.out.later (below_drewN (Below.refl _ _) n))
      have v7 : ∀ n, Sem.run Try.prog (convert 26 9 (.slice ad7 (4 + 20 * n1 + 20 * n2) cp7)) (W7.drewN n) = .ok (.string (T2 ++ T3)) (W7.drewN n) := fun n => by rw [← H7.out]; exact conv_any _ (hR7.out.later (below_drewN (Below.refl _ _) n))
      go_quiet (fail)
      go_wp2
      go_ret
      exact ⟨rfl, below_drewN hB7 _⟩
    · rw [if_neg hcp] at S3
      have hR3 : Hid (Row8 W7 (some ⟨b3, o3 + 4, none⟩) (20 * n2) ((encB c false es2).drop 4)) := by unfold Hid; rw [Nat.add_sub_cancel_left] at S3; exact S3
      clear S3 H3
      have v2 : ∀ n, Sem.run Try.prog (convert 26 9 (.slice ad2 (4 + 20 * n1) cp2)) (W7.drewN n) = .ok (.string T2) (W7.drewN n) := fun n => by rw [← HT2.out]; exact conv_any _ (hR2.out.later (below_drewN (Below.refl _ _) n))
      have v3 : ∀ n, Sem.run Try.prog (convert 26 9 (.slice (some ⟨b3, o3 + 4, none⟩) (20 * n2) (cp3 - 4))) (W7.drewN n) = .ok (.string T3) (W7.drewN n) := fun n => by rw [← HT3.out]; exact conv_any _ (hR3.out.later (below_drewN (Below.refl _ _) n))
      have v7 : ∀ n, Sem.run Try.prog (convert 26 9 (.slice ad7 (4 + 20 * n1 + 20 * n2) cp7)) (W7.drewN n) = .ok (.string (T2 ++ T3)) (W7.drewN n) := fun n => by rw [← H7.out]; exact conv_any _ (hR7.out.later (below_drewN (Below.refl _ _) n))
      go_quiet (fail)
      go_wp2
      go_ret
      exact ⟨rfl, below_drewN hB7 _⟩

set_option maxHeartbeats 1000000 in
theorem entries_bad (c : Int) (a1 : Option Addr) (n1 cap1 : Nat) (a2 : Option Addr) (n2 cap2 : Nat) (es1 es2 : List Ent) (w : World) (hr1 : RowE w a1 n1 es1) (hr2 : RowE w a2 n2 es2) (h1 : n1 ≤ 12) (h2 : n2 ≤ 12) (x : encX c false es1 ≠ 0 ∨ encX c false es2 ≠ 0) :
    Calls Try.prog 8 #[.agg #[.int .i64 c, .bool false, .slice a1 n1 cap1], .agg #[.int .i64 c, .bool false, .slice a2 n2 cap2]] w fun e w' => e = .returned (.bool true) ∧ Below w.heap.size w w' := by
  have HR1 : Hid (RowE w a1 n1 es1) := hr1
  have HR2 : Hid (RowE w a2 n2 es2) := hr2
  obtain ⟨y1, hy1⟩ : ∃ y, encX c false es1 = y := ⟨_, rfl⟩
  obtain ⟨y2, hy2⟩ : ∃ y, encX c false es2 = y := ⟨_, rfl⟩
  rw [hy1, hy2] at x
  have HX1 : Hid (encX c false es1 = y1) := hy1
  have HX2 : Hid (encX c false es2 = y2) := hy2
  have key : (y1 != 0) = true ∨ ((y1 != 0) = false ∧ (y2 != 0) = true) := by
    cases h : (y1 != 0)
    · right
      refine ⟨rfl, ?_⟩
      rw [bne_eq_false_iff_eq] at h
      rw [bne_iff_ne]
      rcases x with x | x
      · exact absurd h x
      · exact x
    · exact .inl rfl
  have i1 : ¬ 12 < (n1 : Int) := by omega
  have i2 : ¬ 12 < (n2 : Int) := by omega
  clear hr1 hr2 x hy1 hy2
  rcases key with k1 | ⟨k1, k2⟩
  all_goals
    go_enter Try.func8, Try.ntmps8
    go_wp2_with (first
      | (go_at_call 10; refine (awake_any _).mono ?_; rintro e W1 ⟨rfl, hb1⟩; obtain ⟨p0, p1, p2, pz⟩ := (two3 w c false a1 n1 cap1 c false a2 n2 cap2).1.later hb1; obtain ⟨q0, q1, q2, qz⟩ := (two3 w c false a1 n1 cap1 c false a2 n2 cap2).2.later hb1; have hB1 := Below.out2 hb1)
      | (go_at_call_of 11 (Value.agg #[Value.int IntKind.i64 c, Value.bool false, Value.slice a1 n1 cap1]); refine (encode_any _ _ _ _ _ es1 _ (HR1.out.later hB1) (by omega)).mono ?_; rintro e W2 ⟨ad2, k2, cp2, rfl, own2, hb2⟩; have hB2 := stp hB1 hb2; rw [HX1.out]; obtain ⟨p0, p1, p2, pz⟩ := P3.later ⟨p0, p1, p2, pz⟩ hb2; obtain ⟨q0, q1, q2, qz⟩ := P3.later ⟨q0, q1, q2, qz⟩ hb2)
      | (go_at_call_of 11 (Value.agg #[Value.int IntKind.i64 c, Value.bool false, Value.slice a2 n2 cap2]); refine (encode_any _ _ _ _ _ es2 _ (HR2.out.later hB2) (by omega)).mono ?_; rintro e W3 ⟨ad3, k3, cp3, rfl, own3, hb3⟩; have hB3 := stp hB2 hb3; rw [HX2.out]))
    go_ret
    exact ⟨rfl, hB3⟩

theorem law_entries (c1 : Int) (w1 : Bool) (a1 : Option Addr) (n1 cap1 : Nat) (es1 : List Ent) (c2 : Int) (w2 : Bool) (a2 : Option Addr) (n2 cap2 : Nat) (es2 : List Ent) (w : World) (hr1 : RowE w a1 n1 es1) (hr2 : RowE w a2 n2 es2) :
    Calls Try.prog 8 #[.agg #[.int .i64 c1, .bool w1, .slice a1 n1 cap1], .agg #[.int .i64 c2, .bool w2, .slice a2 n2 cap2]] w fun e w' => e = .returned (.bool true) ∧ Below w.heap.size w w' := by
  by_cases h : 12 < n1 ∨ 12 < n2 ∨ w1 = true ∨ w2 = true ∨ c1 ≠ c2
  · exact entries_no c1 w1 a1 n1 cap1 c2 w2 a2 n2 cap2 w h
  · simp only [not_or, Bool.not_eq_true, ne_eq, Decidable.not_not, Nat.not_lt] at h
    obtain ⟨h1, h2, rfl, rfl, rfl⟩ := h
    by_cases x1 : encX c1 false es1 = 0
    · by_cases x2 : encX c1 false es2 = 0
      · exact entries_yes c1 a1 n1 cap1 a2 n2 cap2 es1 es2 w hr1 hr2 h1 h2 x1 x2
      · exact entries_bad c1 a1 n1 cap1 a2 n2 cap2 es1 es2 w hr1 hr2 h1 h2 (.inr x2)
    · exact entries_bad c1 a1 n1 cap1 a2 n2 cap2 es1 es2 w hr1 hr2 h1 h2 (.inl x1)
end Go.Proofs.Ytabpillcpnnidaa
