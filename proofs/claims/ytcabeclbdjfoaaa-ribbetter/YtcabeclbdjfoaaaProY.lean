/- Contract of the program's Put. -/
import Derived.Test.YtcabeclbdjfoaaaProX
import Derived.Test.YtcabeclbdjfoaaaProL
import Derived.Test.YtcabeclbdjfoaaaProR
import Derived.Test.YtcabeclbdjfoaaaMapZ
import Derived.Deep.Cut
namespace Go.Proofs.Ytcabeclbdjfoaaa
open Go.RowKit
open Go.ChangeMaps (setBlock heap_setBlock_same heap_setBlock_other)

theorem set7_belowB {B : Nat} {a0 W : World} {b : Nat} {a l d s m n t : Int} (h : Below B a0 W) (hb : B ≤ b) : Below B a0 (set7 W b 0 a l d s m n t) := by
  unfold set7
  exact ((((((h.setCell hb _).setCell hb _).setCell hb _).setCell hb _).setCell hb _).setCell hb _).setCell hb _
theorem bset {B : Nat} {a W : World} (h : Below B a W) {n o : Nat} (hn : B ≤ n) (u : Value) : Below B a (W.setCell ⟨n, o, none⟩ u) := h.setCell hn u
abbrev objK (a l d : Int) : Obj := .cells #[.int .u32 a, .int .i64 l, .int .i64 d] 67
/-- What the first steps of Put leave: the route and its key in boxes. -/
structure Box9 (w : World) (X : Nat) (x : Rt) (V : World) : Prop where
  r : R7 V w.heap.size 0 x
  k0 : V.cell? ⟨X, 0, none⟩ = some (.int .u32 x.a)
  k1 : V.cell? ⟨X, 1, none⟩ = some (.int .i64 x.l)
  k2 : V.cell? ⟨X, 2, none⟩ = some (.int .i64 x.d)
  hX : w.heap.size < X
theorem Box9.kept {w : World} {X : Nat} {x : Rt} {V V' : World} (h : Box9 w X x V) {C : Nat → Prop} (hk : Keep C V V') (h1 : ∀ k, C k → k < w.heap.size) : Box9 w X x V' := by
  have hl := block_lt_of_cell h.r.1
  have hx := block_lt_of_cell h.k0
  have n1 : ¬ C w.heap.size := fun e => by have := h1 _ e; omega
  have n2 : ¬ C X := fun e => by have := h1 _ e; have := h.hX; omega
  exact ⟨h.r.far fun o => hk.cell (p := ⟨w.heap.size, o, none⟩) hl n1, (hk.cell (p := ⟨X, 0, none⟩) hx n2).trans h.k0, (hk.cell (p := ⟨X, 1, none⟩) hx n2).trans h.k1, (hk.cell (p := ⟨X, 2, none⟩) hx n2).trans h.k2, h.hX⟩
theorem Box9.later {w : World} {X : Nat} {x : Rt} {V V' : World} (h : Box9 w X x V) (hb : Below V.heap.size V V') : Box9 w X x V' :=
  ⟨h.r.later hb, cell_later hb h.k0, cell_later hb h.k1, cell_later hb h.k2, h.hX⟩
theorem Box9.start {w : World} {a l d s m n t : Int} {W1 : World} (hb : Below (w.alloc (objR a l d s m n t)).heap.size (w.alloc (objR a l d s m n t)) W1) : Box9 w W1.heap.size ⟨a, l, d, s, m, n, t⟩ (W1.alloc (objK a l d)) := by
  have hsz := hb.size
  simp at hsz
  exact ⟨((R7.new w a l d s m n t).later hb).later (below1 _ _), by simp [go_sem], by simp [go_sem], by simp [go_sem], by omega⟩
section
variable {N b : Nat} {q : Addr} {Bt B : Nat → Prop} {most full : Int} {L rs : List Rt} {T : List Pr} {es : Array MapEntry} {clock m : Nat}
set_option maxHeartbeats 2000000 in
theorem put_no (a l d s m' n t : Int) (w : World) (h : Tab w N b q Bt most full L rs T es clock m) (hB : ∀ k, B k ↔ k = N ∨ k = b ∨ Bt k) (hok : Rt.Ok ⟨a, l, d, s, m', n, t⟩) (hm : mayR ⟨a, l, d, s, m', n, t⟩ = false) :
    Calls Try.prog 17 #[.pointer (some ⟨N, 0, none⟩), valR a l d s m' n t] w (DoneC RB w B ⟨N, 0, none⟩ most (putR most L ⟨a, l, d, s, m', n, t⟩) (fullR most L ⟨a, l, d, s, m', n, t⟩ full) (m + 1) (putRX most L ⟨a, l, d, s, m', n, t⟩)) := by
  have hx : putRX most L ⟨a, l, d, s, m', n, t⟩ = 1 := by unfold putRX; rw [if_pos hm]
  have hL := putR_same (most := most) (L := L) (x := ⟨a, l, d, s, m', n, t⟩) (by rw [hx]; decide)
  have hf : fullR most L ⟨a, l, d, s, m', n, t⟩ full = full := by unfold fullR; rw [hx]; rfl
  rw [hx, hL, hf]
  have HE : Hid (∀ V, Below w.heap.size w V → DoneC RB w B ⟨N, 0, none⟩ most L full (m + 1) 1 (.returned (.int .i64 1)) V) := fun V hb => Tab.ends (h.later hb).up hB (fun k hk => .inl hk) (keep_of hb) rfl
  clear h hB hx hL hf
  go_enter Try.func17, Try.ntmps17
  go_wp2_with (go_at_call 34; refine (mayBe_any a l d s m' n t _ hok hm).mono ?_; rintro e W1 ⟨rfl, hb1⟩; have HB1 := Below.out1 hb1)
  go_ret
  exact HE.out _ HB1
/-- Up to the answer of the map. -/
theorem put_ask {a l d s m' n t : Int} {w : World} (h : Tab w N b q Bt most full L rs T es clock m) (hok : Rt.Ok ⟨a, l, d, s, m', n, t⟩) :
    (∃ v, (∀ W, W.heap[b]? = some (.map es clock) → (Instr.lookup 61 (.map (some b)) (.agg #[.int .u32 a, .int .i64 l, .int .i64 d]) true).run Try.prog W = .ok (.tuple #[v, .bool false]) W) ∧ v = valR 0 0 0 0 0 0 0 ∧ (∀ r ∈ rs, r.k ≠ ⟨a, l, d⟩) ∧ rAt ⟨a, l, d⟩ L = none) ∨
    (∃ (j : Nat) (r : Rt) (i : Nat), (∀ W, W.heap[b]? = some (.map es clock) → (Instr.lookup 61 (.map (some b)) (.agg #[.int .u32 a, .int .i64 l, .int .i64 d]) true).run Try.prog W = .ok (.tuple #[valRt r, .bool true]) W) ∧ rs[j]? = some r ∧ r.k = ⟨a, l, d⟩ ∧ r ∈ L ∧ rAt ⟨a, l, d⟩ L = some i) := by
  have hk : Ky.Ok ⟨a, l, d⟩ := ⟨hok.a0, hok.a1, hok.l0, hok.l1, hok.d0, hok.d1⟩
  rcases h.ask ⟨a, l, d⟩ with ⟨h1, h2⟩ | ⟨j, i, r, h1, h2, h3, h4⟩
  · exact .inl ⟨_, fun W hb => look_none h.im h.rts hk h1 W hb, rfl, h1, h2⟩
  · exact .inr ⟨j, r, i, fun W hb => look_some h.im h.rts h.nd hk h1 h2 W hb, h1, h2, h3, h4⟩
set_option maxHeartbeats 4000000 in
theorem put_old (a l d s m' n t : Int) (w : World) (h : Tab w N b q Bt most full L rs T es clock m) (hB : ∀ k, B k ↔ k = N ∨ k = b ∨ Bt k) (hok : Rt.Ok ⟨a, l, d, s, m', n, t⟩) (hm : mayR ⟨a, l, d, s, m', n, t⟩ = true)
    {j i : Nat} {r : Rt} (hlk : ∀ W, W.heap[b]? = some (.map es clock) → (Instr.lookup 61 (.map (some b)) (.agg #[.int .u32 a, .int .i64 l, .int .i64 d]) true).run Try.prog W = .ok (.tuple #[valRt r, .bool true]) W) (hr : rs[j]? = some r) (hrk : r.k = ⟨a, l, d⟩) (hrL : r ∈ L) (hi : rAt ⟨a, l, d⟩ L = some i) :
    Calls Try.prog 17 #[.pointer (some ⟨N, 0, none⟩), valR a l d s m' n t] w (DoneC RB w B ⟨N, 0, none⟩ most (putR most L ⟨a, l, d, s, m', n, t⟩) (fullR most L ⟨a, l, d, s, m', n, t⟩ full) (m + 1) (putRX most L ⟨a, l, d, s, m', n, t⟩)) := by
  have HT : Hid (Tab w N b q Bt most full L rs T es clock m) := h
  have hx : putRX most L ⟨a, l, d, s, m', n, t⟩ = 0 := by unfold putRX; rw [if_neg (by simp [hm]), if_pos (by show (rAt ⟨a, l, d⟩ L).isSome = true; rw [hi]; rfl)]
  have hf : fullR most L ⟨a, l, d, s, m', n, t⟩ full = full := by unfold fullR; rw [hx]; rfl
  rw [hx, hf]
  have hk : Ky.Ok ⟨a, l, d⟩ := ⟨hok.a0, hok.a1, hok.l0, hok.l1, hok.d0, hok.d1⟩
  have HS : Hid (∀ W, W.heap[b]? = some (.map es clock) → (Instr.mapUpdate 61 (.map (some b)) (.agg #[.int .u32 a, .int .i64 l, .int .i64 d]) (valR a l d s m' n t)).run Try.prog W = .ok () (setBlock W b (.map (setE es ⟨a, l, d⟩ ⟨a, l, d, s, m', n, t⟩ j) clock))) :=
    fun W hb => store_old h.im h.rts h.nd hk hr hrk ⟨a, l, d, s, m', n, t⟩ W hb
  have hjl := (List.getElem?_eq_some_iff.1 hr).1
  have hgd := goodR_put (most := most) h.gd (x := ⟨a, l, d, s, m', n, t⟩) hok.a0 hok.a1 hok.t0 hok.t1
  have HE : Hid (∀ V, Below w.heap.size w V → DoneC RB w B ⟨N, 0, none⟩ most (putR most L ⟨a, l, d, s, m', n, t⟩) full (m + 1) 0 (.returned (.int .i64 0)) (setBlock V b (.map (setE es ⟨a, l, d⟩ ⟨a, l, d, s, m', n, t⟩ j) clock))) := by
    intro V hb
    have hT := h.later hb
    have hk2 : Keep (fun k => k = b) w (setBlock V b (.map (setE es ⟨a, l, d⟩ ⟨a, l, d, s, m', n, t⟩ j) clock)) := (keep_of (B := fun k => k = b) hb).setBlock rfl hT.hb _
    refine Tab.ends (Bt' := Bt) (h.turn (hk2.mono fun i _ e => .inl e) (heap_setBlock_same hT.hb _) (h.im.set ⟨a, l, d, s, m', n, t⟩ rfl hjl) (perm_put_old h.gd.s hgd.s h.pm hr hrk hx) (trieC.up (trieC.keep h.tr hk2 (fun k e e' => h.bt (by rw [← e']; exact e)))) (fun k hk => .inl hk) (doms_keys h.dm (keys_put_old h.gd.s hx hrL hrk)) hgd (Nat.le_trans (putR_len most L _) (by have := h.ml; omega)) (putR_most h.mm _)) hB (fun k hk => .inl hk) (hk2.mono fun i _ e => (hB i).2 (.inr (.inl e))) rfl
  obtain ⟨ra, rl, rd, rs', rm, rn, rt⟩ := r
  simp only [valRt] at hlk
  clear h hB hx hf hk hgd hr hrk hrL hi
  go_enter Try.func17, Try.ntmps17
  go_wp2_with (go_at_call 34; refine (mayBe_any a l d s m' n t _ hok hm).mono ?_; rintro e W1 ⟨rfl, hb1⟩; obtain ⟨x0, x1, x2, x3, x4, x5, x6⟩ := ((R7.new w a l d s m' n t).later hb1).z; have HX : Hid (Box9 w W1.heap.size ⟨a, l, d, s, m', n, t⟩ (W1.alloc (objK a l d))) := Box9.start hb1)
  have HB0 : Hid (Below w.heap.size w (W1.alloc (objK a l d))) := stp (Below.out1 hb1) (below1 _ _)
  obtain ⟨K, hK⟩ : ∃ K, (W1.alloc (objK a l d)).heap.size = K := ⟨_, rfl⟩
  have HKK : Hid ((W1.alloc (objK a l d)).heap.size = K) := hK
  obtain ⟨X, hX⟩ : ∃ X, W1.heap.size = X := ⟨_, rfl⟩
  rw [hX] at HX ⊢
  obtain ⟨W2, hW2⟩ : ∃ W2, W1.alloc (objK a l d) = W2 := ⟨_, rfl⟩
  rw [hW2] at HX HB0 HKK ⊢
  have HF : Hid (∀ w', Below K W2 w' → Below K W2 w' ∧ w'.cell? ⟨N, 0, none⟩ = some (.map (some b)) ∧ w'.cell? ⟨X, 0, none⟩ = some (.int .u32 a) ∧ w'.cell? ⟨X, 1, none⟩ = some (.int .i64 l) ∧ w'.cell? ⟨X, 2, none⟩ = some (.int .i64 d) ∧ w'.heap[b]? = some (.map es clock) ∧ K ≤ w'.heap.size) :=
    fun w' hb => by
      have hb' : Below W2.heap.size W2 w' := by rw [HKK.out]; exact hb
      have hx := HX.out.later hb'
      have hT := (HT.out.later HB0.out).later hb'
      exact ⟨hb, hT.c0, hx.k0, hx.k1, hx.k2, hT.hb, by have := hb.size; rw [HKK.out] at this; exact this⟩
  have HN2 : Hid (K ≤ W2.heap.size) := Nat.le_of_eq HKK.out.symm
  clear x0 x1 x2 x3 x4 x5 x6 hb1 hK hX hW2
  go_cut [6, 7] from 18 (fun _ s7 wx => s7 = .bool true ∧ Hid (Below K W2 wx))
  case first =>
    go_region_held3 (fun w' => Below K W2 w' ∧ w'.cell? ⟨N, 0, none⟩ = some (.map (some b)) ∧ w'.cell? ⟨X, 0, none⟩ = some (.int .u32 a) ∧ w'.cell? ⟨X, 1, none⟩ = some (.int .i64 l) ∧ w'.cell? ⟨X, 2, none⟩ = some (.int .i64 d) ∧ w'.heap[b]? = some (.map es clock) ∧ K ≤ w'.heap.size)
      ((refine HF.out _ ?_; (repeat (with_reducible refine bset ?_ HN2.out _)); (try (with_reducible refine Below.drew ?_)); (repeat (with_reducible refine bset ?_ HN2.out _)); first | (with_reducible exact Below.refl _ _) | (with_reducible exact (Below.refl _ _).alloc HN2.out _)))
      (fail)
    all_goals
      go_wp2_with fail
      go_meet
      exact ⟨rfl, ((Below.refl _ _).alloc HN2.out _).drew⟩
  case rest =>
    obtain ⟨rfl, hb3⟩ := hcut
    have hb3' : Below W2.heap.size W2 wc := by rw [HKK.out]; exact hb3.out
    have hbw : Hid (Below w.heap.size w wc) := stp HB0.out hb3'
    have hX := HX.out.later hb3'
    have hTc := HT.out.later hbw.out
    have hbl := HT.out.b_lt
    have c0 := hTc.c0
    have hup := HS.out wc.drew hTc.hb
    have hSB : Keep (fun k => k = b) wc (setBlock wc.drew b (.map (setE es ⟨a, l, d⟩ ⟨a, l, d, s, m', n, t⟩ j) clock)) := (Keep.refl (fun k => k = b) wc).drew.setBlock rfl hTc.hb _
    have hX2 := hX.kept hSB (fun k e => by rw [e]; exact hbl)
    have n0 := (hSB.cell (p := ⟨N, 0, none⟩) hTc.lt (fun e => HT.out.nb e)).trans c0
    obtain ⟨x0, x1, x2, x3, x4, x5, x6⟩ := hX.r
    obtain ⟨z0, z1, z2, z3, z4, z5, z6⟩ := hX2.r
    have k0 := hX.k0
    have k1 := hX.k1
    have k2 := hX.k2
    have j0 := hX2.k0
    have j1 := hX2.k1
    have j2 := hX2.k2
    simp only [Nat.zero_add] at x0 x1 x2 x3 x4 x5 x6 z0 z1 z2 z3 z4 z5 z6 k0 k1 k2 j0 j1 j2
    clear HF HS hlk hTc hX hX2 hSB
    go_wp2
    go_region_held3 (fun w' => w'.cell? ⟨N, 0, none⟩ = some (.map (some b)) ∧ w'.cell? ⟨X, 0, none⟩ = some (.int .u32 a) ∧ w'.cell? ⟨X, 1, none⟩ = some (.int .i64 l) ∧ w'.cell? ⟨X, 2, none⟩ = some (.int .i64 d) ∧ w'.cell? ⟨w.heap.size, 0, none⟩ = some (.int .u32 a) ∧ w'.cell? ⟨w.heap.size, 1, none⟩ = some (.int .i64 l) ∧ w'.cell? ⟨w.heap.size, 2, none⟩ = some (.int .i64 d) ∧ w'.cell? ⟨w.heap.size, 3, none⟩ = some (.int .i64 s) ∧ w'.cell? ⟨w.heap.size, 4, none⟩ = some (.int .i64 m') ∧ w'.cell? ⟨w.heap.size, 5, none⟩ = some (.int .i64 n) ∧ w'.cell? ⟨w.heap.size, 6, none⟩ = some (.int .u16 t))
      (first | with_reducible exact ⟨n0, j0, j1, j2, z0, z1, z2, z3, z4, z5, z6⟩ | exact ⟨c0, k0, k1, k2, x0, x1, x2, x3, x4, x5, x6⟩)
      (fail)
    go_wp2
    go_ret
    exact HE.out _ hbw.out.drew
set_option maxHeartbeats 4000000 in
theorem put_full (a l d s m' n t : Int) (w : World) (h : Tab w N b q Bt most full L rs T es clock m) (hm1 : m ≤ 1000) (hB : ∀ k, B k ↔ k = N ∨ k = b ∨ Bt k) (hok : Rt.Ok ⟨a, l, d, s, m', n, t⟩) (hm : mayR ⟨a, l, d, s, m', n, t⟩ = true)
    (hlk : ∀ W, W.heap[b]? = some (.map es clock) → (Instr.lookup 61 (.map (some b)) (.agg #[.int .u32 a, .int .i64 l, .int .i64 d]) true).run Try.prog W = .ok (.tuple #[valR 0 0 0 0 0 0 0, .bool false]) W) (hr : rAt ⟨a, l, d⟩ L = none) (hfl : most ≤ (L.length : Int)) :
    Calls Try.prog 17 #[.pointer (some ⟨N, 0, none⟩), valR a l d s m' n t] w (DoneC RB w B ⟨N, 0, none⟩ most (putR most L ⟨a, l, d, s, m', n, t⟩) (fullR most L ⟨a, l, d, s, m', n, t⟩ full) (m + 1) (putRX most L ⟨a, l, d, s, m', n, t⟩)) := by
  have HT : Hid (Tab w N b q Bt most full L rs T es clock m) := h
  have hx : putRX most L ⟨a, l, d, s, m', n, t⟩ = 4 := by unfold putRX; rw [if_neg (by simp [hm]), if_neg (by show ¬ (rAt ⟨a, l, d⟩ L).isSome = true; rw [hr]; simp), if_pos hfl]
  have hL := putR_same (most := most) (L := L) (x := ⟨a, l, d, s, m', n, t⟩) (by rw [hx]; decide)
  have hf : fullR most L ⟨a, l, d, s, m', n, t⟩ full = full + 1 := by unfold fullR; rw [hx]; rfl
  rw [hx, hL, hf]
  have hfu : 0 ≤ full ∧ full ≤ 1000 := ⟨h.f0, by have := h.f1; omega⟩
  have hes : most ≤ (es.size : Int) := by rw [h.size]; exact hfl
  have HE : Hid (∀ V, Below w.heap.size w V → DoneC RB w B ⟨N, 0, none⟩ most L (full + 1) (m + 1) 4 (.returned (.int .i64 4)) (V.setCell ⟨N, 3, none⟩ (.int .i64 (full + 1)))) := fun V hb =>
    Tab.ends ((h.later hb).setFull (by omega) (by have := h.f1; omega)) hB (fun k hk => .inl hk) ((keep_of hb).setCell (p := ⟨N, 3, none⟩) ((hB N).2 (.inl rfl)) _) rfl
  obtain ⟨hfu0, hfu1⟩ := hfu
  clear h hB hx hL hf hr hm1 hfl
  go_enter Try.func17, Try.ntmps17
  go_wp2_with (go_at_call 34; refine (mayBe_any a l d s m' n t _ hok hm).mono ?_; rintro e W1 ⟨rfl, hb1⟩; obtain ⟨x0, x1, x2, x3, x4, x5, x6⟩ := ((R7.new w a l d s m' n t).later hb1).z; have HX : Hid (Box9 w W1.heap.size ⟨a, l, d, s, m', n, t⟩ (W1.alloc (objK a l d))) := Box9.start hb1)
  have HB0 : Hid (Below w.heap.size w (W1.alloc (objK a l d))) := stp (Below.out1 hb1) (below1 _ _)
  obtain ⟨K, hK⟩ : ∃ K, (W1.alloc (objK a l d)).heap.size = K := ⟨_, rfl⟩
  have HKK : Hid ((W1.alloc (objK a l d)).heap.size = K) := hK
  obtain ⟨X, hX⟩ : ∃ X, W1.heap.size = X := ⟨_, rfl⟩
  rw [hX] at HX ⊢
  obtain ⟨W2, hW2⟩ : ∃ W2, W1.alloc (objK a l d) = W2 := ⟨_, rfl⟩
  rw [hW2] at HX HB0 HKK ⊢
  have HF : Hid (∀ w', Below K W2 w' → Below K W2 w' ∧ w'.cell? ⟨N, 0, none⟩ = some (.map (some b)) ∧ w'.cell? ⟨X, 0, none⟩ = some (.int .u32 a) ∧ w'.cell? ⟨X, 1, none⟩ = some (.int .i64 l) ∧ w'.cell? ⟨X, 2, none⟩ = some (.int .i64 d) ∧ w'.heap[b]? = some (.map es clock) ∧ K ≤ w'.heap.size) :=
    fun w' hb => by
      have hb' : Below W2.heap.size W2 w' := by rw [HKK.out]; exact hb
      have hx := HX.out.later hb'
      have hT := (HT.out.later HB0.out).later hb'
      exact ⟨hb, hT.c0, hx.k0, hx.k1, hx.k2, hT.hb, by have := hb.size; rw [HKK.out] at this; exact this⟩
  have HN2 : Hid (K ≤ W2.heap.size) := Nat.le_of_eq HKK.out.symm
  clear x0 x1 x2 x3 x4 x5 x6 hb1 hK hX hW2
  go_cut [6, 7] from 18 (fun _ s7 wx => s7 = .bool false ∧ Hid (Below K W2 wx))
  case first =>
    go_region_held3 (fun w' => Below K W2 w' ∧ w'.cell? ⟨N, 0, none⟩ = some (.map (some b)) ∧ w'.cell? ⟨X, 0, none⟩ = some (.int .u32 a) ∧ w'.cell? ⟨X, 1, none⟩ = some (.int .i64 l) ∧ w'.cell? ⟨X, 2, none⟩ = some (.int .i64 d) ∧ w'.heap[b]? = some (.map es clock) ∧ K ≤ w'.heap.size)
      ((refine HF.out _ ?_; (repeat (with_reducible refine bset ?_ HN2.out _)); (try (with_reducible refine Below.drew ?_)); (repeat (with_reducible refine bset ?_ HN2.out _)); first | (with_reducible exact Below.refl _ _) | (with_reducible exact (Below.refl _ _).alloc HN2.out _)))
      (fail)
    all_goals
      go_wp2_with fail
      go_meet
      exact ⟨rfl, ((Below.refl _ _).alloc HN2.out _).drew⟩
  case rest =>
    obtain ⟨rfl, hb3⟩ := hcut
    have hb3' : Below W2.heap.size W2 wc := by rw [HKK.out]; exact hb3.out
    have hbw : Hid (Below w.heap.size w wc) := stp HB0.out hb3'
    have HXc : Hid (Box9 w X ⟨a, l, d, s, m', n, t⟩ wc) := HX.out.later hb3'
    have hTc := HT.out.later hbw.out
    have c0 := hTc.c0
    have c2 := hTc.c2
    have c3 := hTc.c3
    have hz := hTc.fz
    have hhb := hTc.hb
    have hlm : ∀ (ty : TypeId) (W : World), W.heap[b]? = some (.map es clock) → (Builtin.len_ #[61] ty #[.map (some b)]).run Try.prog W = .ok (.int .i64 (es.size : Int)) W := fun ty W hb => run_lenM ty W hb
    clear hTc HF hb3 hb3' hlk
    go_wp2
    go_region_held3 (fun w' => w'.cell? ⟨N, 0, none⟩ = some (.map (some b)) ∧ w'.cell? ⟨N, 2, none⟩ = some (.int .i64 most) ∧ w'.heap[b]? = some (.map es clock)) (exact ⟨c0, c2, hhb⟩) (fail)
    go_wp2
    go_ret
    exact HE.out _ hbw.out.drew
set_option maxHeartbeats 4000000 in
theorem put_new (a l d s m' n t : Int) (w : World) (h : Tab w N b q Bt most full L rs T es clock m) (hm1 : m ≤ 1000) (hB : ∀ k, B k ↔ k = N ∨ k = b ∨ Bt k) (hok : Rt.Ok ⟨a, l, d, s, m', n, t⟩) (hm : mayR ⟨a, l, d, s, m', n, t⟩ = true)
    (hlk : ∀ W, W.heap[b]? = some (.map es clock) → (Instr.lookup 61 (.map (some b)) (.agg #[.int .u32 a, .int .i64 l, .int .i64 d]) true).run Try.prog W = .ok (.tuple #[valR 0 0 0 0 0 0 0, .bool false]) W) (hr : rAt ⟨a, l, d⟩ L = none) (hrr : ∀ r ∈ rs, r.k ≠ ⟨a, l, d⟩) (hfl : (L.length : Int) < most) :
    Calls Try.prog 17 #[.pointer (some ⟨N, 0, none⟩), valR a l d s m' n t] w (DoneC RB w B ⟨N, 0, none⟩ most (putR most L ⟨a, l, d, s, m', n, t⟩) (fullR most L ⟨a, l, d, s, m', n, t⟩ full) (m + 1) (putRX most L ⟨a, l, d, s, m', n, t⟩)) := by
  have HT : Hid (Tab w N b q Bt most full L rs T es clock m) := h
  have hx : putRX most L ⟨a, l, d, s, m', n, t⟩ = 0 := putRX_new hm hfl
  have hf : fullR most L ⟨a, l, d, s, m', n, t⟩ full = full := by unfold fullR; rw [hx]; rfl
  rw [hx, hf]
  have hmd := may_dom hm
  simp only at hmd
  have hes : ¬ most ≤ (es.size : Int) := by rw [h.size]; omega
  have HK : Hid (Px.Ok ⟨a, l⟩) := ⟨hok.a0, hok.a1, hok.l0, hok.l1⟩
  have HM : Hid (m ≤ 1000) := hm1
  have hrL : ∀ r ∈ L, r.k ≠ ⟨a, l, d⟩ := rAt_none.1 hr
  obtain ⟨u, hu⟩ : ∃ u, setR a l L = u := ⟨_, rfl⟩
  have hult : u < 65536 := by rw [← hu]; exact set_lt h.gd a l
  have HU : Hid (setR a l L = u) := hu
  obtain ⟨v, hv⟩ : ∃ v, u ||| 2 ^ d.toNat = v := ⟨_, rfl⟩
  have hvlt : v < 65536 := by rw [← hv]; have := pow_bd (n := d.toNat) (by omega); exact or_lt hult (by omega)
  have hnb : u.testBit d.toNat = false := by rw [← hu]; exact setR_not (x := ⟨a, l, d, s, m', n, t⟩) h.gd hmd.2.1 hrL
  have hae := addE_ok (domB_true hmd.2.1 hmd.2.2.1) hnb
  have HA : Hid (addT u d = v ∧ addE u d = 0) := ⟨hae.2.trans hv, hae.1⟩
  have ew : IntKind.i64.wrap (v : Int) = (v : Int) := wrap_in (by omega) (by omega)
  have hk : Ky.Ok ⟨a, l, d⟩ := ⟨hok.a0, hok.a1, hok.l0, hok.l1, hok.d0, hok.d1⟩
  have HS : Hid (∀ W, W.heap[b]? = some (.map es clock) → (Instr.mapUpdate 61 (.map (some b)) (.agg #[.int .u32 a, .int .i64 l, .int .i64 d]) (valR a l d s m' n t)).run Try.prog W = .ok () (setBlock W b (.map (pushE es ⟨a, l, d⟩ ⟨a, l, d, s, m', n, t⟩ clock) (clock + 1)))) :=
    fun W hb => store_new h.im h.rts hk hrr ⟨a, l, d, s, m', n, t⟩ W hb
  have hgd := goodR_put (most := most) h.gd (x := ⟨a, l, d, s, m', n, t⟩) hok.a0 hok.a1 hok.t0 hok.t1
  have hpx : putX most T a l = 0 := doms_put0 h.dm h.srt hmd.1 hfl
  have HP : Hid (∀ W, Below w.heap.size w W → Calls Try.prog 37 #[.pointer (some q), valX a l, .int .i64 (v : Int)] W (DoneT TR W Bt q most (putL most T a l (v : Int)) (m + 1) 0)) := fun W hb => by
    have := trieC.put a l (v : Int) (trieC.later h.tr hb) hm1 ⟨hok.a0, hok.a1, hok.l0, hok.l1, by show _ ≤ (v : Int); omega, by show (v : Int) ≤ _; omega⟩
    rw [hpx] at this
    exact this
  have HE : Hid (∀ W4 W6 Bt', Below w.heap.size w W4 → TR W6 Bt' q most (putL most T a l (v : Int)) (m + 1) → (∀ k, Bt' k → Bt k ∨ W4.heap.size ≤ k) → Keep Bt W4 W6 → W6.heap[b]? = some (.map es clock) ∧
      DoneC RB w B ⟨N, 0, none⟩ most (putR most L ⟨a, l, d, s, m', n, t⟩) full (m + 1) 0 (.returned (.int .i64 0)) (setBlock W6.drew b (.map (pushE es ⟨a, l, d⟩ ⟨a, l, d, s, m', n, t⟩ clock) (clock + 1)))) := by
    intro W4 W6 Bt' hb4 htr hBt hk6
    have hT4 := h.later hb4
    have hb6 : W6.heap[b]? = some (.map es clock) := (hk6.block b hT4.b_lt h.bt).trans hT4.hb
    have hkb : Keep (fun k => k = b) W6 (setBlock W6.drew b (.map (pushE es ⟨a, l, d⟩ ⟨a, l, d, s, m', n, t⟩ clock) (clock + 1))) := (Keep.refl (fun k => k = b) W6).drew.setBlock rfl hb6 _
    have hBt' : ∀ k, Bt' k → Bt k ∨ w.heap.size ≤ k := fun k hk => (hBt k hk).imp id fun e => Nat.le_trans hb4.size e
    have hnb' : ∀ k, Bt' k → ¬ k = b := fun k hk e => by
      rcases hBt' k hk with e1 | e1
      · exact h.bt (by rw [← e]; exact e1)
      · have := h.b_lt; omega
    have hkt : Keep (fun k => k = b ∨ Bt k) w (setBlock W6.drew b (.map (pushE es ⟨a, l, d⟩ ⟨a, l, d, s, m', n, t⟩ clock) (clock + 1))) :=
      (keep_then hb4 (hk6.mono fun i _ e => .inr e)).trans (C := fun k => k = b) hkb (fun i _ e => .inl e)
    refine ⟨hb6, Tab.ends (Bt' := Bt') (h.turn hkt (heap_setBlock_same (w := W6.drew) hb6 _) (h.im.push ⟨a, l, d, s, m', n, t⟩ rfl clock) (perm_put_new h.gd.s hgd.s h.pm hrr hx) (trieC.keep htr hkb hnb') hBt' (doms_put h.dm h.srt hpx (fun p hp => of_put h.gd.s hx p hp) ⟨⟨a, l, d, s, m', n, t⟩, (mem_putR h.gd.s hx).2 (.inl rfl), rfl, rfl⟩ ?_) hgd (Nat.le_trans (putR_len most L _) (by have := h.ml; omega)) (putR_most h.mm _)) hB hBt' (hkt.mono fun i _ e => (hB i).2 (.inr e)) rfl⟩
    have := setR_put (x := ⟨a, l, d, s, m', n, t⟩) h.gd.s hx hrL
    simp only at this
    rw [this, hu, hv]
  have hBlt : ∀ k, Bt k → k < w.heap.size := trieC.lt h.tr
  have HBlt : Hid (∀ k, Bt k → k < w.heap.size) := hBlt
  clear h hB hx hf hr hm1 hfl hrr hrL hu hv hnb hae hk hgd hpx hBlt hmd
  go_enter Try.func17, Try.ntmps17
  go_wp2_with (go_at_call 34; refine (mayBe_any a l d s m' n t _ hok hm).mono ?_; rintro e W1 ⟨rfl, hb1⟩; obtain ⟨x0, x1, x2, x3, x4, x5, x6⟩ := ((R7.new w a l d s m' n t).later hb1).z; have HX : Hid (Box9 w W1.heap.size ⟨a, l, d, s, m', n, t⟩ (W1.alloc (objK a l d))) := Box9.start hb1)
  have HB0 : Hid (Below w.heap.size w (W1.alloc (objK a l d))) := stp (Below.out1 hb1) (below1 _ _)
  obtain ⟨K, hK⟩ : ∃ K, (W1.alloc (objK a l d)).heap.size = K := ⟨_, rfl⟩
  have HKK : Hid ((W1.alloc (objK a l d)).heap.size = K) := hK
  obtain ⟨X, hX⟩ : ∃ X, W1.heap.size = X := ⟨_, rfl⟩
  rw [hX] at HX ⊢
  obtain ⟨W2, hW2⟩ : ∃ W2, W1.alloc (objK a l d) = W2 := ⟨_, rfl⟩
  rw [hW2] at HX HB0 HKK ⊢
  have HF : Hid (∀ w', Below K W2 w' → Below K W2 w' ∧ w'.cell? ⟨N, 0, none⟩ = some (.map (some b)) ∧ w'.cell? ⟨X, 0, none⟩ = some (.int .u32 a) ∧ w'.cell? ⟨X, 1, none⟩ = some (.int .i64 l) ∧ w'.cell? ⟨X, 2, none⟩ = some (.int .i64 d) ∧ w'.heap[b]? = some (.map es clock) ∧ K ≤ w'.heap.size) :=
    fun w' hb => by
      have hb' : Below W2.heap.size W2 w' := by rw [HKK.out]; exact hb
      have hx := HX.out.later hb'
      have hT := (HT.out.later HB0.out).later hb'
      exact ⟨hb, hT.c0, hx.k0, hx.k1, hx.k2, hT.hb, by have := hb.size; rw [HKK.out] at this; exact this⟩
  have HN2 : Hid (K ≤ W2.heap.size) := Nat.le_of_eq HKK.out.symm
  clear x0 x1 x2 x3 x4 x5 x6 hb1 hK hX hW2
  go_cut [6, 7] from 18 (fun _ s7 wx => s7 = .bool false ∧ Hid (Below K W2 wx))
  case first =>
    go_region_held3 (fun w' => Below K W2 w' ∧ w'.cell? ⟨N, 0, none⟩ = some (.map (some b)) ∧ w'.cell? ⟨X, 0, none⟩ = some (.int .u32 a) ∧ w'.cell? ⟨X, 1, none⟩ = some (.int .i64 l) ∧ w'.cell? ⟨X, 2, none⟩ = some (.int .i64 d) ∧ w'.heap[b]? = some (.map es clock) ∧ K ≤ w'.heap.size)
      ((refine HF.out _ ?_; (repeat (with_reducible refine bset ?_ HN2.out _)); (try (with_reducible refine Below.drew ?_)); (repeat (with_reducible refine bset ?_ HN2.out _)); first | (with_reducible exact Below.refl _ _) | (with_reducible exact (Below.refl _ _).alloc HN2.out _)))
      (fail)
    all_goals
      go_wp2_with fail
      go_meet
      exact ⟨rfl, ((Below.refl _ _).alloc HN2.out _).drew⟩
  case rest =>
    obtain ⟨rfl, hb3⟩ := hcut
    have hb3' : Below W2.heap.size W2 wc := by rw [HKK.out]; exact hb3.out
    have hbw : Hid (Below w.heap.size w wc) := stp HB0.out hb3'
    have HXc : Hid (Box9 w X ⟨a, l, d, s, m', n, t⟩ wc) := HX.out.later hb3'
    have hTc := HT.out.later hbw.out
    have c0 := hTc.c0
    have c2 := hTc.c2
    have c3 := hTc.c3
    have hz := hTc.fz
    have hhb := hTc.hb
    have hlm : ∀ (ty : TypeId) (W : World), W.heap[b]? = some (.map es clock) → (Builtin.len_ #[61] ty #[.map (some b)]).run Try.prog W = .ok (.int .i64 (es.size : Int)) W := fun ty W hb => run_lenM ty W hb
    clear hTc HF hb3 hb3' hlk
    go_wp2
    go_region_held3 (fun w' => w'.cell? ⟨N, 0, none⟩ = some (.map (some b)) ∧ w'.cell? ⟨N, 2, none⟩ = some (.int .i64 most) ∧ w'.heap[b]? = some (.map es clock)) (exact ⟨c0, c2, hhb⟩) (fail)
    go_wp2
    have hbN := hbw.out.drew
    have HXN : Hid (Box9 w X ⟨a, l, d, s, m', n, t⟩ wc.drew) := HXc.out.later (Below.refl _ _).drew
    clear c0 c2 c3 hz hhb hlm HXc hbw
    generalize wc.drew = W3 at hbN HXN ⊢
    have HbN : Hid (Below w.heap.size w W3) := hbN
    have HQ9 : Hid (∀ V, Below W3.heap.size W3 V → V.cell? ⟨w.heap.size, 0, none⟩ = some (.int .u32 a) ∧ V.cell? ⟨w.heap.size, 1, none⟩ = some (.int .i64 l) ∧ V.cell? ⟨w.heap.size, 2, none⟩ = some (.int .i64 d)) := fun V hb => by
      obtain ⟨x0, x1, x2, -⟩ := (HXN.out.later hb).r
      simp only [Nat.zero_add] at x0 x1 x2
      exact ⟨x0, x1, x2⟩
    clear hbN
    go_region_held3 (fun w' => w'.cell? ⟨w.heap.size, 0, none⟩ = some (.int .u32 a) ∧ w'.cell? ⟨w.heap.size, 1, none⟩ = some (.int .i64 l) ∧ w'.cell? ⟨w.heap.size, 2, none⟩ = some (.int .i64 d))
      (first | exact HQ9.out _ ((Below.refl _ _).drew.trans hb4) | exact HQ9.out _ (Below.refl _ _).drew)
      (first
        | (go_at_call 36; refine (domainsOf_any a l _ (HT.out.later HbN.out.drew) (Nat.le_trans HM.out (by decide)) HK.out).mono ?_; rw [HU.out]; rintro e W4 ⟨rfl, hb4⟩)
        | (go_at_call 35; refine (addT_any u d _ hult HA.out.1 HA.out.2).mono ?_; rintro e W5 ⟨rfl, rfl⟩))
    have hb43 : Hid (Below W3.heap.size W3 W5) := (Below.refl _ _).drew.trans hb4
    have hb4w : Hid (Below w.heap.size w W5) := stp HbN.out hb43.out
    have HX4 : Hid (Box9 w X ⟨a, l, d, s, m', n, t⟩ W5) := HXN.out.later hb43.out
    have c1 := (HT.out.later hb4w.out).c1
    obtain ⟨x0, x1, -⟩ := HX4.out.r
    simp only [Nat.zero_add] at x0 x1
    clear hb4 HQ9
    go_wp2
    go_region_held3 (fun w' => w'.cell? ⟨N, 1, none⟩ = some (.pointer (some q)) ∧ w'.cell? ⟨w.heap.size, 0, none⟩ = some (.int .u32 a) ∧ w'.cell? ⟨w.heap.size, 1, none⟩ = some (.int .i64 l))
      (first | exact ⟨z1, y0, y1⟩ | exact ⟨c1, x0, x1⟩)
      ((go_at_call 37; refine (HP.out _ hb4w.out.drew).mono ?_; rintro e W6 ⟨Bt6, rfl, htr6, hBt6, hk6⟩; have hk6' : Keep Bt W5 W6 := ⟨hk6.os, hk6.tape, hk6.output, hk6.size, hk6.block⟩; have HX6 : Hid (Box9 w X ⟨a, l, d, s, m', n, t⟩ W6) := HX4.out.kept hk6' HBlt.out; obtain ⟨y0, y1, -⟩ := HX6.out.r; simp only [Nat.zero_add] at y0 y1; have z1 := (hk6'.cell (p := ⟨N, 1, none⟩) (HT.out.later hb4w.out).lt HT.out.nt).trans c1))
    have hhb6 := (HE.out W5 W6 Bt6 hb4w.out htr6 hBt6 hk6').1
    have HTR6 : Hid (TR W6 Bt6 q most (putL most T a l (v : Int)) (m + 1)) := htr6
    have HBT6 : Hid (∀ k, Bt6 k → Bt k ∨ W5.heap.size ≤ k) := hBt6
    have HK6 : Hid (Keep Bt W5 W6) := hk6'
    have hup := HS.out W6.drew hhb6
    have c0 := (hk6'.cell (p := ⟨N, 0, none⟩) (HT.out.later hb4w.out).lt HT.out.nt).trans (HT.out.later hb4w.out).c0
    have hSB : Keep (fun k => k = b) W6 (setBlock W6.drew b (.map (pushE es ⟨a, l, d⟩ ⟨a, l, d, s, m', n, t⟩ clock) (clock + 1))) := (Keep.refl (fun k => k = b) W6).drew.setBlock rfl hhb6 _
    have hN6 : N < W6.heap.size := Nat.lt_of_lt_of_le (HT.out.later hb4w.out).lt hk6'.size
    have hX2 := HX6.out.kept hSB (fun k e => by rw [e]; exact HT.out.b_lt)
    have n0 := (hSB.cell (p := ⟨N, 0, none⟩) hN6 (fun e => HT.out.nb e)).trans c0
    clear x0 x1 y0 y1 z1 c1
    obtain ⟨x0, x1, x2, x3, x4, x5, x6⟩ := HX6.out.r
    obtain ⟨z0, z1, z2, z3, z4, z5, z6⟩ := hX2.r
    have k0 := HX6.out.k0
    have k1 := HX6.out.k1
    have k2 := HX6.out.k2
    have j0 := hX2.k0
    have j1 := hX2.k1
    have j2 := hX2.k2
    simp only [Nat.zero_add] at x0 x1 x2 x3 x4 x5 x6 z0 z1 z2 z3 z4 z5 z6 k0 k1 k2 j0 j1 j2
    clear HS hX2 hSB hk6 hk6' hBt6 htr6 hhb6
    go_wp2
    go_region_held3 (fun w' => w'.cell? ⟨N, 0, none⟩ = some (.map (some b)) ∧ w'.cell? ⟨X, 0, none⟩ = some (.int .u32 a) ∧ w'.cell? ⟨X, 1, none⟩ = some (.int .i64 l) ∧ w'.cell? ⟨X, 2, none⟩ = some (.int .i64 d) ∧ w'.cell? ⟨w.heap.size, 0, none⟩ = some (.int .u32 a) ∧ w'.cell? ⟨w.heap.size, 1, none⟩ = some (.int .i64 l) ∧ w'.cell? ⟨w.heap.size, 2, none⟩ = some (.int .i64 d) ∧ w'.cell? ⟨w.heap.size, 3, none⟩ = some (.int .i64 s) ∧ w'.cell? ⟨w.heap.size, 4, none⟩ = some (.int .i64 m') ∧ w'.cell? ⟨w.heap.size, 5, none⟩ = some (.int .i64 n) ∧ w'.cell? ⟨w.heap.size, 6, none⟩ = some (.int .u16 t))
      (first | with_reducible exact ⟨n0, j0, j1, j2, z0, z1, z2, z3, z4, z5, z6⟩ | exact ⟨c0, k0, k1, k2, x0, x1, x2, x3, x4, x5, x6⟩)
      (fail)
    go_wp2
    go_ret
    exact (HE.out W5 W6 Bt6 hb4w.out HTR6.out HBT6.out HK6.out).2
end
end Go.Proofs.Ytcabeclbdjfoaaa
