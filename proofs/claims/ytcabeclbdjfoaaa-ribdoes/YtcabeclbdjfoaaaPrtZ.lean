/- Contracts of the program's New, Len, Get, isUsed. -/
import Derived.Test.YtcabeclbdjfoaaaPlaceA
import Derived.Test.YtcabeclbdjfoaaaNodB
namespace Go.Proofs.Ytcabeclbdjfoaaa
open Go.RowKit

/-- A trie with the root alone. -/
theorem good_new : Good [⟨0, 0, 0, false, 0⟩] fun _ => [] := by
  refine ⟨by decide, rfl, ?_, ?_, ?_, fun i h => by simp, ?_, ?_⟩
  · intro i x hx s hs
    have hi := lt_of_at hx
    obtain rfl : i = 0 := by simpa using hi
    simp at hx; subst hx
    cases s <;> exact absurd rfl hs
  · intro i x hx h0
    have hi := lt_of_at hx
    simp at hi; omega
  · intro i j hi hj _
    simp at hi hj; omega
  · intro x hx
    simp at hx; subst hx; rfl
  · intro i x hx
    have hi := lt_of_at hx
    obtain rfl : i = 0 := by simpa using hi
    simp at hx; subst hx
    exact ⟨by show (-9223372036854775808 : Int) ≤ 0; decide, by show (0 : Int) ≤ 9223372036854775807; decide⟩
theorem holds_new : Holds [⟨0, 0, 0, false, 0⟩] (fun _ => []) [] := by
  intro p
  constructor
  · intro h; cases h
  · rintro ⟨i, x, hx, hh, -⟩
    have hi := lt_of_at hx
    obtain rfl : i = 0 := by simpa using hi
    simp at hx; subst hx
    cases hh
theorem below_grown {w w' : World} (h : w.grownBy w' none) : Below w.heap.size w w' := ⟨h.os, h.tape, h.output, h.size, fun k hk => h.block k hk (by simp)⟩
theorem made0 : (madeCells (Value.agg #[.int .i64 0, .int .i64 0, .int .i64 0, .bool false, .int .i64 0]).cells (1 * 5)).toList = [(⟨0, 0, 0, false, 0⟩ : Nd)].flatMap Nd.cs := by
  simp [madeCells, Value.cells, Nd.cs]
  rfl
abbrev head0 (g : Nat) (most : Int) : Obj := .cells #[.slice (some ⟨g, 0, none⟩) 1 1, .int .i64 most, .int .i64 0] 82
theorem trm_new {w : World} {g : Nat} (most : Int) (h : OwnN w 0 (.slice (some ⟨g, 0, none⟩) 1 1) 1 [⟨0, 0, 0, false, 0⟩]) : TrM (w.alloc (head0 g most)) w.heap.size g 1 most 0 [⟨0, 0, 0, false, 0⟩] := by
  have hg : g < w.heap.size := by
    obtain ⟨cur, hg, _⟩ := h.block
    exact (Array.getElem?_eq_some_iff.1 hg).1
  exact ⟨by simp [go_sem], by simp [go_sem], by simp [go_sem], fun o => by simp [go_sem], h.later (below1 _ _), by omega, by simp⟩
set_option maxHeartbeats 400000 in
theorem new_any (most : Int) (w : World) :
    Calls Try.prog 33 #[.int .i64 most] w fun e w' => ∃ N g, e = .returned (.pointer (some ⟨N, 0, none⟩)) ∧ TrM w' N g 1 most 0 [⟨0, 0, 0, false, 0⟩] ∧ w.heap.size ≤ N ∧ w.heap.size ≤ g ∧ Below w.heap.size w w' := by
  obtain ⟨i, hi, hzz⟩ := Option.map_eq_some_iff.1 infoN
  simp only [Prod.mk.injEq] at hzz
  obtain ⟨hz0, hz1, hz2⟩ := hzz
  go_enter Try.func33, Try.ntmps33
  go_wp2_with (at_make; go_loud (refine wpList_make_full _ rfl _ _ 80 rfl 0 90 i _ 5 Try.underlying80 hi hz0 hz1 _ _ 1 1 1 rfl rfl rfl rfl (by rw [hz2]; decide) (by decide) (Nat.zero_le _) ?_; intro w1 own gr; have hb := below_grown gr; have ow : OwnN w1 0 (.slice (some ⟨w.heap.size, 0, none⟩) 1 1) 1 [⟨0, 0, 0, false, 0⟩] := (by unfold OwnN; rw [← made0]; exact own); have HT : Hid (TrM (w1.alloc (head0 w.heap.size most)) w1.heap.size w.heap.size 1 most 0 [⟨0, 0, 0, false, 0⟩]) := trm_new most ow; clear own gr ow))
  go_ret
  exact ⟨_, _, rfl, HT.out, hb.size, Nat.le_refl _, hb.trans ((below1 w1 _).mono hb.size)⟩
set_option maxHeartbeats 1000000 in
theorem get_any (N g cap : Nat) (most cnt : Int) (ns : List Nd) (ws : Nat → List Bool) (L : List Pr) (a l : Int) (w : World) (hT : TrM w N g cap most cnt ns) (hG : Good ns ws) (hH : Holds ns ws L) (hS : Srt L) (ha0 : 0 ≤ a) (ha1 : a < 4294967296) :
    Calls Try.prog 51 #[.pointer (some ⟨N, 0, none⟩), valX a l] w fun e w' => e = .returned (.tuple #[.int .i64 (getN L a l), .bool (getB L a l)]) ∧ Below w.heap.size w w' := by
  have HT : Hid (TrM w N g cap most cnt ns) := hT
  have HG : Hid (Good ns ws) := hG
  have hca := (hT.cap_le).1
  have HGet : Hid (∀ (i : Nat) (ok : Bool), ((ok = true ∧ mayB a l = true ∧ ∃ x : Nd, ns[i]? = some x ∧ ws i = wayX a l.toNat ∧ x.h = true) ∨ (ok = false ∧ (mayB a l = true → ∀ (j : Nat) (x : Nd), ns[j]? = some x → ws j = wayX a l.toNat → x.h = false))) → (ok = false ∧ getN L a l = 0 ∧ getB L a l = false) ∨ (ok = true ∧ ∃ x : Nd, ns[i]? = some x ∧ getN L a l = x.n ∧ getB L a l = true)) := by
    rintro i ok (⟨rfl, hm, x, hx, hw, hh⟩ | ⟨rfl, hn⟩)
    · have := holds_get hG hH hS ha0 ha1 hm hx hw
      rw [if_pos hh] at this
      exact .inr ⟨rfl, x, hx, by unfold getN; rw [this]; rfl, by unfold getB; rw [this]; rfl⟩
    · have := holds_not' hG hH ha0 ha1 hn
      exact .inl ⟨rfl, by unfold getN; rw [this]; rfl, by unfold getB; rw [this]; rfl⟩
  clear hT hG hH
  go_enter Try.func51, Try.ntmps51
  go_wp2_with (go_at_call 52; refine (place_any N g cap most cnt ns ws a l _ (HT.out.later (below1 _ _)) HG.out ha0 ha1).mono ?_; rintro e W1 ⟨i, ok, rfl, hb1, hpl⟩; have hD := HGet.out i ok hpl; clear hpl; have HGB : Hid (ok = false ∧ getN L a l = 0 ∧ getB L a l = false ∨ ok = true ∧ ∃ x : Nd, ns[i]? = some x ∧ getN L a l = x.n ∧ getB L a l = true) := hD; clear hD; have HT1 : Hid (TrM W1 N g cap most cnt ns) := (HT.out.later (below1 _ _)).later hb1; have z0 := HT1.out.c0; obtain ⟨rfl, hn1, hn2⟩ | ⟨rfl, x, hx, hn1, hn2⟩ := HGB.out; rotate_left; (have d4 := (HT1.out.at hx).2.2.2.2; have hi' : (i : Int) < (ns.length : Int) := by have := lt_of_at hx; omega))
  all_goals
    go_ret2
    exact ⟨by rw [hn1, hn2]; rfl, Below.out1 hb1⟩
end Go.Proofs.Ytcabeclbdjfoaaa
/- Contracts of the program's isUsed, lead, move. -/
namespace Go.Proofs.Ytcabeclbdjfoaaa
open Go.RowKit

theorem run_eqK (pa pb qa qb : Int) (W : World) : (Op.equalIn 10000 88 (Value.agg #[.int .i64 pa, .int .i64 pb]) (Value.agg #[.int .i64 qa, .int .i64 qb])).run Try.prog W = .ok (pa == qa && pb == qb) W := by
  obtain ⟨i, hi, hs⟩ := Option.map_eq_some_iff.1 (show (Try.prog.info? 3).map (fun i => i.size) = some 1 by kernel_rfl)
  have hr : List.range' 0 2 = [0, 1] := rfl
  rw [show (10000 : Nat) = 9998 + 1 + 1 from rfl, Op.equalIn]
  simp only [Sem.run_bind, run_underlying Try.underlying88, Result.andThen, sizeOf, typeInfo]
  simp [hi, hs, hr, Result.andThen]
  by_cases h1 : pa = qa
  · subst h1
    by_cases h2 : pb = qb
    · subst h2; go_simp
    · have h2' : (pb == qb) = false := beq_eq_false_iff_ne.2 h2
      go_simp
  · have h1' : (pa == qa) = false := beq_eq_false_iff_ne.2 h1
    go_simp
theorem run_neK (pa pb : Nat) (v : Bool) (h : (!(pa == 0 && pb == 0)) = v) (W : World) : Sem.run Try.prog (binOp .neq 88 (.agg #[.int .i64 (pa : Int), .int .i64 (pb : Int)]) (.agg #[.int .i64 0, .int .i64 0])) W = .ok (.bool v) W := by
  subst h
  rw [run_neq_struct, run_eqK]
  have e : ∀ k : Nat, ((k : Int) == 0) = (k == 0) := fun k => by rw [Bool.eq_iff_iff]; simp
  simp [e, Result.andThen]
set_option maxHeartbeats 1000000 in
theorem isUsed_any (N g cap : Nat) (most cnt : Int) (ns : List Nd) (i : Nat) (x : Nd) (w : World) (hT : TrM w N g cap most cnt ns) (hx : ns[i]? = some x) {v : Bool} (hv : (x.h || !(x.a == 0 && x.b == 0)) = v) :
    Calls Try.prog 61 #[.pointer (some ⟨N, 0, none⟩), .int .i64 (i : Int)] w fun e w' => e = .returned (.bool v) ∧ w' = w := by
  have z0 := hT.c0
  obtain ⟨d0, d1, d2, d3, d4⟩ := hT.at hx
  have hi := lt_of_at hx
  have ca := (hT.cap_le).1
  have hi' : (i : Int) < (ns.length : Int) := by omega
  have HV : Hid ((x.h || !(x.a == 0 && x.b == 0)) = v) := hv
  clear hT hx hv
  obtain ⟨a, b, u, h, n⟩ := x
  simp only at d0 d1 d2 d3 d4 HV
  clear d2 d4
  obtain ⟨t, ht⟩ : ∃ t, (!(a == 0 && b == 0)) = t := ⟨_, rfl⟩
  have hne := run_neK a b t ht
  have HV' : Hid ((h || t) = v) := by rw [← HV.out, ← ht]; rfl
  clear HV ht
  cases h
  all_goals
    go_enter Try.func61, Try.ntmps61
    go_wp2
    go_ret
    exact ⟨ret_bool (by rw [← HV'.out]; rfl), rfl⟩
theorem idx0 (x y : Value) : ∀ W, (Instr.index 88 (.agg #[x, y]) (.int .i64 0)).run Try.prog W = .ok x W := fun _ => by kernel_rfl
theorem idx1 (x y : Value) : ∀ W, (Instr.index 88 (.agg #[x, y]) (.int .i64 1)).run Try.prog W = .ok y W := fun _ => by kernel_rfl
def LeadR (w : World) (N g cap : Nat) (most cnt : Int) (ns : List Nd) (k t u : Nat) (y : Nd) (s : Value) (W : World) : Prop :=
  ∃ z : Nd, ((s = .int .i64 0 ∧ z = y) ∨ (s = .int .i64 1 ∧ z = { y with a := if y.a = k then t else y.a }) ∨ (s = .int .i64 2 ∧ z = swK y k t)) ∧ TrM W N g cap most cnt (ns.set u z) ∧ Keep (twoB N g) w W
theorem set_self {ns : List Nd} {i : Nat} {x : Nd} (h : ns[i]? = some x) : ns.set i x = ns := by
  obtain ⟨hi, rfl⟩ := List.getElem?_eq_some_iff.1 h
  exact List.set_getElem_self hi
set_option maxHeartbeats 1000000 in
theorem lead_any (N g cap : Nat) (most cnt : Int) (ns : List Nd) (k t u : Nat) (x y : Nd) (w : World) (hT : TrM w N g cap most cnt ns) (hx : ns[k]? = some x) (hu : x.u = u) (hy : ns[u]? = some y) :
    Calls Try.prog 63 #[.pointer (some ⟨N, 0, none⟩), .int .i64 (k : Int), .int .i64 (t : Int)] w fun e w' => e = .returned (.tuple #[]) ∧ TrM w' N g cap most cnt (ns.set u (swK y k t)) ∧ Keep (twoB N g) w w' := by
  have HT : Hid (TrM w N g cap most cnt ns) := hT
  have HY : Hid (ns[u]? = some y) := hy
  have z0 := hT.c0
  have d2 := (hT.at hx).2.2.1
  rw [hu] at d2
  obtain ⟨e0, e1, -, -, -⟩ := hT.at hy
  have hi := lt_of_at hx
  have hi2 := lt_of_at hy
  have ca := (hT.cap_le).1
  obtain ⟨n, hn⟩ : ∃ n, ns.length = n := ⟨_, rfl⟩
  have HN : Hid (ns.length = n) := hn
  rw [hn] at z0 hi hi2 ca
  have hi' : (k : Int) < (n : Int) := by omega
  have hi2' : (u : Int) < (n : Int) := by omega
  clear hT hx hy hu hn
  have i0 := idx0 (.int .i64 (y.a : Int)) (.int .i64 (y.b : Int))
  have i1 := idx1 (.int .i64 (y.a : Int)) (.int .i64 (y.b : Int))
  go_enter Try.func63, Try.ntmps63
  go_wp2
  go_loopw [25] (fun s_ W => LeadR w N g cap most cnt ns k t u y s_ W) (fun s_ _ => 2 - (intOf s_).toNat)
  case atStart => exact ⟨y, .inl ⟨rfl, rfl⟩, by rw [set_self HY.out]; exact HT.out, Keep.refl _ _⟩
  case round =>
    clear z0 d2 e0 e1
    obtain ⟨z, hc, hT, hK⟩ := hrel
    have HTz : Hid (TrM wr N g cap most cnt (ns.set u z)) := hT
    have HK : Hid (Keep (twoB N g) w wr) := hK
    have z0 := hT.c0
    rw [List.length_set, HN.out] at z0
    have fz := hT.gfz
    have hz : (ns.set u z)[u]? = some z := List.getElem?_set_self (by rw [HN.out]; exact hi2)
    have HZ : Hid (_) := hz
    obtain ⟨e0, e1, -, -, -⟩ := hT.at hz
    clear hT hK hz
    obtain ⟨rfl, rfl⟩ | ⟨rfl, rfl⟩ | ⟨rfl, rfl⟩ := hc
    · by_cases hk : z.a = k
      · have hk' : ((z.a : Int) == (k : Int)) = true := by rw [beq_iff_eq]; omega
        have HE : Hid (z.a = k) := hk
        clear hk
        go_wp2
        go_roundw
        case rel => exact ⟨_, .inr (.inl ⟨rfl, rfl⟩), by rw [if_pos HE.out]; have := HTz.out.set (j := 0) (y := { z with a := t }) HZ.out (by decide) rfl; rw [List.set_set] at this; exact this, HK.out.setCell (.inr rfl) _⟩
        case measure => simp [intOf]
      · have hk' : ¬ (z.a : Int) = (k : Int) := by omega
        go_wp2
        go_roundw
        case rel => exact ⟨_, .inr (.inl ⟨rfl, rfl⟩), by rw [if_neg hk]; exact HTz.out, HK.out⟩
        case measure => simp [intOf]
    · simp only at e0 e1
      by_cases hk : y.b = k
      · have hk' : ((y.b : Int) == (k : Int)) = true := by rw [beq_iff_eq]; omega
        have HE : Hid (y.b = k) := hk
        clear hk
        go_wp2
        go_roundw
        case rel => exact ⟨_, .inr (.inr ⟨rfl, rfl⟩), by have := HTz.out.set (j := 1) (y := swK y k t) HZ.out (by decide) (by unfold swK; rw [if_pos HE.out]; rfl); rw [List.set_set] at this; exact this, HK.out.setCell (.inr rfl) _⟩
        case measure => simp [intOf]
      · have hk' : ¬ (y.b : Int) = (k : Int) := by omega
        have he : Hid ({ y with a := if y.a = k then t else y.a } = swK y k t) := by unfold Hid swK; rw [if_neg hk]
        go_wp2
        go_roundw
        case rel => exact ⟨_, .inr (.inr ⟨rfl, rfl⟩), by rw [← he.out]; exact HTz.out, HK.out⟩
        case measure => simp [intOf]
    · go_wp2
      exact bodyPost_end (results_none rfl _ _ _) rfl ⟨rfl, HTz.out, HK.out⟩
end Go.Proofs.Ytcabeclbdjfoaaa
/- The contract of the program's move. -/
namespace Go.Proofs.Ytcabeclbdjfoaaa
open Go.RowKit

theorem TrM.setU' {W : World} {N g cap : Nat} {most cnt : Int} {ns : List Nd} (h : TrM W N g cap most cnt ns) {k : Nat} (hk : k < ns.length) (t : Nat) : TrM (W.setCell ⟨g, k * 5 + 2, none⟩ (.int .i64 (t : Int))) N g cap most cnt (ns.set k { nd ns k with u := t }) :=
  h.set (j := 2) (at_nd hk) (by decide) rfl
/-- A whole node laid. -/
theorem TrM.put5 {W : World} {N g cap : Nat} {most cnt : Int} {ns : List Nd} (h : TrM W N g cap most cnt ns) {t : Nat} (ht : t < ns.length) (x : Nd) :
    TrM (((((W.setCell ⟨g, t * 5, none⟩ (.int .i64 (x.a : Int))).setCell ⟨g, t * 5 + 1, none⟩ (.int .i64 (x.b : Int))).setCell ⟨g, t * 5 + 2, none⟩ (.int .i64 (x.u : Int))).setCell ⟨g, t * 5 + 3, none⟩ (.bool x.h)).setCell ⟨g, t * 5 + 4, none⟩ (.int .i64 x.n)) N g cap most cnt (ns.set t x) := by
  obtain ⟨⟨a, b, u, hh, n⟩, hy⟩ := at_of_lt ht
  have h0 := h.set (j := 0) (y := ⟨x.a, b, u, hh, n⟩) hy (by decide) (u := .int .i64 (x.a : Int)) rfl
  have h1 := h0.set (j := 1) (y := ⟨x.a, x.b, u, hh, n⟩) (List.getElem?_set_self ht) (by decide) (u := .int .i64 (x.b : Int)) rfl
  rw [List.set_set] at h1
  have h2 := h1.set (j := 2) (y := ⟨x.a, x.b, x.u, hh, n⟩) (List.getElem?_set_self ht) (by decide) (u := .int .i64 (x.u : Int)) rfl
  rw [List.set_set] at h2
  have h3 := h2.set (j := 3) (y := ⟨x.a, x.b, x.u, x.h, n⟩) (List.getElem?_set_self ht) (by decide) (u := .bool x.h) rfl
  rw [List.set_set] at h3
  have h4 := h3.set (j := 4) (y := x) (List.getElem?_set_self ht) (by decide) (u := .int .i64 x.n) rfl
  rw [List.set_set] at h4
  exact h4
def MoveR (w : World) (N g cap : Nat) (most cnt : Int) (n1 : List Nd) (f t : Nat) (s : Value) (W : World) : Prop :=
  ∃ zs : List Nd, ((s = .int .i64 0 ∧ zs = n1) ∨ (s = .int .i64 1 ∧ zs = setU n1 (nd n1 f).a t) ∨ (s = .int .i64 2 ∧ zs = moveK n1 f t)) ∧ TrM W N g cap most cnt zs ∧ Keep (twoB N g) w W
set_option maxHeartbeats 2000000 in
theorem move_any (N g cap : Nat) (most cnt : Int) (ns : List Nd) (f t u : Nat) (x y : Nd) (w : World) (hT : TrM w N g cap most cnt ns) (hx : ns[f]? = some x) (hu : x.u = u) (hy : ns[u]? = some y) (ht : t < ns.length) (hft : f ≠ t) (ha : (nd (ns.set u (swK y f t)) f).a < ns.length) (hb : (nd (ns.set u (swK y f t)) f).b < ns.length) :
    Calls Try.prog 64 #[.pointer (some ⟨N, 0, none⟩), .int .i64 (f : Int), .int .i64 (t : Int)] w fun e w' => e = .returned (.tuple #[]) ∧ TrM w' N g cap most cnt (moveN (ns.set u (swK y f t)) f t) ∧ Keep (twoB N g) w w' := by
  have hL := lead_any N g cap most cnt ns f t u x y w hT hx hu hy
  have hf := lt_of_at hx
  obtain ⟨n1, hn1⟩ : ∃ n1, ns.set u (swK y f t) = n1 := ⟨_, rfl⟩
  have hl1 : ns.length = n1.length := by rw [← hn1, List.length_set]
  rw [hn1] at hL ha hb ⊢
  obtain ⟨n, hn⟩ : ∃ n, n1.length = n := ⟨_, rfl⟩
  have HN : Hid (n1.length = n) := hn
  have ca := (hT.cap_le).1
  rw [hl1, hn] at hf ht ha hb ca
  obtain ⟨xa, hxa⟩ : ∃ k, (nd n1 f).a = k := ⟨_, rfl⟩
  obtain ⟨xb, hxb⟩ : ∃ k, (nd n1 f).b = k := ⟨_, rfl⟩
  have HXa : Hid ((nd n1 f).a = xa) := hxa
  have HXb : Hid ((nd n1 f).b = xb) := hxb
  rw [hxa] at ha
  rw [hxb] at hb
  have hf' : (f : Int) < (n : Int) := by omega
  have ht' : (t : Int) < (n : Int) := by omega
  have ha' : (xa : Int) < (n : Int) := by omega
  have hb' : (xb : Int) < (n : Int) := by omega
  clear hT hx hu hy hn1 hl1 hn hxa hxb
  have i0 := idx0 (.int .i64 (xa : Int)) (.int .i64 (xb : Int))
  have i1 := idx1 (.int .i64 (xa : Int)) (.int .i64 (xb : Int))
  go_enter Try.func64, Try.ntmps64
  go_wp2_with (go_at_call 63; refine hL.mono ?_; rintro e W1 ⟨rfl, hT1, hK1⟩; have HT1 : Hid (TrM W1 N g cap most cnt n1) := hT1; have HK1 : Hid (Keep (twoB N g) w W1) := hK1; have z0 := hT1.c0; rw [HN.out] at z0; obtain ⟨e0, e1, -, -, -⟩ := hT1.at (at_nd (i := f) (by rw [HN.out]; exact hf)); rw [HXa.out] at e0; rw [HXb.out] at e1; clear hT1 hK1)
  go_loopw [20] (fun s_ W => MoveR w N g cap most cnt n1 f t s_ W) (fun s_ _ => 2 - (intOf s_).toNat)
  case atStart => exact ⟨n1, .inl ⟨rfl, rfl⟩, HT1.out, HK1.out⟩
  case round =>
    clear z0 e0 e1
    obtain ⟨zs, hc, hT, hK⟩ := hrel
    have HTz : Hid (TrM wr N g cap most cnt zs) := hT
    have HK : Hid (Keep (twoB N g) w wr) := hK
    have z0 := hT.c0
    have fz := hT.gfz
    have hzl : zs.length = n := by
      rw [← HN.out]
      obtain ⟨-, rfl⟩ | ⟨-, rfl⟩ | ⟨-, rfl⟩ := hc
      · rfl
      · exact setU_len _ _ _
      · unfold moveK; rw [setU_len, setU_len]
    have HZL : Hid (zs.length = n) := hzl
    rw [hzl] at z0
    clear hT hK hzl
    obtain ⟨rfl, hzs⟩ | ⟨rfl, hzs⟩ | ⟨rfl, hzs⟩ := hc
    · have HZ : Hid (zs = n1) := hzs
      clear hzs
      by_cases hk : xa = 0
      · have hk' : ((xa : Int) != 0) = false := by rw [bne_eq_false_iff_eq]; omega
        have HE : Hid (setU n1 (nd n1 f).a t = zs) := by unfold Hid; rw [HXa.out, hk, HZ.out]; rfl
        clear hk
        go_wp2
        go_roundw
        case rel => exact ⟨_, .inr (.inl ⟨rfl, rfl⟩), by rw [HE.out]; exact HTz.out, HK.out⟩
        case measure => simp [intOf]
      · have hk' : ((xa : Int) != 0) = true := by rw [bne_iff_ne]; omega
        have HE : Hid (setU n1 (nd n1 f).a t = zs.set xa { nd zs xa with u := t }) := by unfold Hid setU; rw [HXa.out, if_neg hk, HZ.out]
        have d2 := (HTz.out.at (at_nd (i := xa) (by rw [HZL.out]; exact ha))).2.2.1
        clear hk
        go_wp2
        go_roundw
        case rel => exact ⟨_, .inr (.inl ⟨rfl, rfl⟩), by rw [HE.out]; exact HTz.out.setU' (by rw [HZL.out]; exact ha) t, HK.out.setCell (.inr rfl) _⟩
        case measure => simp [intOf]
    · have HZ : Hid (zs = setU n1 (nd n1 f).a t) := hzs
      clear hzs
      by_cases hk : xb = 0
      · have hk' : ((xb : Int) != 0) = false := by rw [bne_eq_false_iff_eq]; omega
        have HE : Hid (moveK n1 f t = zs) := by unfold Hid moveK; rw [HXb.out, hk, HZ.out]; rfl
        clear hk
        go_wp2
        go_roundw
        case rel => exact ⟨_, .inr (.inr ⟨rfl, rfl⟩), by rw [HE.out]; exact HTz.out, HK.out⟩
        case measure => simp [intOf]
      · have hk' : ((xb : Int) != 0) = true := by rw [bne_iff_ne]; omega
        have HE : Hid (moveK n1 f t = zs.set xb { nd zs xb with u := t }) := by unfold Hid moveK; rw [HXb.out, ← HZ.out, setU, if_neg hk]
        have d2 := (HTz.out.at (at_nd (i := xb) (by rw [HZL.out]; exact hb))).2.2.1
        clear hk
        go_wp2
        go_roundw
        case rel => exact ⟨_, .inr (.inr ⟨rfl, rfl⟩), by rw [HE.out]; exact HTz.out.setU' (by rw [HZL.out]; exact hb) t, HK.out.setCell (.inr rfl) _⟩
        case measure => simp [intOf]
    · have HZ : Hid (zs = moveK n1 f t) := hzs
      clear hzs i0 i1 ha hb ha' hb'
      obtain ⟨q, hq⟩ : ∃ q, nd zs f = q := ⟨_, rfl⟩
      have HQ : Hid (nd zs f = q) := hq
      obtain ⟨c0, c1, c2, c3, c4⟩ := HTz.out.at (at_nd (i := f) (by rw [HZL.out]; exact hf))
      obtain ⟨b0, b1, b2, b3, b4⟩ := HTz.out.at (at_nd (i := t) (by rw [HZL.out]; exact ht))
      rw [hq] at c0 c1 c2 c3 c4
      have hne := HTz.out.ne
      have hft' : f * 5 + 4 < t * 5 ∨ t * 5 + 4 < f * 5 := by omega
      have kp : ∀ u0 u1 u2 u3 u4, (((((wr.setCell ⟨g, t * 5, none⟩ u0).setCell ⟨g, t * 5 + 1, none⟩ u1).setCell ⟨g, t * 5 + 2, none⟩ u2).setCell ⟨g, t * 5 + 3, none⟩ u3).setCell ⟨g, t * 5 + 4, none⟩ u4).drew.cell? ⟨N, 0, none⟩ = some (.slice (some ⟨g, 0, none⟩) n cap) ∧ ∀ j, j < 5 → (((((wr.setCell ⟨g, t * 5, none⟩ u0).setCell ⟨g, t * 5 + 1, none⟩ u1).setCell ⟨g, t * 5 + 2, none⟩ u2).setCell ⟨g, t * 5 + 3, none⟩ u3).setCell ⟨g, t * 5 + 4, none⟩ u4).drew.cell? ⟨g, f * 5 + j, none⟩ = wr.cell? ⟨g, f * 5 + j, none⟩ := fun u0 u1 u2 u3 u4 => by
        refine ⟨?_, fun j hj => ?_⟩
        · rw [World.cell?_drew, World.cell?_setCell_other _ _ _ _ (by simp <;> omega), World.cell?_setCell_other _ _ _ _ (by simp <;> omega), World.cell?_setCell_other _ _ _ _ (by simp <;> omega), World.cell?_setCell_other _ _ _ _ (by simp <;> omega), World.cell?_setCell_other _ _ _ _ (by simp <;> omega)]
          exact z0
        · rw [World.cell?_drew, World.cell?_setCell_other _ _ _ _ (by simp <;> omega), World.cell?_setCell_other _ _ _ _ (by simp <;> omega), World.cell?_setCell_other _ _ _ _ (by simp <;> omega), World.cell?_setCell_other _ _ _ _ (by simp <;> omega), World.cell?_setCell_other _ _ _ _ (by simp <;> omega)]
      clear hq
      have hS1 : wr.drew.cell? ⟨N, 0, none⟩ = some (.slice (some ⟨g, 0, none⟩) n cap) ∧ wr.drew.cell? ⟨g, f * 5, none⟩ = some (.int .i64 (q.a : Int)) ∧ wr.drew.cell? ⟨g, f * 5 + 1, none⟩ = some (.int .i64 (q.b : Int)) ∧ wr.drew.cell? ⟨g, f * 5 + 2, none⟩ = some (.int .i64 (q.u : Int)) ∧ wr.drew.cell? ⟨g, f * 5 + 3, none⟩ = some (.bool q.h) ∧ wr.drew.cell? ⟨g, f * 5 + 4, none⟩ = some (.int .i64 q.n) := ⟨z0, c0, c1, c2, c3, c4⟩
      have k5 := kp (.int .i64 (q.a : Int)) (.int .i64 (q.b : Int)) (.int .i64 (q.u : Int)) (.bool q.h) (.int .i64 q.n)
      have hS2 : (((((wr.setCell ⟨g, t * 5, none⟩ (.int .i64 (q.a : Int))).setCell ⟨g, t * 5 + 1, none⟩ (.int .i64 (q.b : Int))).setCell ⟨g, t * 5 + 2, none⟩ (.int .i64 (q.u : Int))).setCell ⟨g, t * 5 + 3, none⟩ (.bool q.h)).setCell ⟨g, t * 5 + 4, none⟩ (.int .i64 q.n)).drew.cell? ⟨N, 0, none⟩ = some (.slice (some ⟨g, 0, none⟩) n cap) ∧ (((((wr.setCell ⟨g, t * 5, none⟩ (.int .i64 (q.a : Int))).setCell ⟨g, t * 5 + 1, none⟩ (.int .i64 (q.b : Int))).setCell ⟨g, t * 5 + 2, none⟩ (.int .i64 (q.u : Int))).setCell ⟨g, t * 5 + 3, none⟩ (.bool q.h)).setCell ⟨g, t * 5 + 4, none⟩ (.int .i64 q.n)).drew.cell? ⟨g, f * 5, none⟩ = some (.int .i64 (q.a : Int)) ∧ (((((wr.setCell ⟨g, t * 5, none⟩ (.int .i64 (q.a : Int))).setCell ⟨g, t * 5 + 1, none⟩ (.int .i64 (q.b : Int))).setCell ⟨g, t * 5 + 2, none⟩ (.int .i64 (q.u : Int))).setCell ⟨g, t * 5 + 3, none⟩ (.bool q.h)).setCell ⟨g, t * 5 + 4, none⟩ (.int .i64 q.n)).drew.cell? ⟨g, f * 5 + 1, none⟩ = some (.int .i64 (q.b : Int)) ∧ (((((wr.setCell ⟨g, t * 5, none⟩ (.int .i64 (q.a : Int))).setCell ⟨g, t * 5 + 1, none⟩ (.int .i64 (q.b : Int))).setCell ⟨g, t * 5 + 2, none⟩ (.int .i64 (q.u : Int))).setCell ⟨g, t * 5 + 3, none⟩ (.bool q.h)).setCell ⟨g, t * 5 + 4, none⟩ (.int .i64 q.n)).drew.cell? ⟨g, f * 5 + 2, none⟩ = some (.int .i64 (q.u : Int)) ∧ (((((wr.setCell ⟨g, t * 5, none⟩ (.int .i64 (q.a : Int))).setCell ⟨g, t * 5 + 1, none⟩ (.int .i64 (q.b : Int))).setCell ⟨g, t * 5 + 2, none⟩ (.int .i64 (q.u : Int))).setCell ⟨g, t * 5 + 3, none⟩ (.bool q.h)).setCell ⟨g, t * 5 + 4, none⟩ (.int .i64 q.n)).drew.cell? ⟨g, f * 5 + 3, none⟩ = some (.bool q.h) ∧ (((((wr.setCell ⟨g, t * 5, none⟩ (.int .i64 (q.a : Int))).setCell ⟨g, t * 5 + 1, none⟩ (.int .i64 (q.b : Int))).setCell ⟨g, t * 5 + 2, none⟩ (.int .i64 (q.u : Int))).setCell ⟨g, t * 5 + 3, none⟩ (.bool q.h)).setCell ⟨g, t * 5 + 4, none⟩ (.int .i64 q.n)).drew.cell? ⟨g, f * 5 + 4, none⟩ = some (.int .i64 q.n) :=
        ⟨k5.1, (k5.2 0 (by decide)).trans c0, (k5.2 1 (by decide)).trans c1, (k5.2 2 (by decide)).trans c2, (k5.2 3 (by decide)).trans c3, (k5.2 4 (by decide)).trans c4⟩
      clear k5 kp
      go_wp2
      go_region_held3 (fun w' => w'.cell? ⟨N, 0, none⟩ = some (.slice (some ⟨g, 0, none⟩) n cap) ∧ w'.cell? ⟨g, f * 5, none⟩ = some (.int .i64 (q.a : Int)) ∧ w'.cell? ⟨g, f * 5 + 1, none⟩ = some (.int .i64 (q.b : Int)) ∧ w'.cell? ⟨g, f * 5 + 2, none⟩ = some (.int .i64 (q.u : Int)) ∧ w'.cell? ⟨g, f * 5 + 3, none⟩ = some (.bool q.h) ∧ w'.cell? ⟨g, f * 5 + 4, none⟩ = some (.int .i64 q.n)) (first | with_reducible exact hS1 | with_reducible exact hS2) (fail)
      all_goals
        go_wp2
        have hP := (HTz.out.put5 (t := t) (by rw [HZL.out]; exact ht) q).later (W' := _) (Below.refl _ _).drew
        exact bodyPost_end (results_none rfl _ _ _) rfl ⟨rfl, by unfold moveN; rw [← HZ.out, HQ.out]; exact hP, (((((HK.out.setCell (p := ⟨g, t * 5, none⟩) (.inr rfl) _).setCell (p := ⟨g, t * 5 + 1, none⟩) (.inr rfl) _).setCell (p := ⟨g, t * 5 + 2, none⟩) (.inr rfl) _).setCell (p := ⟨g, t * 5 + 3, none⟩) (.inr rfl) _).setCell (p := ⟨g, t * 5 + 4, none⟩) (.inr rfl) _).drew⟩
end Go.Proofs.Ytcabeclbdjfoaaa
/- Contracts of the program's drop and prune. -/
namespace Go.Proofs.Ytcabeclbdjfoaaa
open Go.RowKit

theorem leadN_any (N g cap : Nat) (most cnt : Int) (ns : List Nd) (k t : Nat) (w : World) (hT : TrM w N g cap most cnt ns) (hk : k < ns.length) (hu : (nd ns k).u < ns.length) :
    Calls Try.prog 63 #[.pointer (some ⟨N, 0, none⟩), .int .i64 (k : Int), .int .i64 (t : Int)] w fun e w' => e = .returned (.tuple #[]) ∧ TrM w' N g cap most cnt (leadN ns k t) ∧ Keep (twoB N g) w w' :=
  lead_any N g cap most cnt ns k t _ _ _ w hT (at_nd hk) rfl (at_nd hu)
theorem leadZ_any (N g cap : Nat) (most cnt : Int) (ns : List Nd) (k : Nat) (w : World) (hT : TrM w N g cap most cnt ns) (hk : k < ns.length) (hu : (nd ns k).u < ns.length) :
    Calls Try.prog 63 #[.pointer (some ⟨N, 0, none⟩), .int .i64 (k : Int), .int .i64 0] w fun e w' => e = .returned (.tuple #[]) ∧ TrM w' N g cap most cnt (leadN ns k 0) ∧ Keep (twoB N g) w w' := leadN_any N g cap most cnt ns k 0 w hT hk hu
theorem moveN_any (N g cap : Nat) (most cnt : Int) (ns : List Nd) (f t : Nat) (w : World) (hT : TrM w N g cap most cnt ns) (hf : f < ns.length) (hu : (nd ns f).u < ns.length) (ht : t < ns.length) (hft : f ≠ t) (ha : (nd (leadN ns f t) f).a < ns.length) (hb : (nd (leadN ns f t) f).b < ns.length) :
    Calls Try.prog 64 #[.pointer (some ⟨N, 0, none⟩), .int .i64 (f : Int), .int .i64 (t : Int)] w fun e w' => e = .returned (.tuple #[]) ∧ TrM w' N g cap most cnt (moveN (leadN ns f t) f t) ∧ Keep (twoB N g) w w' :=
  move_any N g cap most cnt ns f t _ _ _ w hT (at_nd hf) rfl (at_nd hu) ht hft ha hb
/-- The kids stay within the nodes. -/
theorem leadN_kids {ns : List Nd} {k t j : Nat} (hu : (nd ns k).u < ns.length) (ht : t < ns.length) (ha : (nd ns j).a < ns.length) (hb : (nd ns j).b < ns.length) : (nd (leadN ns k t) j).a < ns.length ∧ (nd (leadN ns k t) j).b < ns.length := by
  unfold leadN
  rw [nd_set hu]
  by_cases h : j = (nd ns k).u
  · rw [if_pos h, ← h]
    unfold swK
    constructor
    · show (if _ then _ else _) < _
      split
      · exact ht
      · exact ha
    · show (if _ then _ else _) < _
      split
      · exact ht
      · exact hb
  · rw [if_neg h]; exact ⟨ha, hb⟩
theorem leadN_u {ns : List Nd} {k t j : Nat} (hu : (nd ns k).u < ns.length) : (nd (leadN ns k t) j).u = (nd ns j).u := by
  unfold leadN
  rw [nd_set hu]
  split
  · rename_i h; rw [h]; rfl
  · rfl
set_option maxHeartbeats 2000000 in
theorem drop_any (N g cap : Nat) (most cnt : Int) (ns : List Nd) (ws : Nat → List Bool) (k : Nat) (w : World) (hT : TrM w N g cap most cnt ns) (hG : Good ns ws) (hk : k < ns.length) (h0 : k ≠ 0) :
    Calls Try.prog 62 #[.pointer (some ⟨N, 0, none⟩), .int .i64 (k : Int)] w fun e w' => ∃ r : Nat, e = .returned (.int .i64 (r : Int)) ∧ r < ns.length - 1 ∧ TrM w' N g cap most cnt (dropN ns k) ∧ Keep (twoB N g) w w' := by
  have HT : Hid (TrM w N g cap most cnt ns) := hT
  have z0 := hT.c0
  have d2 := (hT.at (at_nd hk)).2.2.1
  have ca := (hT.cap_le).1
  obtain ⟨u, hu⟩ : ∃ u, (nd ns k).u = u := ⟨_, rfl⟩
  have HU : Hid ((nd ns k).u = u) := hu
  obtain ⟨hul, -, hu2⟩ := hG.u_nd hk
  have huk := (hu2 h0).1
  rw [hu] at d2 hul huk
  obtain ⟨m, hm⟩ : ∃ m, ns.length = m + 1 := ⟨ns.length - 1, by omega⟩
  have HM : Hid (ns.length = m + 1) := hm
  have hmu := (hG.u_nd (i := m) (by omega)).1
  have hma := hG.kid_lt (at_nd (i := m) (by omega)) false
  have hmb := hG.kid_lt (at_nd (i := m) (by omega)) true
  have hm1 : (nd (leadN ns k 0) m).u < ns.length := by rw [leadN_u (by rw [hu]; exact hul)]; exact hmu
  have hm2 := leadN_kids (ns := ns) (k := k) (t := 0) (j := m) (by rw [hu]; exact hul) hG.r hma hmb
  have hm3 := leadN_kids (ns := leadN ns k 0) (k := m) (t := k) (j := m) (by rw [leadN_len]; exact hm1) (by rw [leadN_len]; exact hk) (by rw [leadN_len]; exact hm2.1) (by rw [leadN_len]; exact hm2.2)
  rw [leadN_len] at hm3
  have HK1 : Hid (k < ns.length ∧ (nd ns k).u < ns.length) := ⟨hk, by rw [hu]; exact hul⟩
  have HM1 : Hid ((nd (leadN ns k 0) m).u < (leadN ns k 0).length ∧ (nd (leadN (leadN ns k 0) m k) m).a < (leadN ns k 0).length ∧ (nd (leadN (leadN ns k 0) m k) m).b < (leadN ns k 0).length) := by unfold Hid; rw [leadN_len]; exact ⟨hm1, hm3⟩
  rw [hm] at z0 ca hk hul
  have hk' : (k : Int) < (m : Int) + 1 := by omega
  have hmc : (m : Int) ≤ (cap : Int) := by omega
  have hcm := (hT.cap_le).2
  unfold maxLen at hcm
  have wm : wrap64 (m : Int) = (m : Int) := by unfold wrap64; omega
  clear hcm
  clear hT hG hu hu2 hm hmu hma hmb hm1 hm2 hm3
  by_cases hkm : k = m
  · have HD : Hid (dropN ns k = (leadN ns k 0).take m) := by unfold Hid dropN; rw [HM.out, if_pos (by omega)]; rfl
    have t1 : ((k : Int) != (m : Int)) = false := by rw [bne_eq_false_iff_eq]; omega
    have t2 : ((u : Int) == (m : Int)) = false := by rw [beq_eq_false_iff_ne]; omega
    have hum : u < m := by omega
    clear hkm
    go_enter Try.func62, Try.ntmps62
    go_wp2
    go_quiet (fail)
    go_wp2_with (go_at_call 63; refine (leadZ_any N g cap most cnt ns k _ (HT.out.later (below_drewN (Below.refl _ _) _)) HK1.out.1 HK1.out.2).mono ?_; rintro e W1 ⟨rfl, hT1, hK1⟩; have HT1 : Hid (TrM W1 N g cap most cnt (leadN ns k 0)) := hT1; have HKp : Hid (Keep (twoB N g) w W1) := keep_then (below_drewN (Below.refl _ _) _) hK1; have z0 := hT1.c0; rw [leadN_len, HM.out] at z0; have fz := hT1.fz; clear hT1 hK1)
    go_ret
    have hP := HT1.out.cut (k := m) (by rw [leadN_len, HM.out]; omega)
    exact ⟨u, rfl, by rw [HM.out]; omega, by rw [HD.out]; exact hP, HKp.out.setCell (.inl rfl) _⟩
  · have HD : Hid (dropN ns k = (moveN (leadN (leadN ns k 0) m k) m k).take m) := by unfold Hid dropN; rw [HM.out, if_neg (by omega)]; rfl
    have t1 : ((k : Int) != (m : Int)) = true := by rw [bne_iff_ne]; omega
    have HH : Hid (k < (leadN ns k 0).length ∧ m < (leadN ns k 0).length ∧ m ≠ k ∧ (moveN (leadN (leadN ns k 0) m k) m k).length = m + 1) := ⟨by rw [leadN_len, HM.out]; omega, by rw [leadN_len, HM.out]; omega, fun e => hkm e.symm, by unfold moveN; rw [List.length_set, moveK_len, leadN_len, leadN_len, HM.out]⟩
    by_cases hum : u = m
    · have t2 : ((u : Int) == (m : Int)) = true := by rw [beq_iff_eq]; omega
      have HR : Hid (k < m) := by unfold Hid; omega
      clear hkm hum
      go_enter Try.func62, Try.ntmps62
      go_wp2
      go_quiet (fail)
      go_wp2_with (first
        | (go_at_call 63; refine (leadZ_any N g cap most cnt ns k _ (HT.out.later (below_drewN (Below.refl _ _) _)) HK1.out.1 HK1.out.2).mono ?_; rintro e W1 ⟨rfl, hT1, hK1⟩; have HT1 : Hid (TrM W1 N g cap most cnt (leadN ns k 0)) := hT1; have HKp : Hid (Keep (twoB N g) w W1) := keep_then (below_drewN (Below.refl _ _) _) hK1; clear hT1 hK1)
        | (go_at_call 64; refine (moveN_any N g cap most cnt (leadN ns k 0) m k _ HT1.out HH.out.2.1 HM1.out.1 HH.out.1 HH.out.2.2.1 HM1.out.2.1 HM1.out.2.2).mono ?_; rintro e W2 ⟨rfl, hT2, hK2⟩; have HT2 : Hid (TrM W2 N g cap most cnt (moveN (leadN (leadN ns k 0) m k) m k)) := hT2; have HKp2 : Hid (Keep (twoB N g) w W2) := HKp.out.trans hK2 (fun _ _ h => h); have z0 := hT2.c0; rw [HH.out.2.2.2] at z0; have fz := hT2.fz; clear hT2 hK2))
      go_ret
      have hP := HT2.out.cut (k := m) (by rw [HH.out.2.2.2]; omega)
      exact ⟨k, rfl, by rw [HM.out]; have := HR.out; omega, by rw [HD.out]; exact hP, HKp2.out.setCell (.inl rfl) _⟩
    · have t2 : ((u : Int) == (m : Int)) = false := by rw [beq_eq_false_iff_ne]; omega
      have HR : Hid (u < m) := by unfold Hid; omega
      clear hkm hum
      go_enter Try.func62, Try.ntmps62
      go_wp2
      go_quiet (fail)
      go_wp2_with (first
        | (go_at_call 63; refine (leadZ_any N g cap most cnt ns k _ (HT.out.later (below_drewN (Below.refl _ _) _)) HK1.out.1 HK1.out.2).mono ?_; rintro e W1 ⟨rfl, hT1, hK1⟩; have HT1 : Hid (TrM W1 N g cap most cnt (leadN ns k 0)) := hT1; have HKp : Hid (Keep (twoB N g) w W1) := keep_then (below_drewN (Below.refl _ _) _) hK1; clear hT1 hK1)
        | (go_at_call 64; refine (moveN_any N g cap most cnt (leadN ns k 0) m k _ HT1.out HH.out.2.1 HM1.out.1 HH.out.1 HH.out.2.2.1 HM1.out.2.1 HM1.out.2.2).mono ?_; rintro e W2 ⟨rfl, hT2, hK2⟩; have HT2 : Hid (TrM W2 N g cap most cnt (moveN (leadN (leadN ns k 0) m k) m k)) := hT2; have HKp2 : Hid (Keep (twoB N g) w W2) := HKp.out.trans hK2 (fun _ _ h => h); have z0 := hT2.c0; rw [HH.out.2.2.2] at z0; have fz := hT2.fz; clear hT2 hK2))
      go_ret
      have hP := HT2.out.cut (k := m) (by rw [HH.out.2.2.2]; omega)
      exact ⟨u, rfl, by rw [HM.out]; have := HR.out; omega, by rw [HD.out]; exact hP, HKp2.out.setCell (.inl rfl) _⟩
end Go.Proofs.Ytcabeclbdjfoaaa
