/- Contracts of the program's isUsed, lead, move. -/
import Derived.Test.YtifokdebocgaiaaProB
import Derived.Test.YtifokdebocgaiaaNodB
namespace Go.Proofs.Ytifokdebocgaiaa
open Go.RowKit

theorem run_eqK (pa pb qa qb : Int) (W : World) : (Op.equalIn 10000 57 (Value.agg #[.int .i64 pa, .int .i64 pb]) (Value.agg #[.int .i64 qa, .int .i64 qb])).run Try.prog W = .ok (pa == qa && pb == qb) W := by
  obtain ⟨i, hi, hs⟩ := Option.map_eq_some_iff.1 (show (Try.prog.info? 3).map (fun i => i.size) = some 1 by kernel_rfl)
  have hr : List.range' 0 2 = [0, 1] := rfl
  rw [show (10000 : Nat) = 9998 + 1 + 1 from rfl, Op.equalIn]
  simp only [Sem.run_bind, run_underlying Try.underlying57, Result.andThen, sizeOf, typeInfo]
  simp [hi, hs, hr, Result.andThen]
  by_cases h1 : pa = qa
  · subst h1
    by_cases h2 : pb = qb
    · subst h2; go_simp
    · have h2' : (pb == qb) = false := beq_eq_false_iff_ne.2 h2
      go_simp
  · have h1' : (pa == qa) = false := beq_eq_false_iff_ne.2 h1
    go_simp
theorem run_neK (pa pb : Nat) (v : Bool) (h : (!(pa == 0 && pb == 0)) = v) (W : World) : Sem.run Try.prog (binOp .neq 57 (.agg #[.int .i64 (pa : Int), .int .i64 (pb : Int)]) (.agg #[.int .i64 0, .int .i64 0])) W = .ok (.bool v) W := by
  subst h
  rw [run_neq_struct, run_eqK]
  have e : ∀ k : Nat, ((k : Int) == 0) = (k == 0) := fun k => by rw [Bool.eq_iff_iff]; simp
  simp [e, Result.andThen]
set_option maxHeartbeats 1000000 in
theorem isUsed_any (N g cap : Nat) (most cnt : Int) (ns : List Nd) (i : Nat) (x : Nd) (w : World) (hT : TrM w N g cap most cnt ns) (hx : ns[i]? = some x) {v : Bool} (hv : (x.h || !(x.a == 0 && x.b == 0)) = v) :
    Calls Try.prog 38 #[.pointer (some ⟨N, 0, none⟩), .int .i64 (i : Int)] w fun e w' => e = .returned (.bool v) ∧ w' = w := by
  have z0 := hT.c0
  obtain ⟨d0, d1, d2, d3, d4⟩ := hT.at hx
  have hi := lt_of_at hx
  have ca := (hT.cap_le).1
  have hi' : (i : Int) < (ns.length : Int) := by omega
  have HV : Hid ((x.h || !(x.a == 0 && x.b == 0)) = v) := hv
  clear hT hx hv
  obtain ⟨a, b, u, h, n⟩ := x
  simp only at d0 d1 d2 d3 d4 HV
  clear d2 d4
  obtain ⟨t, ht⟩ : ∃ t, (!(a == 0 && b == 0)) = t := ⟨_, rfl⟩
  have hne := run_neK a b t ht
  have HV' : Hid ((h || t) = v) := by rw [← HV.out, ← ht]; rfl
  clear HV ht
  cases h
  all_goals
    go_enter Try.func38, Try.ntmps38
    go_wp2
    go_ret
    exact ⟨ret_bool (by rw [← HV'.out]; rfl), rfl⟩
theorem idx0 (x y : Value) : ∀ W, (Instr.index 57 (.agg #[x, y]) (.int .i64 0)).run Try.prog W = .ok x W := fun _ => by kernel_rfl
theorem idx1 (x y : Value) : ∀ W, (Instr.index 57 (.agg #[x, y]) (.int .i64 1)).run Try.prog W = .ok y W := fun _ => by kernel_rfl
def LeadR (w : World) (N g cap : Nat) (most cnt : Int) (ns : List Nd) (k t u : Nat) (y : Nd) (s : Value) (W : World) : Prop :=
  ∃ z : Nd, ((s = .int .i64 0 ∧ z = y) ∨ (s = .int .i64 1 ∧ z = { y with a := if y.a = k then t else y.a }) ∨ (s = .int .i64 2 ∧ z = swK y k t)) ∧ TrM W N g cap most cnt (ns.set u z) ∧ Keep (twoB N g) w W
theorem set_self {ns : List Nd} {i : Nat} {x : Nd} (h : ns[i]? = some x) : ns.set i x = ns := by
  obtain ⟨hi, rfl⟩ := List.getElem?_eq_some_iff.1 h
  exact List.set_getElem_self hi
set_option maxHeartbeats 1000000 in
theorem lead_any (N g cap : Nat) (most cnt : Int) (ns : List Nd) (k t u : Nat) (x y : Nd) (w : World) (hT : TrM w N g cap most cnt ns) (hx : ns[k]? = some x) (hu : x.u = u) (hy : ns[u]? = some y) :
    Calls Try.prog 40 #[.pointer (some ⟨N, 0, none⟩), .int .i64 (k : Int), .int .i64 (t : Int)] w fun e w' => e = .returned (.tuple #[]) ∧ TrM w' N g cap most cnt (ns.set u (swK y k t)) ∧ Keep (twoB N g) w w' := by
  have HT : Hid (TrM w N g cap most cnt ns) := hT
  have HY : Hid (ns[u]? = some y) := hy
  have z0 := hT.c0
  have d2 := (hT.at hx).2.2.1
  rw [hu] at d2
  obtain ⟨e0, e1, -, -, -⟩ := hT.at hy
  have hi := lt_of_at hx
  have hi2 := lt_of_at hy
  have ca := (hT.cap_le).1
  obtain ⟨n, hn⟩ : ∃ n, ns.length = n := ⟨_, rfl⟩
  have HN : Hid (ns.length = n) := hn
  rw [hn] at z0 hi hi2 ca
  have hi' : (k : Int) < (n : Int) := by omega
  have hi2' : (u : Int) < (n : Int) := by omega
  clear hT hx hy hu hn
  have i0 := idx0 (.int .i64 (y.a : Int)) (.int .i64 (y.b : Int))
  have i1 := idx1 (.int .i64 (y.a : Int)) (.int .i64 (y.b : Int))
  go_enter Try.func40, Try.ntmps40
  go_wp2
  go_loopw [25] (fun s_ W => LeadR w N g cap most cnt ns k t u y s_ W) (fun s_ _ => 2 - (intOf s_).toNat)
  case atStart => exact ⟨y, .inl ⟨rfl, rfl⟩, by rw [set_self HY.out]; exact HT.out, Keep.refl _ _⟩
  case round =>
    clear z0 d2 e0 e1
    obtain ⟨z, hc, hT, hK⟩ := hrel
    have HTz : Hid (TrM wr N g cap most cnt (ns.set u z)) := hT
    have HK : Hid (Keep (twoB N g) w wr) := hK
    have z0 := hT.c0
    rw [List.length_set, HN.out] at z0
    have fz := hT.gfz
    have hz : (ns.set u z)[u]? = some z := List.getElem?_set_self (by rw [HN.out]; exact hi2)
    have HZ : Hid (_) := hz
    obtain ⟨e0, e1, -, -, -⟩ := hT.at hz
    clear hT hK hz
    obtain ⟨rfl, rfl⟩ | ⟨rfl, rfl⟩ | ⟨rfl, rfl⟩ := hc
    · by_cases hk : z.a = k
      · have hk' : ((z.a : Int) == (k : Int)) = true := by rw [beq_iff_eq]; omega
        have HE : Hid (z.a = k) := hk
        clear hk
        go_wp2
        go_roundw
        case rel => exact ⟨_, .inr (.inl ⟨rfl, rfl⟩), by rw [if_pos HE.out]; have := HTz.out.set (j := 0) (y := { z with a := t }) HZ.out (by decide) rfl; rw [List.set_set] at this; exact this, HK.out.setCell (.inr rfl) _⟩
        case measure => simp [intOf]
      · have hk' : ¬ (z.a : Int) = (k : Int) := by omega
        go_wp2
        go_roundw
        case rel => exact ⟨_, .inr (.inl ⟨rfl, rfl⟩), by rw [if_neg hk]; exact HTz.out, HK.out⟩
        case measure => simp [intOf]
    · simp only at e0 e1
      by_cases hk : y.b = k
      · have hk' : ((y.b : Int) == (k : Int)) = true := by rw [beq_iff_eq]; omega
        have HE : Hid (y.b = k) := hk
        clear hk
        go_wp2
        go_roundw
        case rel => exact ⟨_, .inr (.inr ⟨rfl, rfl⟩), by have := HTz.out.set (j := 1) (y := swK y k t) HZ.out (by decide) (by unfold swK; rw [if_pos HE.out]; rfl); rw [List.set_set] at this; exact this, HK.out.setCell (.inr rfl) _⟩
        case measure => simp [intOf]
      · have hk' : ¬ (y.b : Int) = (k : Int) := by omega
        have he : Hid ({ y with a := if y.a = k then t else y.a } = swK y k t) := by unfold Hid swK; rw [if_neg hk]
        go_wp2
        go_roundw
        case rel => exact ⟨_, .inr (.inr ⟨rfl, rfl⟩), by rw [← he.out]; exact HTz.out, HK.out⟩
        case measure => simp [intOf]
    · go_wp2
      exact bodyPost_end (results_none rfl _ _ _) rfl ⟨rfl, HTz.out, HK.out⟩
end Go.Proofs.Ytifokdebocgaiaa
