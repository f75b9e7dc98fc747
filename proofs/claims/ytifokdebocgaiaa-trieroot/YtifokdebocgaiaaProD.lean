/- The contract of the program's move. -/
import Derived.Test.YtifokdebocgaiaaProC
namespace Go.Proofs.Ytifokdebocgaiaa
open Go.RowKit

theorem TrM.setU' {W : World} {N g cap : Nat} {most cnt : Int} {ns : List Nd} (h : TrM W N g cap most cnt ns) {k : Nat} (hk : k < ns.length) (t : Nat) : TrM (W.setCell ⟨g, k * 5 + 2, none⟩ (.int .i64 (t : Int))) N g cap most cnt (ns.set k { nd ns k with u := t }) :=
  h.set (j := 2) (at_nd hk) (by decide) rfl
/-- A whole node laid. -/
theorem TrM.put5 {W : World} {N g cap : Nat} {most cnt : Int} {ns : List Nd} (h : TrM W N g cap most cnt ns) {t : Nat} (ht : t < ns.length) (x : Nd) :
    TrM (((((W.setCell ⟨g, t * 5, none⟩ (.int .i64 (x.a : Int))).setCell ⟨g, t * 5 + 1, none⟩ (.int .i64 (x.b : Int))).setCell ⟨g, t * 5 + 2, none⟩ (.int .i64 (x.u : Int))).setCell ⟨g, t * 5 + 3, none⟩ (.bool x.h)).setCell ⟨g, t * 5 + 4, none⟩ (.int .i64 x.n)) N g cap most cnt (ns.set t x) := by
  obtain ⟨⟨a, b, u, hh, n⟩, hy⟩ := at_of_lt ht
  have h0 := h.set (j := 0) (y := ⟨x.a, b, u, hh, n⟩) hy (by decide) (u := .int .i64 (x.a : Int)) rfl
  have h1 := h0.set (j := 1) (y := ⟨x.a, x.b, u, hh, n⟩) (List.getElem?_set_self ht) (by decide) (u := .int .i64 (x.b : Int)) rfl
  rw [List.set_set] at h1
  have h2 := h1.set (j := 2) (y := ⟨x.a, x.b, x.u, hh, n⟩) (List.getElem?_set_self ht) (by decide) (u := .int .i64 (x.u : Int)) rfl
  rw [List.set_set] at h2
  have h3 := h2.set (j := 3) (y := ⟨x.a, x.b, x.u, x.h, n⟩) (List.getElem?_set_self ht) (by decide) (u := .bool x.h) rfl
  rw [List.set_set] at h3
  have h4 := h3.set (j := 4) (y := x) (List.getElem?_set_self ht) (by decide) (u := .int .i64 x.n) rfl
  rw [List.set_set] at h4
  exact h4
def MoveR (w : World) (N g cap : Nat) (most cnt : Int) (n1 : List Nd) (f t : Nat) (s : Value) (W : World) : Prop :=
  ∃ zs : List Nd, ((s = .int .i64 0 ∧ zs = n1) ∨ (s = .int .i64 1 ∧ zs = setU n1 (nd n1 f).a t) ∨ (s = .int .i64 2 ∧ zs = moveK n1 f t)) ∧ TrM W N g cap most cnt zs ∧ Keep (twoB N g) w W
set_option maxHeartbeats 2000000 in
theorem move_any (N g cap : Nat) (most cnt : Int) (ns : List Nd) (f t u : Nat) (x y : Nd) (w : World) (hT : TrM w N g cap most cnt ns) (hx : ns[f]? = some x) (hu : x.u = u) (hy : ns[u]? = some y) (ht : t < ns.length) (hft : f ≠ t) (ha : (nd (ns.set u (swK y f t)) f).a < ns.length) (hb : (nd (ns.set u (swK y f t)) f).b < ns.length) :
    Calls Try.prog 41 #[.pointer (some ⟨N, 0, none⟩), .int .i64 (f : Int), .int .i64 (t : Int)] w fun e w' => e = .returned (.tuple #[]) ∧ TrM w' N g cap most cnt (moveN (ns.set u (swK y f t)) f t) ∧ Keep (twoB N g) w w' := by
  have hL := lead_any N g cap most cnt ns f t u x y w hT hx hu hy
  have hf := lt_of_at hx
  obtain ⟨n1, hn1⟩ : ∃ n1, ns.set u (swK y f t) = n1 := ⟨_, rfl⟩
  have hl1 : ns.length = n1.length := by rw [← hn1, List.length_set]
  rw [hn1] at hL ha hb ⊢
  obtain ⟨n, hn⟩ : ∃ n, n1.length = n := ⟨_, rfl⟩
  have HN : Hid (n1.length = n) := hn
  have ca := (hT.cap_le).1
  rw [hl1, hn] at hf ht ha hb ca
  obtain ⟨xa, hxa⟩ : ∃ k, (nd n1 f).a = k := ⟨_, rfl⟩
  obtain ⟨xb, hxb⟩ : ∃ k, (nd n1 f).b = k := ⟨_, rfl⟩
  have HXa : Hid ((nd n1 f).a = xa) := hxa
  have HXb : Hid ((nd n1 f).b = xb) := hxb
  rw [hxa] at ha
  rw [hxb] at hb
  have hf' : (f : Int) < (n : Int) := by omega
  have ht' : (t : Int) < (n : Int) := by omega
  have ha' : (xa : Int) < (n : Int) := by omega
  have hb' : (xb : Int) < (n : Int) := by omega
  clear hT hx hu hy hn1 hl1 hn hxa hxb
  have i0 := idx0 (.int .i64 (xa : Int)) (.int .i64 (xb : Int))
  have i1 := idx1 (.int .i64 (xa : Int)) (.int .i64 (xb : Int))
  go_enter Try.func41, Try.ntmps41
  go_wp2_with (go_at_call 40; refine hL.mono ?_; rintro e W1 ⟨rfl, hT1, hK1⟩; have HT1 : Hid (TrM W1 N g cap most cnt n1) := hT1; have HK1 : Hid (Keep (twoB N g) w W1) := hK1; have z0 := hT1.c0; rw [HN.out] at z0; obtain ⟨e0, e1, -, -, -⟩ := hT1.at (at_nd (i := f) (by rw [HN.out]; exact hf)); rw [HXa.out] at e0; rw [HXb.out] at e1; clear hT1 hK1)
  go_loopw [20] (fun s_ W => MoveR w N g cap most cnt n1 f t s_ W) (fun s_ _ => 2 - (intOf s_).toNat)
  case atStart => exact ⟨n1, .inl ⟨rfl, rfl⟩, HT1.out, HK1.out⟩
  case round =>
    clear z0 e0 e1
    obtain ⟨zs, hc, hT, hK⟩ := hrel
    have HTz : Hid (TrM wr N g cap most cnt zs) := hT
    have HK : Hid (Keep (twoB N g) w wr) := hK
    have z0 := hT.c0
    have fz := hT.gfz
    have hzl : zs.length = n := by
      rw [← HN.out]
      obtain ⟨-, rfl⟩ | ⟨-, rfl⟩ | ⟨-, rfl⟩ := hc
      · rfl
      · exact setU_len _ _ _
      · unfold moveK; rw [setU_len, setU_len]
    have HZL : Hid (zs.length = n) := hzl
    rw [hzl] at z0
    clear hT hK hzl
    obtain ⟨rfl, hzs⟩ | ⟨rfl, hzs⟩ | ⟨rfl, hzs⟩ := hc
    · have HZ : Hid (zs = n1) := hzs
      clear hzs
      by_cases hk : xa = 0
      · have hk' : ((xa : Int) != 0) = false := by rw [bne_eq_false_iff_eq]; omega
        have HE : Hid (setU n1 (nd n1 f).a t = zs) := by unfold Hid; rw [HXa.out, hk, HZ.out]; rfl
        clear hk
        go_wp2
        go_roundw
        case rel => exact ⟨_, .inr (.inl ⟨rfl, rfl⟩), by rw [HE.out]; exact HTz.out, HK.out⟩
        case measure => simp [intOf]
      · have hk' : ((xa : Int) != 0) = true := by rw [bne_iff_ne]; omega
        have HE : Hid (setU n1 (nd n1 f).a t = zs.set xa { nd zs xa with u := t }) := by unfold Hid setU; rw [HXa.out, if_neg hk, HZ.out]
        have d2 := (HTz.out.at (at_nd (i := xa) (by rw [HZL.out]; exact ha))).2.2.1
        clear hk
        go_wp2
        go_roundw
        case rel => exact ⟨_, .inr (.inl ⟨rfl, rfl⟩), by rw [HE.out]; exact HTz.out.setU' (by rw [HZL.out]; exact ha) t, HK.out.setCell (.inr rfl) _⟩
        case measure => simp [intOf]
    · have HZ : Hid (zs = setU n1 (nd n1 f).a t) := hzs
      clear hzs
      by_cases hk : xb = 0
      · have hk' : ((xb : Int) != 0) = false := by rw [bne_eq_false_iff_eq]; omega
        have HE : Hid (moveK n1 f t = zs) := by unfold Hid moveK; rw [HXb.out, hk, HZ.out]; rfl
        clear hk
        go_wp2
        go_roundw
        case rel => exact ⟨_, .inr (.inr ⟨rfl, rfl⟩), by rw [HE.out]; exact HTz.out, HK.out⟩
        case measure => simp [intOf]
      · have hk' : ((xb : Int) != 0) = true := by rw [bne_iff_ne]; omega
        have HE : Hid (moveK n1 f t = zs.set xb { nd zs xb with u := t }) := by unfold Hid moveK; rw [HXb.out, ← HZ.out, setU, if_neg hk]
        have d2 := (HTz.out.at (at_nd (i := xb) (by rw [HZL.out]; exact hb))).2.2.1
        clear hk
        go_wp2
        go_roundw
        case rel => exact ⟨_, .inr (.inr ⟨rfl, rfl⟩), by rw [HE.out]; exact HTz.out.setU' (by rw [HZL.out]; exact hb) t, HK.out.setCell (.inr rfl) _⟩
        case measure => simp [intOf]
    · have HZ : Hid (zs = moveK n1 f t) := hzs
      clear hzs i0 i1 ha hb ha' hb'
      obtain ⟨q, hq⟩ : ∃ q, nd zs f = q := ⟨_, rfl⟩
      have HQ : Hid (nd zs f = q) := hq
      obtain ⟨c0, c1, c2, c3, c4⟩ := HTz.out.at (at_nd (i := f) (by rw [HZL.out]; exact hf))
      obtain ⟨b0, b1, b2, b3, b4⟩ := HTz.out.at (at_nd (i := t) (by rw [HZL.out]; exact ht))
      rw [hq] at c0 c1 c2 c3 c4
      have hne := HTz.out.ne
      have hft' : f * 5 + 4 < t * 5 ∨ t * 5 + 4 < f * 5 := by omega
      have kp : ∀ u0 u1 u2 u3 u4, (((((wr.setCell ⟨g, t * 5, none⟩ u0).setCell ⟨g, t * 5 + 1, none⟩ u1).setCell ⟨g, t * 5 + 2, none⟩ u2).setCell ⟨g, t * 5 + 3, none⟩ u3).setCell ⟨g, t * 5 + 4, none⟩ u4).drew.cell? ⟨N, 0, none⟩ = some (.slice (some ⟨g, 0, none⟩) n cap) ∧ ∀ j, j < 5 → (((((wr.setCell ⟨g, t * 5, none⟩ u0).setCell ⟨g, t * 5 + 1, none⟩ u1).setCell ⟨g, t * 5 + 2, none⟩ u2).setCell ⟨g, t * 5 + 3, none⟩ u3).setCell ⟨g, t * 5 + 4, none⟩ u4).drew.cell? ⟨g, f * 5 + j, none⟩ = wr.cell? ⟨g, f * 5 + j, none⟩ := fun u0 u1 u2 u3 u4 => by
        refine ⟨?_, fun j hj => ?_⟩
        · rw [World.cell?_drew, World.cell?_setCell_other _ _ _ _ (by simp <;> omega), World.cell?_setCell_other _ _ _ _ (by simp <;> omega), World.cell?_setCell_other _ _ _ _ (by simp <;> omega), World.cell?_setCell_other _ _ _ _ (by simp <;> omega), World.cell?_setCell_other _ _ _ _ (by simp <;> omega)]
          exact z0
        · rw [World.cell?_drew, World.cell?_setCell_other _ _ _ _ (by simp <;> omega), World.cell?_setCell_other _ _ _ _ (by simp <;> omega), World.cell?_setCell_other _ _ _ _ (by simp <;> omega), World.cell?_setCell_other _ _ _ _ (by simp <;> omega), World.cell?_setCell_other _ _ _ _ (by simp <;> omega)]
      clear hq
      have hS1 : wr.drew.cell? ⟨N, 0, none⟩ = some (.slice (some ⟨g, 0, none⟩) n cap) ∧ wr.drew.cell? ⟨g, f * 5, none⟩ = some (.int .i64 (q.a : Int)) ∧ wr.drew.cell? ⟨g, f * 5 + 1, none⟩ = some (.int .i64 (q.b : Int)) ∧ wr.drew.cell? ⟨g, f * 5 + 2, none⟩ = some (.int .i64 (q.u : Int)) ∧ wr.drew.cell? ⟨g, f * 5 + 3, none⟩ = some (.bool q.h) ∧ wr.drew.cell? ⟨g, f * 5 + 4, none⟩ = some (.int .i64 q.n) := ⟨z0, c0, c1, c2, c3, c4⟩
      have k5 := kp (.int .i64 (q.a : Int)) (.int .i64 (q.b : Int)) (.int .i64 (q.u : Int)) (.bool q.h) (.int .i64 q.n)
      have hS2 : (((((wr.setCell ⟨g, t * 5, none⟩ (.int .i64 (q.a : Int))).setCell ⟨g, t * 5 + 1, none⟩ (.int .i64 (q.b : Int))).setCell ⟨g, t * 5 + 2, none⟩ (.int .i64 (q.u : Int))).setCell ⟨g, t * 5 + 3, none⟩ (.bool q.h)).setCell ⟨g, t * 5 + 4, none⟩ (.int .i64 q.n)).drew.cell? ⟨N, 0, none⟩ = some (.slice (some ⟨g, 0, none⟩) n cap) ∧ (((((wr.setCell ⟨g, t * 5, none⟩ (.int .i64 (q.a : Int))).setCell ⟨g, t * 5 + 1, none⟩ (.int .i64 (q.b : Int))).setCell ⟨g, t * 5 + 2, none⟩ (.int .i64 (q.u : Int))).setCell ⟨g, t * 5 + 3, none⟩ (.bool q.h)).setCell ⟨g, t * 5 + 4, none⟩ (.int .i64 q.n)).drew.cell? ⟨g, f * 5, none⟩ = some (.int .i64 (q.a : Int)) ∧ (((((wr.setCell ⟨g, t * 5, none⟩ (.int .i64 (q.a : Int))).setCell ⟨g, t * 5 + 1, none⟩ (.int .i64 (q.b : Int))).setCell ⟨g, t * 5 + 2, none⟩ (.int .i64 (q.u : Int))).setCell ⟨g, t * 5 + 3, none⟩ (.bool q.h)).setCell ⟨g, t * 5 + 4, none⟩ (.int .i64 q.n)).drew.cell? ⟨g, f * 5 + 1, none⟩ = some (.int .i64 (q.b : Int)) ∧ (((((wr.setCell ⟨g, t * 5, none⟩ (.int .i64 (q.a : Int))).setCell ⟨g, t * 5 + 1, none⟩ (.int .i64 (q.b : Int))).setCell ⟨g, t * 5 + 2, none⟩ (.int .i64 (q.u : Int))).setCell ⟨g, t * 5 + 3, none⟩ (.bool q.h)).setCell ⟨g, t * 5 + 4, none⟩ (.int .i64 q.n)).drew.cell? ⟨g, f * 5 + 2, none⟩ = some (.int .i64 (q.u : Int)) ∧ (((((wr.setCell ⟨g, t * 5, none⟩ (.int .i64 (q.a : Int))).setCell ⟨g, t * 5 + 1, none⟩ (.int .i64 (q.b : Int))).setCell ⟨g, t * 5 + 2, none⟩ (.int .i64 (q.u : Int))).setCell ⟨g, t * 5 + 3, none⟩ (.bool q.h)).setCell ⟨g, t * 5 + 4, none⟩ (.int .i64 q.n)).drew.cell? ⟨g, f * 5 + 3, none⟩ = some (.bool q.h) ∧ (((((wr.setCell ⟨g, t * 5, none⟩ (.int .i64 (q.a : Int))).setCell ⟨g, t * 5 + 1, none⟩ (.int .i64 (q.b : Int))).setCell ⟨g, t * 5 + 2, none⟩ (.int .i64 (q.u : Int))).setCell ⟨g, t * 5 + 3, none⟩ (.bool q.h)).setCell ⟨g, t * 5 + 4, none⟩ (.int .i64 q.n)).drew.cell? ⟨g, f * 5 + 4, none⟩ = some (.int .i64 q.n) :=
        ⟨k5.1, (k5.2 0 (by decide)).trans c0, (k5.2 1 (by decide)).trans c1, (k5.2 2 (by decide)).trans c2, (k5.2 3 (by decide)).trans c3, (k5.2 4 (by decide)).trans c4⟩
      clear k5 kp
      go_wp2
      go_region_held3 (fun w' => w'.cell? ⟨N, 0, none⟩ = some (.slice (some ⟨g, 0, none⟩) n cap) ∧ w'.cell? ⟨g, f * 5, none⟩ = some (.int .i64 (q.a : Int)) ∧ w'.cell? ⟨g, f * 5 + 1, none⟩ = some (.int .i64 (q.b : Int)) ∧ w'.cell? ⟨g, f * 5 + 2, none⟩ = some (.int .i64 (q.u : Int)) ∧ w'.cell? ⟨g, f * 5 + 3, none⟩ = some (.bool q.h) ∧ w'.cell? ⟨g, f * 5 + 4, none⟩ = some (.int .i64 q.n)) (first | with_reducible exact hS1 | with_reducible exact hS2) (fail)
      all_goals
        go_wp2
        have hP := (HTz.out.put5 (t := t) (by rw [HZL.out]; exact ht) q).later (W' := _) (Below.refl _ _).drew
        exact bodyPost_end (results_none rfl _ _ _) rfl ⟨rfl, by unfold moveN; rw [← HZ.out, HQ.out]; exact hP, (((((HK.out.setCell (p := ⟨g, t * 5, none⟩) (.inr rfl) _).setCell (p := ⟨g, t * 5 + 1, none⟩) (.inr rfl) _).setCell (p := ⟨g, t * 5 + 2, none⟩) (.inr rfl) _).setCell (p := ⟨g, t * 5 + 3, none⟩) (.inr rfl) _).setCell (p := ⟨g, t * 5 + 4, none⟩) (.inr rfl) _).drew⟩
end Go.Proofs.Ytifokdebocgaiaa
