/- The contracts of the program's Put. -/
import Derived.Test.YtcabeclbdjfoaaaPaveF
import Derived.Test.YtcabeclbdjfoaaaPrunA
namespace Go.Proofs.Ytcabeclbdjfoaaa
open Go.RowKit

/-- What Put and Take answer. -/
def DoneM (w : World) (N g0 : Nat) (most : Int) (L : List Pr) (n1 : Nat) (x : Int) (e : Ending) (w' : World) : Prop :=
  ∃ (g cap : Nat) (ns : List Nd) (ws : Nat → List Bool), e = .returned (.int .i64 x) ∧ TrM w' N g cap most (L.length : Int) ns ∧ Good ns ws ∧ Holds ns ws L ∧ ns.length ≤ n1 ∧ (g = g0 ∨ w.heap.size ≤ g) ∧ Keep (twoB N g0) w w'
theorem place_not {ns : List Nd} {ws : Nat → List Bool} {L : List Pr} (g : Good ns ws) (H : Holds ns ws L) {a l : Int} (h0 : 0 ≤ a) (h1 : a < 4294967296) (h : mayB a l = true → ∀ (j : Nat) (x : Nd), ns[j]? = some x → ws j = wayX a l.toNat → x.h = false) : fAt a l L = none := by
  have h2 := holds_not' g H h0 h1 h
  have h3 := get_isSome (L := L) (a := a) (l := l)
  rw [h2] at h3
  cases hf : fAt a l L with
  | none => rfl
  | some i => rw [hf] at h3; cases h3
theorem place_yes {ns : List Nd} {ws : Nat → List Bool} {L : List Pr} (g : Good ns ws) (H : Holds ns ws L) (hs : Srt L) {a l : Int} (h0 : 0 ≤ a) (h1 : a < 4294967296) (hm : mayB a l = true) {i : Nat} {x : Nd} (hx : ns[i]? = some x) (hw : ws i = wayX a l.toNat) (hh : x.h = true) : ∃ j, fAt a l L = some j ∧ j < L.length := by
  have h2 := holds_get g H hs h0 h1 hm hx hw
  rw [if_pos hh] at h2
  have h3 := get_isSome (L := L) (a := a) (l := l)
  rw [h2] at h3
  cases hf : fAt a l L with
  | none => rw [hf] at h3; cases h3
  | some j => obtain ⟨p, -, -, -, hj⟩ := fAt_some hf; exact ⟨j, rfl, hj⟩
set_option maxHeartbeats 1000000 in
theorem put_argM (N g cap : Nat) (most : Int) (ns : List Nd) (ws : Nat → List Bool) (L : List Pr) (a l n : Int) (w : World) (hT : TrM w N g cap most (L.length : Int) ns) (hG : Good ns ws) (hH : Holds ns ws L) (ha0 : 0 ≤ a) (ha1 : a < 4294967296) (hm : mayB a l = false) :
    Calls Try.prog 37 #[.pointer (some ⟨N, 0, none⟩), valX a l, .int .i64 n] w (DoneM w N g most (putL most L a l n) (ns.length + 32) (putX most L a l)) := by
  have HE : Hid (putL most L a l n = L ∧ putX most L a l = 1) := by unfold Hid putL putX; rw [if_pos hm, if_pos hm]; exact ⟨rfl, rfl⟩
  rw [HE.out.1, HE.out.2]
  have HT : Hid (TrM w N g cap most (L.length : Int) ns ∧ Good ns ws ∧ Holds ns ws L) := ⟨hT, hG, hH⟩
  have HM : Hid (mayB a l = false) := hm
  clear hT hG hH hm
  go_enter Try.func37, Try.ntmps37
  go_wp2_with (go_at_call 45; refine (may_any _ _ _ ha0 ha1 HM.out).mono ?_; rintro e W1 ⟨rfl, hb1⟩)
  go_ret
  exact ⟨g, cap, ns, ws, rfl, HT.out.1.later (Below.out1 hb1), HT.out.2.1, HT.out.2.2, by omega, .inl rfl, keep_of (Below.out1 hb1)⟩
set_option maxHeartbeats 2000000 in
theorem put_may (N g cap : Nat) (most : Int) (ns : List Nd) (ws : Nat → List Bool) (L : List Pr) (a : Int) (l : Nat) (n : Int) (w : World) (hT : TrM w N g cap most (L.length : Int) ns) (hG : Good ns ws) (hH : Holds ns ws L) (hS : Srt L) (ha0 : 0 ≤ a) (ha1 : a < 4294967296) (hm : mayB a (l : Int) = true) (hn : -9223372036854775808 ≤ n ∧ n ≤ 9223372036854775807) (hL : L.length ≤ 2000) (hns : ns.length ≤ 60000) :
    Calls Try.prog 37 #[.pointer (some ⟨N, 0, none⟩), valX a (l : Int), .int .i64 n] w (DoneM w N g most (putL most L a (l : Int) n) (ns.length + 32) (putX most L a (l : Int))) := by
  have HT : Hid (TrM w N g cap most (L.length : Int) ns) := hT
  have HG : Hid (Good ns ws) := hG
  have HH : Hid (Holds ns ws L) := hH
  have HM : Hid (mayB a (l : Int) = true) := hm
  have HS : Hid (Srt L) := hS
  have HN : Hid (-9223372036854775808 ≤ n ∧ n ≤ 9223372036854775807) := hn
  have hml : 0 ≤ (l : Int) ∧ (l : Int) ≤ 32 := may_len hm
  have HL32 : Hid (l ≤ 32) := by unfold Hid; omega
  have HNs : Hid (ns.length ≤ 60000) := hns
  have ca := (hT.cap_le).1
  have hgN : g ≠ N := fun e => hT.ne e.symm
  have hNg := hT.ne
  obtain ⟨c, hc⟩ : ∃ c, L.length = c := ⟨_, rfl⟩
  have HC : Hid (L.length = c) := hc
  rw [hc] at hL
  obtain ⟨k, hk⟩ : ∃ k, ns.length = k := ⟨_, rfl⟩
  have HK : Hid (ns.length = k) := hk
  rw [hk] at ca
  clear hT hG hH hm hS hn hc hk hns hml
  go_enter Try.func37, Try.ntmps37
  go_wp2_with (first
    | (go_at_call 45; refine (may_any _ _ _ ha0 ha1 HM.out).mono ?_; rintro e W1 ⟨rfl, hb1⟩; obtain ⟨x0, x1⟩ := ((X2.new w a (l : Int)).later hb1).z; have hB1 := Below.out1 hb1)
    | (go_at_call 52; refine (place_any N g cap most _ ns ws a (l : Int) _ (HT.out.later hB1) HG.out ha0 ha1).mono ?_; rintro e W2 ⟨i, ok, rfl, hb2, hpl⟩; have hB2 := stp hB1 hb2; have x0 := cell_later hb2 x0; have x1 := cell_later hb2 x1; obtain ⟨z0, z1, z2, fz, -, -, -⟩ := HT.out.later hB2; rw [HK.out] at z0; rw [HC.out] at z2; have gz := (HT.out.later hB2).gfz; have HPl : Hid ((ok = true ∧ mayB a (l : Int) = true ∧ ∃ x : Nd, ns[i]? = some x ∧ ws i = wayX a ((l : Nat) : Int).toNat ∧ x.h = true) ∨ (ok = false ∧ (mayB a (l : Int) = true → ∀ (j : Nat) (x : Nd), ns[j]? = some x → ws j = wayX a ((l : Nat) : Int).toNat → x.h = false))) := hpl; clear hpl; obtain ⟨rfl, hp⟩ | ⟨rfl, hp⟩ := HPl.out; (obtain ⟨-, x, hx, hw, hh⟩ := hp; have hi := lt_of_at hx; rw [HK.out] at hi; have hi' : (i : Int) < (k : Int) := (by omega); have d4 := ((HT.out.later hB2).at hx).2.2.2.2; have HX : Hid (ns[i]? = some x ∧ ws i = wayX a ((l : Nat) : Int).toNat ∧ x.h = true) := ⟨hx, hw, hh⟩; clear hx hw hh hi); rotate_left; (have HX : Hid (fAt a (l : Int) L = none) := place_not HG.out HH.out ha0 ha1 hp; clear hp); rotate_left))
  · go_ret
    have HE : putX most L a (l : Int) = 0 ∧ (putL most L a (l : Int) n).length = L.length := by
      obtain ⟨j, hj, -⟩ := place_yes HG.out HH.out HS.out ha0 ha1 HM.out HX.out.1 HX.out.2.1 HX.out.2.2
      unfold putX putL
      rw [HM.out, hj]
      simp
    rw [HE.1]
    have hT2 := (HT.out.later hB2).set (j := 4) (u := .int .i64 n) (y := { x with h := true, n := n }) HX.out.1 (by decide) (by have := HX.out.2.2; cases x; simp only at this; subst this; rfl)
    exact ⟨g, cap, ns.set i { x with h := true, n := n }, ws, rfl, by rw [HE.2]; exact hT2, HG.out.set HX.out.1 true n HN.out, holds_put HG.out HH.out HS.out ha0 ha1 HM.out HX.out.1 HX.out.2.1 HE.1, by rw [List.length_set]; omega, .inl rfl, (keep_of hB2).setCell (.inr rfl) _⟩
  · by_cases hfull : most ≤ (c : Int)
    · have hf' : (c : Int) ≥ most := hfull
      have HE : Hid (putL most L a (l : Int) n = L ∧ putX most L a (l : Int) = 4) := by
        unfold Hid putL putX
        rw [HM.out, HX.out, HC.out]
        simp [hfull]
      clear hfull
      go_quiet (fail)
      go_wp2
      go_ret
      rw [HE.out.1, HE.out.2]
      exact ⟨g, cap, ns, ws, rfl, HT.out.later (below_drewN hB2 _), HG.out, HH.out, by omega, .inl rfl, keep_of (below_drewN hB2 _)⟩
    · have hf' : ¬ (c : Int) ≥ most := by omega
      have HE : Hid (putX most L a (l : Int) = 0 ∧ (putL most L a (l : Int) n).length = L.length + 1) := by
        unfold Hid putL putX
        rw [HM.out, HX.out, HC.out]
        simp [hfull, insP_len, HC.out]
      clear hfull
      go_quiet (fail)
      clear z0 z1 z2 fz gz
      go_wp2_with (go_at_call 53; refine (pave_any _ N g cap most _ ns ws L a l (HT.out.later (below_drewN hB2 _)) HG.out HH.out HNs.out ha0 HL32.out).mono ?_; rintro e W3 ⟨i3, g3, cap3, ns3, ws3, rfl, hT3, hG3, hH3, hi3, hw3, hl3, hg3, hK3⟩; have HT3 : Hid (TrM W3 N g3 cap3 most (L.length : Int) ns3) := hT3; obtain ⟨z0, z1, z2, fz, -, hne3, -⟩ := hT3; rw [HC.out] at z2; have gz := HT3.out.gfz; obtain ⟨y, hy⟩ := at_of_lt hi3; have HY : Hid (ns3[i3]? = some y ∧ Good ns3 ws3 ∧ Holds ns3 ws3 L ∧ ws3 i3 = wayX a l ∧ ns3.length ≤ ns.length + l ∧ (g3 = g ∨ w.heap.size ≤ g3) ∧ Keep (twoB N g) w W3) := ⟨hy, hG3, hH3, hw3, hl3, hg3.imp id (fun h => Nat.le_trans (below_drewN hB2 _).size h), keep_then (below_drewN hB2 _) hK3⟩; obtain ⟨-, -, -, d3, d4⟩ := HT3.out.at hy; have ca3 := (HT3.out.cap_le).1; obtain ⟨k3, hk3⟩ : ∃ k, ns3.length = k := ⟨_, rfl⟩; have HK3 : Hid (ns3.length = k3) := hk3; rw [hk3] at z0 hi3 ca3; have hi3' : (i3 : Int) < (k3 : Int) := (by omega); clear hG3 hH3 hw3 hl3 hg3 hK3 hy hk3)
      have zd : W3.drew.cell? ⟨N, 0, none⟩ = some (.slice (some ⟨g3, 0, none⟩) k3 cap3) := z0
      have zs : (W3.setCell ⟨g3, i3 * 5 + 3, none⟩ (.bool true)).drew.cell? ⟨N, 0, none⟩ = some (.slice (some ⟨g3, 0, none⟩) k3 cap3) := by
        rw [World.cell?_drew, World.cell?_setCell_other _ _ _ _ (by simp <;> omega)]; exact z0
      have zt : ((W3.setCell ⟨g3, i3 * 5 + 3, none⟩ (.bool true)).setCell ⟨g3, i3 * 5 + 4, none⟩ (.int .i64 n)).drew.cell? ⟨N, 0, none⟩ = some (.slice (some ⟨g3, 0, none⟩) k3 cap3) := by
        rw [World.cell?_drew, World.cell?_setCell_other _ _ _ _ (by simp <;> omega), World.cell?_setCell_other _ _ _ _ (by simp <;> omega)]; exact z0
      go_region_held3 (fun w' => w'.cell? ⟨N, 0, none⟩ = some (.slice (some ⟨g3, 0, none⟩) k3 cap3)) (first | with_reducible exact zd | with_reducible exact zs | with_reducible exact zt) (fail)
      all_goals
        clear zd zs zt z0 z1 z2 fz gz d3 d4 x0 x1
        obtain ⟨V, hV⟩ : ∃ V, V = ((W3.setCell ⟨g3, i3 * 5 + 3, none⟩ (.bool true)).setCell ⟨g3, i3 * 5 + 4, none⟩ (.int .i64 n)).drew := ⟨_, rfl⟩
        rw [← hV]
        have hT4 := (HT3.out.set (j := 3) (u := .bool true) (y := { y with h := true }) HY.out.1 (by decide) rfl).set (j := 4) (u := .int .i64 n) (y := { y with h := true, n := n }) (List.getElem?_set_self (by rw [HK3.out]; exact hi3)) (by decide) rfl
        rw [List.set_set] at hT4
        have HT4 : Hid (TrM V N g3 cap3 most (L.length : Int) (ns3.set i3 { y with h := true, n := n })) := by unfold Hid; rw [hV]; exact hT4.later (Below.refl _ _).drew
        have HKV : Hid (Keep (twoB N g) w V) := by
          unfold Hid
          rw [hV]
          have hb : twoB N g g3 ∨ w.heap.size ≤ g3 := HY.out.2.2.2.2.2.1.imp (fun h => .inr h) id
          exact ((HY.out.2.2.2.2.2.2.setCell' (p := ⟨g3, i3 * 5 + 3, none⟩) hb _).setCell' (p := ⟨g3, i3 * 5 + 4, none⟩) hb _).drew
        clear hV hT4
        have z2 := HT4.out.c2
        rw [HC.out] at z2
        have fz := HT4.out.fz
        rename_i hHeld
        clear hHeld
        have hL2 : (c : Int) ≤ 2000 := by omega
        go_wp2
        go_ret
        rw [HE.out.1]
        have hT5 := HT4.out.setCnt ((c : Int) + 1)
        refine ⟨g3, cap3, ns3.set i3 { y with h := true, n := n }, ws3, rfl, ?_, HY.out.2.1.set HY.out.1 true n HN.out, holds_put HY.out.2.1 HY.out.2.2.1 HS.out ha0 ha1 HM.out HY.out.1 (by rw [HY.out.2.2.2.1]; simp) HE.out.1, ?_, HY.out.2.2.2.2.2.1, HKV.out.setCell (.inl rfl) _⟩
        · rw [HE.out.2, HC.out]
          exact hT5
        · rw [List.length_set]
          have := HY.out.2.2.2.2.1
          have := HL32.out
          omega
theorem put_any (N g cap : Nat) (most : Int) (ns : List Nd) (ws : Nat → List Bool) (L : List Pr) (a l n : Int) (w : World) (hT : TrM w N g cap most (L.length : Int) ns) (hG : Good ns ws) (hH : Holds ns ws L) (hS : Srt L) (ha0 : 0 ≤ a) (ha1 : a < 4294967296) (hn : -9223372036854775808 ≤ n ∧ n ≤ 9223372036854775807) (hL : L.length ≤ 2000) (hns : ns.length ≤ 60000) :
    Calls Try.prog 37 #[.pointer (some ⟨N, 0, none⟩), valX a l, .int .i64 n] w (DoneM w N g most (putL most L a l n) (ns.length + 32) (putX most L a l)) := by
  cases hm : mayB a l
  · exact put_argM N g cap most ns ws L a l n w hT hG hH ha0 ha1 hm
  · obtain ⟨m, rfl⟩ : ∃ m : Nat, l = (m : Int) := ⟨l.toNat, by have := may_len hm; omega⟩
    exact put_may N g cap most ns ws L a m n w hT hG hH hS ha0 ha1 hm hn hL hns
end Go.Proofs.Ytcabeclbdjfoaaa
