/- The contract of the program's Take. -/
import Derived.Test.YtcabeclbdjfoaaaPutA
namespace Go.Proofs.Ytcabeclbdjfoaaa
open Go.RowKit

set_option maxHeartbeats 2000000 in
theorem take_any (N g cap : Nat) (most : Int) (ns : List Nd) (ws : Nat → List Bool) (L : List Pr) (a l : Int) (w : World) (hT : TrM w N g cap most (L.length : Int) ns) (hG : Good ns ws) (hH : Holds ns ws L) (hS : Srt L) (ha0 : 0 ≤ a) (ha1 : a < 4294967296) (hL : L.length ≤ 2000) :
    Calls Try.prog 40 #[.pointer (some ⟨N, 0, none⟩), valX a l] w (DoneM w N g most (takeL L a l) ns.length (takeX L a l)) := by
  have HT : Hid (TrM w N g cap most (L.length : Int) ns) := hT
  have HG : Hid (Good ns ws) := hG
  have HH : Hid (Holds ns ws L) := hH
  have HS : Hid (Srt L) := hS
  have ca := (hT.cap_le).1
  have hgN : g ≠ N := fun e => hT.ne e.symm
  have hNg := hT.ne
  obtain ⟨c, hc⟩ : ∃ c, L.length = c := ⟨_, rfl⟩
  have HC : Hid (L.length = c) := hc
  rw [hc] at hL
  obtain ⟨k, hk⟩ : ∃ k, ns.length = k := ⟨_, rfl⟩
  have HK : Hid (ns.length = k) := hk
  rw [hk] at ca
  have hcL : (c : Int) ≤ 2000 := by omega
  clear hT hG hH hS hc hk
  go_enter Try.func40, Try.ntmps40
  go_wp2_with (go_at_call 52; refine (place_any N g cap most _ ns ws a l _ (HT.out.later (below1 _ _)) HG.out ha0 ha1).mono ?_; rintro e W2 ⟨i, ok, rfl, hb2, hpl⟩; have HB2 : Hid (Below w.heap.size w W2) := Below.out1 hb2; have HT2 : Hid (TrM W2 N g cap most (L.length : Int) ns) := HT.out.later HB2.out; obtain ⟨z0, -, -, -, -, -, -⟩ := HT2.out; rw [HK.out] at z0; have gz := HT2.out.gfz; have HPl : Hid ((ok = true ∧ mayB a l = true ∧ ∃ x : Nd, ns[i]? = some x ∧ ws i = wayX a l.toNat ∧ x.h = true) ∨ (ok = false ∧ (mayB a l = true → ∀ (j : Nat) (x : Nd), ns[j]? = some x → ws j = wayX a l.toNat → x.h = false))) := hpl; clear hpl hb2; obtain ⟨rfl, hp⟩ | ⟨rfl, hp⟩ := HPl.out; (obtain ⟨hm, x, hx, hw, hh⟩ := hp; have hi := lt_of_at hx; rw [HK.out] at hi; have hi' : (i : Int) < (k : Int) := (by omega); obtain ⟨-, -, -, d3, d4⟩ := HT2.out.at hx; have HX : Hid (ns[i]? = some x ∧ ws i = wayX a l.toNat ∧ x.h = true ∧ mayB a l = true) := ⟨hx, hw, hh, hm⟩; clear hx hw hh hm); rotate_left; (have HX : Hid (fAt a l L = none) := place_not HG.out HH.out ha0 ha1 hp; clear hp); rotate_left)
  · have HE : Hid (takeX L a l = 0 ∧ (takeL L a l).length + 1 = L.length) := by
      obtain ⟨j, hj, hjl⟩ := place_yes HG.out HH.out HS.out ha0 ha1 HX.out.2.2.2 HX.out.1 HX.out.2.1 HX.out.2.2.1
      unfold Hid takeX takeL
      rw [hj]
      refine ⟨rfl, ?_⟩
      simp only [List.length_eraseIdx]
      rw [if_pos hjl]
      omega
    have zd : W2.drew.cell? ⟨N, 0, none⟩ = some (.slice (some ⟨g, 0, none⟩) k cap) := z0
    have zs : (W2.setCell ⟨g, i * 5 + 3, none⟩ (.bool false)).drew.cell? ⟨N, 0, none⟩ = some (.slice (some ⟨g, 0, none⟩) k cap) := by
      rw [World.cell?_drew, World.cell?_setCell_other _ _ _ _ (by simp <;> omega)]; exact z0
    have zt : ((W2.setCell ⟨g, i * 5 + 3, none⟩ (.bool false)).setCell ⟨g, i * 5 + 4, none⟩ (.int .i64 0)).drew.cell? ⟨N, 0, none⟩ = some (.slice (some ⟨g, 0, none⟩) k cap) := by
      rw [World.cell?_drew, World.cell?_setCell_other _ _ _ _ (by simp <;> omega), World.cell?_setCell_other _ _ _ _ (by simp <;> omega)]; exact z0
    go_region_held3 (fun w' => w'.cell? ⟨N, 0, none⟩ = some (.slice (some ⟨g, 0, none⟩) k cap)) (first | with_reducible exact zd | with_reducible exact zs | with_reducible exact zt) (fail)
    all_goals
      clear zd zs zt z0 gz d3 d4
      obtain ⟨V, hV⟩ : ∃ V, V = ((W2.setCell ⟨g, i * 5 + 3, none⟩ (.bool false)).setCell ⟨g, i * 5 + 4, none⟩ (.int .i64 0)).drew := ⟨_, rfl⟩
      rw [← hV]
      have hT4 := (HT2.out.set (j := 3) (u := .bool false) (y := { x with h := false }) HX.out.1 (by decide) rfl).set (j := 4) (u := .int .i64 0) (y := { x with h := false, n := 0 }) (List.getElem?_set_self (by rw [HK.out]; exact hi)) (by decide) rfl
      rw [List.set_set] at hT4
      have HT4 : Hid (TrM V N g cap most (L.length : Int) (ns.set i { x with h := false, n := 0 })) := by unfold Hid; rw [hV]; exact hT4.later (Below.refl _ _).drew
      have HKV : Hid (Keep (twoB N g) w V) := by
        unfold Hid
        rw [hV]
        exact (((keep_of HB2.out).setCell (p := ⟨g, i * 5 + 3, none⟩) (.inr rfl) _).setCell (p := ⟨g, i * 5 + 4, none⟩) (.inr rfl) _).drew
      have HGV : Hid (Good (ns.set i { x with h := false, n := 0 }) ws) := HG.out.set HX.out.1 false 0 ⟨by decide, by decide⟩
      have HHV : Hid (Holds (ns.set i { x with h := false, n := 0 }) ws (takeL L a l)) := holds_take HG.out HH.out HS.out ha0 ha1 HX.out.2.2.2 HX.out.1 HX.out.2.1
      have HLV : Hid (i < (ns.set i { x with h := false, n := 0 }).length ∧ (ns.set i { x with h := false, n := 0 }).length = ns.length) := ⟨by rw [List.length_set, HK.out]; exact hi, by rw [List.length_set]⟩
      obtain ⟨nv, hnv⟩ : ∃ nv, ns.set i { x with h := false, n := 0 } = nv := ⟨_, rfl⟩
      unfold Hid at HT4 HGV HHV HLV
      rw [hnv] at HT4 HGV HHV HLV
      have HT5 : Hid (TrM (V.setCell ⟨N, 2, none⟩ (.int .i64 ((c : Int) - 1))) N g cap most ((c : Int) - 1) nv) := HT4.setCnt ((c : Int) - 1)
      have z2 := HT4.c2
      rw [HC.out] at z2
      have fz := HT4.fz
      have HV1 : Hid (Good nv ws ∧ Holds nv ws (takeL L a l) ∧ i < nv.length ∧ nv.length = ns.length) := ⟨HGV, HHV, HLV⟩
      have HE2 : Hid ((c : Int) - 1 = ((takeL L a l).length : Int)) := by unfold Hid; have := HE.out.2; rw [HC.out] at this; omega
      have hc1 : (1 : Int) ≤ (c : Int) := by have := HE.out.2; rw [HC.out] at this; omega
      clear hV hT4 hnv HT4 HGV HHV HLV hi hi'
      rename_i hHeld
      clear hHeld
      go_wp2_with (go_at_call 55; refine (prune_any _ N g cap most _ nv ws (takeL L a l) i HT5.out HV1.out.1 HV1.out.2.1 HV1.out.2.2.1).mono ?_; rintro e W6 ⟨n6, w6, rfl, hT6, hG6, hH6, hl6, hK6⟩; have H6 : Hid (TrM W6 N g cap most ((c : Int) - 1) n6 ∧ Good n6 w6 ∧ Holds n6 w6 (takeL L a l) ∧ n6.length ≤ nv.length ∧ Keep (twoB N g) w W6) := ⟨hT6, hG6, hH6, hl6, (HKV.out.setCell (p := ⟨N, 2, none⟩) (.inl rfl) _).trans hK6 (fun _ _ h => h)⟩; clear hT6 hG6 hH6 hl6 hK6)
      go_ret
      rw [HE.out.1]
      exact ⟨g, cap, n6, w6, rfl, by rw [← HE2.out]; exact H6.out.1, H6.out.2.1, H6.out.2.2.1, by rw [← HV1.out.2.2.2]; exact H6.out.2.2.2.1, .inl rfl, H6.out.2.2.2.2⟩
  · have HE : Hid (takeL L a l = L ∧ takeX L a l = 5) := by unfold Hid takeL takeX; rw [HX.out]; exact ⟨rfl, rfl⟩
    go_ret
    rw [HE.out.1, HE.out.2]
    exact ⟨g, cap, ns, ws, rfl, HT2.out, HG.out, HH.out, Nat.le_refl _, .inl rfl, keep_of HB2.out⟩
end Go.Proofs.Ytcabeclbdjfoaaa
