/- The document's reader; the contract of short. -/
import Derived.Test.YtakikkigkmcffaaCR1
import Derived.Test.YtakikkigkmcffaaCD5
import Derived.Test.YtakikkigkmcffaaConS
import Derived.Deep.RegionLaw
namespace Go.Proofs.Ytakikkigkmcffaa
open Go.RowKit

/-- The four cells of the document's reader in block N, which may be written. -/
def RR (W : World) (N : Nat) (K : Kn) (ad : Option Addr) (k cp : Nat) : Prop :=
  W.cell? ⟨N, 0, none⟩ = some (.int .u64 K.r) ∧ W.cell? ⟨N, 1, none⟩ = some (.bool K.told) ∧ W.cell? ⟨N, 2, none⟩ = some (.int .u32 K.a) ∧ W.cell? ⟨N, 3, none⟩ = some (.slice ad k cp) ∧ (∀ o, W.frozen? ⟨N, o, none⟩ = false) ∧ N < W.heap.size
section
variable {W W' : World} {B N : Nat} {K : Kn} {ad : Option Addr} {k cp : Nat}
theorem RR.lift (h : RR W N K ad k cp) (hb : Below B W W') (hN : N < B) : RR W' N K ad k cp := by
  obtain ⟨h0, h1, h2, h3, hf, hz⟩ := h
  exact ⟨(hb.cell (p := ⟨N, 0, none⟩) hN).trans h0, (hb.cell (p := ⟨N, 1, none⟩) hN).trans h1, (hb.cell (p := ⟨N, 2, none⟩) hN).trans h2, (hb.cell (p := ⟨N, 3, none⟩) hN).trans h3, fun o => (hb.frozen (p := ⟨N, o, none⟩) hN).trans (hf o), Nat.lt_of_lt_of_le hz hb.size⟩
theorem RR.later (h : RR W N K ad k cp) (hb : Below W.heap.size W W') : RR W' N K ad k cp := h.lift hb h.2.2.2.2.2
theorem RR.setR (h : RR W N K ad k cp) (r' : Int) : RR ((W.setCell ⟨N, 0, none⟩ (.int .u64 r')).setCell ⟨N, 1, none⟩ (.bool true)) N ⟨true, r', K.a⟩ ad k cp := by
  obtain ⟨h0, h1, h2, h3, hf, hz⟩ := h
  exact ⟨by simp [go_sem, h0], by simp [go_sem, h1], by simp [go_sem, h2], by simp [go_sem, h3], fun o => by simp [go_sem, hf], by simpa using hz⟩
theorem RR.setA (h : RR W N K ad k cp) (a' : Int) : RR (W.setCell ⟨N, 2, none⟩ (.int .u32 a')) N ⟨K.told, K.r, a'⟩ ad k cp := by
  obtain ⟨h0, h1, h2, h3, hf, hz⟩ := h
  exact ⟨by simp [go_sem, h0], by simp [go_sem, h1], by simp [go_sem, h2], by simp [go_sem, h3], fun o => by simp [go_sem, hf], by simpa using hz⟩
theorem RR.set3 (h : RR W N K ad k cp) (ad' : Option Addr) (k' cp' : Nat) : RR (W.setCell ⟨N, 3, none⟩ (.slice ad' k' cp')) N K ad' k' cp' := by
  obtain ⟨h0, h1, h2, h3, hf, hz⟩ := h
  exact ⟨by simp [go_sem, h0], by simp [go_sem, h1], by simp [go_sem, h2], by simp [go_sem, h3], fun o => by simp [go_sem, hf], by simpa using hz⟩
end
theorem T9.newAt (W : World) (N : Nat) (hN : N = W.heap.size) (k s i c a l r t h : Int) : T9 (W.alloc (objT k s i c a l r t h)) N 0 ⟨k, s, i, c, a, l, r, t, h⟩ := by subst hN; exact T9.new W k s i c a l r t h
/-- What the document's reader leaves of a part. -/
def Took (w : World) (N : Nat) : Option St → Ending → World → Prop
  | none, e, w' => e = .returned (.bool false) ∧ Below N w w'
  | some S, e, w' => e = .returned (.bool true) ∧ ∃ ad k cp, RR w' N S.kn ad k cp ∧ OwnT w' (N + 1) (.slice ad k cp) k S.ps ∧ Below N w w'
theorem two_zero {l : List Int} (hb : Bytes l) (h : (at8 l 0 == 0) = false ∨ (at8 l 1 == 0) = false) : (getV l 0 2 == 0) = false := by
  have h0 := at8_b hb 0
  have h1 := at8_b hb 1
  unfold at8 at h h0 h1
  simp [getV] at h ⊢
  omega
theorem two_is {l : List Int} (h0 : at8 l 0 = 0) (h1 : at8 l 1 = 0) : getV l 0 2 = 0 := by
  unfold at8 at h0 h1
  simp [getV, h0, h1]
set_option maxHeartbeats 2000000 in
theorem short_pair (kd : Int) (hkd : kd = 4 ∨ kd = 5) (N : Nat) (S : St) (ad : Option Addr) (k cp : Nat) (b off n cap : Nat) (l : List Int) (w : World) (hF : RR w N S.kn ad k cp) (hO : OwnT w (N + 1) (.slice ad k cp) k S.ps) (hk : k ≤ 5000) (hr : Row8 w (some ⟨b, off, none⟩) n l) (hn : n ≤ 255) :
    Calls Try.prog 52 #[.pointer (some ⟨N, 0, none⟩), .int .u8 kd, .slice (some ⟨b, off, none⟩) n cap] w (Took w N (tk S kd l)) := by
  have HR : Hid (Row8 w (some ⟨b, off, none⟩) n l) := hr
  have HL : Hid (l.length = n) := hr.1
  have HBy : Hid (Bytes l) := hr.2.2.1
  have HF : Hid (RR w N S.kn ad k cp) := hF
  have HO : Hid (OwnT w (N + 1) (.slice ad k cp) k S.ps) := hO
  have hz : N < w.heap.size := hF.2.2.2.2.2
  have fail_of : pairB l = false → tk S kd l = none := fun h => by
    unfold tk; rcases hkd with rfl | rfl
    · rw [if_pos rfl, h, if_neg (by simp)]
    · rw [if_neg (by decide), if_pos rfl, h, if_neg (by simp)]
  by_cases h2 : n < 2
  · have HT : Hid (tk S kd l = none) := fail_of (by unfold pairB; rw [HL.out]; simp; omega)
    clear hr fail_of hF hO
    go_enter Try.func52, Try.ntmps52
    go_wp2
    go_ret
    rw [HT.out]
    exact ⟨rfl, Below.refl _ _⟩
  obtain ⟨b_, off_, he_, hcell⟩ := hr.at (by omega)
  simp only [Option.some.injEq, Addr.mk.injEq, and_true] at he_
  obtain ⟨rfl, rfl⟩ := he_
  have d0 := hcell 0 (by omega)
  have d1 := hcell 1 (by omega)
  rw [Nat.add_zero] at d0
  have E0 : Hid (at8 l 0 = l[0]?.getD 0) := rfl
  have E1 : Hid (at8 l 1 = l[1]?.getD 0) := rfl
  generalize l[0]?.getD 0 = x at d0 E0
  generalize l[1]?.getD 0 = y at d1 E1
  have hbz : b < w.heap.size := block_lt_of_cell d0
  have j0 : (0 : Int) < (n : Int) := by omega
  have j1 : (1 : Int) < (n : Int) := by omega
  by_cases hx : x = 0
  case neg =>
    have HT : Hid (tk S kd l = none) := fail_of (by unfold pairB; rw [two_zero HBy.out (.inl (by rw [E0.out]; simpa using hx))]; simp)
    have ex : (x != 0) = true := by simpa using hx
    clear hr fail_of hF hO hx hcell
    go_enter Try.func52, Try.ntmps52
    go_wp2
    go_ret
    rw [HT.out]
    exact ⟨rfl, Below.refl _ _⟩
  subst hx
  by_cases hy : y = 0
  case neg =>
    have HT : Hid (tk S kd l = none) := fail_of (by unfold pairB; rw [two_zero HBy.out (.inr (by rw [E1.out]; simpa using hy))]; simp)
    have ey : (y != 0) = true := by simpa using hy
    clear hr fail_of hF hO hy hcell
    go_enter Try.func52, Try.ntmps52
    go_wp2
    go_ret
    rw [HT.out]
    exact ⟨rfl, Below.refl _ _⟩
  subst hy
  have G0 : Hid (getV l 0 2 = 0) := two_is E0.out E1.out
  by_cases h6 : n = 6
  case neg =>
    have HT : Hid (tk S kd l = none) := fail_of (by unfold pairB; rw [HL.out]; simp [h6])
    have e6 : ((n : Int) != 6) = true := by rw [bne_iff_ne]; omega
    clear hr fail_of hF hO h6 hcell
    rcases hkd with rfl | rfl
    all_goals
      go_enter Try.func52, Try.ntmps52
      go_wp2
      go_ret
      rw [HT.out]
      exact ⟨rfl, Below.refl _ _⟩
  subst h6
  have HP : Hid (pairB l = true) := by unfold Hid pairB; rw [HL.out, G0.out]; rfl
  obtain ⟨f, hf⟩ : ∃ f, getV l 2 2 = f := ⟨_, rfl⟩
  obtain ⟨g, hg⟩ : ∃ g, getV l 4 2 = g := ⟨_, rfl⟩
  have bf := getV_h HBy.out 2
  have bg := getV_h HBy.out 4
  rw [hf] at bf
  rw [hg] at bg
  obtain ⟨f0, f1⟩ := bf
  obtain ⟨g0, g1⟩ := bg
  have HFv : Hid (getV l 2 2 = f) := hf
  have HGv : Hid (getV l 4 2 = g) := hg
  obtain ⟨c0, c1, c2, c3, cf, cz⟩ := hF
  clear hr fail_of hO hcell hf hg
  rcases hkd with rfl | rfl
  · have HT : Hid (tk S 4 l = some (S.add ⟨0, f, g, 0, 0, 0, 0, 0, 0⟩)) := by unfold Hid tk; rw [if_pos rfl, HP.out, if_pos rfl]; unfold helloT; rw [HFv.out, HGv.out]
    have HK : Hid (Tlv.Ok ⟨0, f, g, 0, 0, 0, 0, 0, 0⟩) := by unfold Hid; constructor <;> simp only <;> omega
    go_enter Try.func52, Try.ntmps52
    go_wp2_with (first
      | (go_at_call_of 32 (Value.int IntKind.i64 2); refine (num2_any _ 6 _ l _ HR.out (by omega) 2 (by omega) HFv.out).mono ?_; rintro e w' ⟨rfl, rfl⟩)
      | (go_at_call_of 32 (Value.int IntKind.i64 4); refine (num2_any _ 6 _ l _ HR.out (by omega) 4 (by omega) HGv.out).mono ?_; rintro e w' ⟨rfl, rfl⟩))
    go_region_law
      (first
        | (refine step_appT _ (by rfl) _ _ 22 (by rfl) (N + 1) Try.underlying22 info44 _ k S.ps (by rfl) (HO.out.later (below2 _ _ _).drew) _ 1 1 [⟨0, f, g, 0, 0, 0, 0, 0, 0⟩] (by rfl) (rowT_one ((T9.newAt (w'.alloc (objT 0 f g 0 0 0 0 0 0)) (w'.heap.size + 1) (by simp) 0 f g 0 0 0 0 0 0).later (Below.refl _ _).drew) rfl HK.out) (k + 1) (by rfl) (S.ps ++ [⟨0, f, g, 0, 0, 0, 0, 0, 0⟩]) (by rfl) (by omega) (by simp [World.drew]; omega) ?_; intro a3 c3 W3 own3 hb3; have HF3 := (HF.out.later (below2 w' (objT 0 f g 0 0 0 0 0 0) (objT 0 f g 0 0 0 0 0 0)).drew).lift hb3 (by omega); have HF3 : Hid (RR W3 N S.kn ad k cp) := HF3; obtain ⟨t0, t1, t2, t3, tf, tz⟩ := HF3.out))
    all_goals
      go_wp2
      go_ret
      rw [HT.out]
      exact ⟨rfl, a3, k + 1, c3, RR.set3 HF3.out _ _ _, own3.set (by omega), (((below2 w' (objT 0 f g 0 0 0 0 0 0) (objT 0 f g 0 0 0 0 0 0)).drew.mono (Nat.le_of_lt hz)).trans (hb3.mono (by omega))).setCell (Nat.le_refl _) _⟩
  · have HT : Hid (tk S 5 l = some (S.add ⟨1, 0, g, f, 0, 0, 0, 0, 0⟩)) := by unfold Hid tk; rw [if_neg (by decide), if_pos rfl, HP.out, if_pos rfl]; unfold ihuT; rw [HFv.out, HGv.out]
    have HK : Hid (Tlv.Ok ⟨1, 0, g, f, 0, 0, 0, 0, 0⟩) := by unfold Hid; constructor <;> simp only <;> omega
    go_enter Try.func52, Try.ntmps52
    go_wp2_with (first
      | (go_at_call_of 32 (Value.int IntKind.i64 2); refine (num2_any _ 6 _ l _ (by first | exact HR.out | exact HR.out.later (below1 _ _)) (by omega) 2 (by omega) HFv.out).mono ?_; rintro e w' ⟨rfl, rfl⟩)
      | (go_at_call_of 32 (Value.int IntKind.i64 4); refine (num2_any _ 6 _ l _ (by first | exact HR.out | exact HR.out.later (below1 _ _)) (by omega) 4 (by omega) HGv.out).mono ?_; rintro e w' ⟨rfl, rfl⟩))
    go_region_law
      (first
        | (refine step_appT _ (by rfl) _ _ 22 (by rfl) (N + 1) Try.underlying22 info44 _ k S.ps (by rfl) (HO.out.later (below2 _ _ _).drew) _ 1 1 [⟨1, 0, g, f, 0, 0, 0, 0, 0⟩] (by rfl) (rowT_one ((T9.newAt (w'.alloc (objT 1 0 g f 0 0 0 0 0)) (w'.heap.size + 1) (by simp) 1 0 g f 0 0 0 0 0).later (Below.refl _ _).drew) rfl HK.out) (k + 1) (by rfl) (S.ps ++ [⟨1, 0, g, f, 0, 0, 0, 0, 0⟩]) (by rfl) (by omega) (by simp [World.drew]; omega) ?_; intro a3 c3 W3 own3 hb3; have HF3 := (HF.out.later (below2 w' (objT 1 0 g f 0 0 0 0 0) (objT 1 0 g f 0 0 0 0 0)).drew).lift hb3 (by omega); have HF3 : Hid (RR W3 N S.kn ad k cp) := HF3; obtain ⟨t0, t1, t2, t3, tf, tz⟩ := HF3.out))
    all_goals
      go_wp2
      go_ret
      rw [HT.out]
      exact ⟨rfl, a3, k + 1, c3, RR.set3 HF3.out _ _ _, own3.set (by omega), (((below2 w' (objT 1 0 g f 0 0 0 0 0) (objT 1 0 g f 0 0 0 0 0)).drew.mono (Nat.le_of_lt hz)).trans (hb3.mono (by omega))).setCell (Nat.le_refl _) _⟩
set_option maxHeartbeats 2000000 in
theorem short_rout (N : Nat) (S : St) (ad : Option Addr) (k cp : Nat) (b off n cap : Nat) (l : List Int) (w : World) (hF : RR w N S.kn ad k cp) (hO : OwnT w (N + 1) (.slice ad k cp) k S.ps) (hr : Row8 w (some ⟨b, off, none⟩) n l) (hn : n ≤ 255) :
    Calls Try.prog 52 #[.pointer (some ⟨N, 0, none⟩), .int .u8 6, .slice (some ⟨b, off, none⟩) n cap] w (Took w N (tk S 6 l)) := by
  have HR : Hid (Row8 w (some ⟨b, off, none⟩) n l) := hr
  have HL : Hid (l.length = n) := hr.1
  have HBy : Hid (Bytes l) := hr.2.2.1
  have HF : Hid (RR w N S.kn ad k cp) := hF
  have HO : Hid (OwnT w (N + 1) (.slice ad k cp) k S.ps) := hO
  have fail_of : routB l = false → tk S 6 l = none := fun h => by
    unfold tk; rw [if_neg (by decide), if_neg (by decide), if_pos rfl, h, if_neg (by simp)]
  by_cases h2 : n < 2
  · have HT : Hid (tk S 6 l = none) := fail_of (by unfold routB; rw [HL.out]; simp; omega)
    clear hr fail_of hF hO
    go_enter Try.func52, Try.ntmps52
    go_wp2
    go_ret
    rw [HT.out]
    exact ⟨rfl, Below.refl _ _⟩
  obtain ⟨b_, off_, he_, hcell⟩ := hr.at (by omega)
  simp only [Option.some.injEq, Addr.mk.injEq, and_true] at he_
  obtain ⟨rfl, rfl⟩ := he_
  have d0 := hcell 0 (by omega)
  have d1 := hcell 1 (by omega)
  rw [Nat.add_zero] at d0
  have E0 : Hid (at8 l 0 = l[0]?.getD 0) := rfl
  have E1 : Hid (at8 l 1 = l[1]?.getD 0) := rfl
  generalize l[0]?.getD 0 = x at d0 E0
  generalize l[1]?.getD 0 = y at d1 E1
  have j0 : (0 : Int) < (n : Int) := by omega
  have j1 : (1 : Int) < (n : Int) := by omega
  by_cases hx : x = 0
  case neg =>
    have HT : Hid (tk S 6 l = none) := fail_of (by unfold routB; rw [two_zero HBy.out (.inl (by rw [E0.out]; simpa using hx))]; simp)
    have ex : (x != 0) = true := by simpa using hx
    clear hr fail_of hF hO hx hcell
    go_enter Try.func52, Try.ntmps52
    go_wp2
    go_ret
    rw [HT.out]
    exact ⟨rfl, Below.refl _ _⟩
  subst hx
  by_cases hy : y = 0
  case neg =>
    have HT : Hid (tk S 6 l = none) := fail_of (by unfold routB; rw [two_zero HBy.out (.inr (by rw [E1.out]; simpa using hy))]; simp)
    have ey : (y != 0) = true := by simpa using hy
    clear hr fail_of hF hO hy hcell
    go_enter Try.func52, Try.ntmps52
    go_wp2
    go_ret
    rw [HT.out]
    exact ⟨rfl, Below.refl _ _⟩
  subst hy
  have G0 : Hid (getV l 0 2 = 0) := two_is E0.out E1.out
  by_cases h6 : n = 10
  case neg =>
    have HT : Hid (tk S 6 l = none) := fail_of (by unfold routB; rw [HL.out]; simp [h6])
    have e6 : ((n : Int) != 10) = true := by rw [bne_iff_ne]; omega
    clear hr fail_of hF hO h6 hcell
    go_enter Try.func52, Try.ntmps52
    go_wp2
    go_ret
    rw [HT.out]
    exact ⟨rfl, Below.refl _ _⟩
  subst h6
  have HP : Hid (routB l = true) := by unfold Hid routB; rw [HL.out, G0.out]; rfl
  obtain ⟨f, hf⟩ : ∃ f, v8 l 2 = f := ⟨_, rfl⟩
  have HFv : Hid (v8 l 2 = f) := hf
  have HT : Hid (tk S 6 l = some ⟨⟨true, f, S.kn.a⟩, S.ps⟩) := by unfold Hid tk; rw [if_neg (by decide), if_neg (by decide), if_pos rfl, HP.out, if_pos rfl, hf]
  obtain ⟨c0, c1, c2, c3, cf, cz⟩ := hF
  clear hr fail_of hO hcell hf
  go_enter Try.func52, Try.ntmps52
  go_wp2_with (go_at_call 66; refine (num8_any _ 10 _ l _ HR.out (by omega) 2 (by omega) HFv.out).mono ?_; rintro e w' ⟨rfl, rfl⟩)
  go_ret
  rw [HT.out]
  exact ⟨rfl, ad, k, cp, HF.out.setR f, (HO.out.set (by omega)).set (by omega), ((Below.refl N w').setCell (p := ⟨N, 0, none⟩) (Nat.le_refl _) _).setCell (p := ⟨N, 1, none⟩) (Nat.le_refl _) _⟩
end Go.Proofs.Ytakikkigkmcffaa
