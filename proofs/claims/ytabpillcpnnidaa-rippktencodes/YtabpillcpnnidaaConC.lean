/- The contract of decodeEntry. -/
import Derived.Test.YtabpillcpnnidaaConB
namespace Go.Proofs.Ytabpillcpnnidaa
open Go.RowKit

theorem decB_1 {l : List Int} (h : (getV l 0 2 == 2) = false) : decB l = false := by unfold decB; rw [h]; rfl
theorem decB_2 {l : List Int} (h : bitsB (getV l 8 4) = false) : decB l = false := by unfold decB; rw [h]; simp
theorem decB_3 {l : List Int} (h1 : (getV l 0 2 == 2) = true) (h2 : bitsB (getV l 8 4) = true) : decB l = mayE (decE l) := by unfold decB; rw [h1, h2]; rfl
def decV (l : List Int) : Value := .agg #[.int .u32 (getV l 4 4), .int .i64 (bitsI (getV l 8 4)), .int .u16 (getV l 2 2), .int .u32 (getV l 12 4), .int .i64 (getV l 16 4)]

set_option maxHeartbeats 1000000 in
theorem decodeEntry_any (a : Option Addr) (cap : Nat) (l : List Int) (w : World) (hr : Row8 w a 20 l) {v : Bool} (hv : decB l = v) :
    Calls Try.prog 26 #[.slice a 20 cap] w fun e w' => e = .returned (.tuple #[decV l, .bool v]) ∧ Below w.heap.size w w' := by
  subst hv
  have HR : Hid (Row8 w a 20 l) := hr
  have hB := hr.2.2.1
  have HV : Hid (decV l = .agg #[.int .u32 (getV l 4 4), .int .i64 (bitsI (getV l 8 4)), .int .u16 (getV l 2 2), .int .u32 (getV l 12 4), .int .i64 (getV l 16 4)]) := rfl
  obtain ⟨x4, hx4⟩ : ∃ x, getV l 4 4 = x := ⟨_, rfl⟩
  obtain ⟨x8, hx8⟩ : ∃ x, getV l 8 4 = x := ⟨_, rfl⟩
  obtain ⟨x2, hx2⟩ : ∃ x, getV l 2 2 = x := ⟨_, rfl⟩
  obtain ⟨x0, hx0⟩ : ∃ x, getV l 0 2 = x := ⟨_, rfl⟩
  obtain ⟨x12, hx12⟩ : ∃ x, getV l 12 4 = x := ⟨_, rfl⟩
  obtain ⟨x16, hx16⟩ : ∃ x, getV l 16 4 = x := ⟨_, rfl⟩
  have b4' := getV_u hB 4
  have b16 := getV_u hB 16
  rw [hx4] at b4'
  rw [hx16] at b16
  obtain ⟨b40, b41⟩ := b4'
  obtain ⟨b160, b161⟩ := b16
  have HX : Hid (getV l 4 4 = x4 ∧ getV l 8 4 = x8 ∧ getV l 2 2 = x2 ∧ getV l 0 2 = x0 ∧ getV l 12 4 = x12 ∧ getV l 16 4 = x16) := ⟨hx4, hx8, hx2, hx0, hx12, hx16⟩
  rw [hx4, hx8, hx2, hx12, hx16] at HV
  have b42 : x4 < 4294967296 := by omega
  clear hr hB
  clear hx0 hx2 hx4 hx8 hx12 hx16
  go_enter Try.func26, Try.ntmps26
  go_wp2_with (first
    | (go_at_call_of 34 (Value.int IntKind.i64 0); refine (get16_yes _ 20 _ l 0 _ (HR.out.later (below1 _ _)) (by omega) (by omega)).mono ?_; rintro e w' ⟨rfl, rfl⟩; rw [HX.out.2.2.2.1])
    | (go_at_call_of 34 (Value.int IntKind.i64 2); refine (get16_yes _ 20 _ l 2 _ (HR.out.later (below1 _ _)) (by omega) (by omega)).mono ?_; rintro e w' ⟨rfl, rfl⟩; rw [HX.out.2.2.1])
    | (go_at_call_of 35 (Value.int IntKind.i64 4); refine (get32_yes _ 20 _ l 4 _ (HR.out.later (below1 _ _)) (by omega) (by omega)).mono ?_; rintro e w' ⟨rfl, rfl⟩; rw [HX.out.1])
    | (go_at_call_of 35 (Value.int IntKind.i64 8); refine (get32_yes _ 20 _ l 8 _ (HR.out.later (below1 _ _)) (by omega) (by omega)).mono ?_; rintro e w' ⟨rfl, rfl⟩; rw [HX.out.2.1])
    | (go_at_call_of 35 (Value.int IntKind.i64 12); refine (get32_yes _ 20 _ l 12 _ (HR.out.later (below1 _ _)) (by omega) (by omega)).mono ?_; rintro e w' ⟨rfl, rfl⟩; rw [HX.out.2.2.2.2.1])
    | (go_at_call_of 35 (Value.int IntKind.i64 16); refine (get32_yes _ 20 _ l 16 _ (HR.out.later (below1 _ _)) (by omega) (by omega)).mono ?_; rintro e w' ⟨rfl, rfl⟩; rw [HX.out.2.2.2.2.2])
    | (go_at_call 36; refine (bits_any _ _).mono ?_; rintro e w' ⟨rfl, rfl⟩))
  generalize hy : bitsI x8 = y at HV ⊢
  have HE : Hid (decE l = ⟨x4, y, x2, x12, x16⟩) := by unfold Hid decE; rw [HX.out.1, HX.out.2.1, HX.out.2.2.1, HX.out.2.2.2.2.1, HX.out.2.2.2.2.2, hy]
  cases h1 : (x0 == 2)
  · have HF : Hid (decB l = false) := decB_1 (by rw [HX.out.2.2.2.1]; exact h1)
    go_region
    go_wp2
    refine bodyPost_ret (v := .tuple #[.agg #[.int .u32 x4, .int .i64 y, .int .u16 x2, .int .u32 x12, .int .i64 x16], .bool false]) (by simp [results, Try.results26, go_sem]) rfl ⟨by rw [HF.out, HV.out], ?_⟩
    exact (below2 _ _ _).drew
  · cases h2 : bitsB x8
    · have HF : Hid (decB l = false) := decB_2 (by rw [HX.out.2.1]; exact h2)
      go_region
      go_wp2
      refine bodyPost_ret (v := .tuple #[.agg #[.int .u32 x4, .int .i64 y, .int .u16 x2, .int .u32 x12, .int .i64 x16], .bool false]) (by simp [results, Try.results26, go_sem]) rfl ⟨by rw [HF.out, HV.out], ?_⟩
      exact (below2 _ _ _).drew
    · have HF : Hid (decB l = mayE ⟨x4, y, x2, x12, x16⟩) := by unfold Hid; rw [← HE.out]; exact decB_3 (by rw [HX.out.2.2.2.1]; exact h1) (by rw [HX.out.2.1]; exact h2)
      go_region_held3 (fun w' => w'.cell? ⟨w.heap.size + 1, 0, none⟩ = some (.int .u32 x4) ∧ w'.cell? ⟨w.heap.size + 1, 1, none⟩ = some (.int .i64 y) ∧ w'.cell? ⟨w.heap.size + 1, 2, none⟩ = some (.int .u16 x2) ∧ w'.cell? ⟨w.heap.size + 1, 3, none⟩ = some (.int .u32 x12) ∧ w'.cell? ⟨w.heap.size + 1, 4, none⟩ = some (.int .i64 x16)) (go_keep)
        ((go_at_call 29; refine (mayEntry_any _ _ _ _ _ _ b40 b42 rfl).mono ?_; rintro e W1 ⟨rfl, hb⟩; obtain ⟨hc, hf⟩ := bcell hb))
      all_goals
        go_wp2
        have z0 : W1.cell? ⟨w.heap.size, 0, none⟩ = some (.int .u32 0) := by rw [hc _ _ (by simp [World.drew] <;> omega)]; simp [go_sem]
        have z1 : W1.cell? ⟨w.heap.size, 1, none⟩ = some (.int .i64 0) := by rw [hc _ _ (by simp [World.drew] <;> omega)]; simp [go_sem]
        have z2 : W1.cell? ⟨w.heap.size, 2, none⟩ = some (.int .u16 0) := by rw [hc _ _ (by simp [World.drew] <;> omega)]; simp [go_sem]
        have z3 : W1.cell? ⟨w.heap.size, 3, none⟩ = some (.int .u32 0) := by rw [hc _ _ (by simp [World.drew] <;> omega)]; simp [go_sem]
        have z4 : W1.cell? ⟨w.heap.size, 4, none⟩ = some (.int .i64 0) := by rw [hc _ _ (by simp [World.drew] <;> omega)]; simp [go_sem]
        refine bodyPost_ret (v := .tuple #[.agg #[.int .u32 x4, .int .i64 y, .int .u16 x2, .int .u32 x12, .int .i64 x16], .bool (mayE ⟨x4, y, x2, x12, x16⟩)]) (by simp [results, Try.results26, go_sem, z0, z1, z2, z3, z4]) rfl ⟨by rw [HF.out, HV.out], ?_⟩
        exact (((((stp (below2 w _ _).drew hb).setCell (Nat.le_refl _) _).setCell (Nat.le_refl _) _).setCell (Nat.le_refl _) _).setCell (Nat.le_refl _) _).setCell (Nat.le_refl _) _
end Go.Proofs.Ytabpillcpnnidaa
