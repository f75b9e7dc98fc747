/- The contract of the document's read. -/
import Derived.Test.YtabpillcpnnidaaConC
namespace Go.Proofs.Ytabpillcpnnidaa
open Go.RowKit

theorem getV2_is {l : List Int} (hB : Bytes l) : (getV l 0 2 == 2) = ((l[0]?.getD 0 == 0) && (l[1]?.getD 0 == 2)) := by
  have h0 := hB.at 0
  have h1 := hB.at 1
  simp only [getV, Nat.add_zero, Nat.zero_add, Int.zero_mul, Int.zero_add]
  rw [Bool.eq_iff_iff]
  simp only [beq_iff_eq, Bool.and_eq_true]
  omega
theorem decB_is {l : List Int} (hB : Bytes l) : decB l = (bitsB (getV l 8 4) && mayE (decE l) && (l[0]?.getD 0 == 0) && (l[1]?.getD 0 == 2)) := by
  unfold decB
  rw [getV2_is hB]
  cases bitsB (getV l 8 4) <;> cases mayE (decE l) <;> cases (l[0]?.getD 0 == 0) <;> cases (l[1]?.getD 0 == 2) <;> rfl

set_option maxHeartbeats 8000000 in
theorem refRead_any (a : Option Addr) (cap : Nat) (l : List Int) (w : World) (hr : Row8 w a 20 l) {v : Bool} (hv : decB l = v) :
    Calls Try.prog 27 #[.slice a 20 cap] w fun e w' => e = .returned (.tuple #[decV l, .bool v]) ∧ Below w.heap.size w w' := by
  subst hv
  have HR : Hid (Row8 w a 20 l) := hr
  have hB := hr.2.2.1
  have HD : Hid (_) := decB_is hB
  have HV : Hid (decV l = .agg #[.int .u32 (getV l 4 4), .int .i64 (bitsI (getV l 8 4)), .int .u16 (getV l 2 2), .int .u32 (getV l 12 4), .int .i64 (getV l 16 4)]) := rfl
  obtain ⟨x4, hx4⟩ : ∃ x, getV l 4 4 = x := ⟨_, rfl⟩
  obtain ⟨x8, hx8⟩ : ∃ x, getV l 8 4 = x := ⟨_, rfl⟩
  obtain ⟨x2, hx2⟩ : ∃ x, getV l 2 2 = x := ⟨_, rfl⟩
  obtain ⟨x12, hx12⟩ : ∃ x, getV l 12 4 = x := ⟨_, rfl⟩
  obtain ⟨x16, hx16⟩ : ∃ x, getV l 16 4 = x := ⟨_, rfl⟩
  have b4' := getV_u hB 4
  have b16 := getV_u hB 16
  have b22 := getV_h hB 2
  rw [hx4] at b4'
  rw [hx16] at b16
  rw [hx2] at b22
  obtain ⟨b40, b41⟩ := b4'
  obtain ⟨b160, b161⟩ := b16
  obtain ⟨b20, b21⟩ := b22
  have HX : Hid (getV l 4 4 = x4 ∧ getV l 8 4 = x8 ∧ getV l 2 2 = x2 ∧ getV l 12 4 = x12 ∧ getV l 16 4 = x16) := ⟨hx4, hx8, hx2, hx12, hx16⟩
  rw [hx4, hx8, hx2, hx12, hx16] at HV
  obtain ⟨y, hy⟩ : ∃ y, bitsI x8 = y := ⟨_, rfl⟩
  have hyb := bitsI_bd x8
  rw [hy] at hyb HV
  have hy0 : -9223372036854775808 ≤ y := by omega
  have hy1 : y ≤ 9223372036854775807 := by omega
  have HE : Hid (decE l = ⟨x4, y, x2, x12, x16⟩) := by unfold Hid decE; rw [hx4, hx8, hx2, hx12, hx16, hy]
  have b42 : x4 < 4294967296 := by omega
  obtain ⟨b, off, rfl, hcell⟩ := hr.at (by omega)
  have d0 := hcell 0 (by omega)
  have d1 := hcell 1 (by omega)
  rw [Nat.add_zero] at d0
  rw [hx8, HE.out] at HD
  generalize l[0]?.getD 0 = c0 at d0 HD
  generalize l[1]?.getD 0 = c1 at d1 HD
  obtain ⟨mb, hmb⟩ : ∃ mb, mayE ⟨x4, y, x2, x12, x16⟩ = mb := ⟨_, rfl⟩
  rw [hmb] at HD
  have HY : Hid (bitsI x8 = y) := hy
  clear hr hB hyb hx2 hx4 hx8 hx12 hx16 hcell hy
  cases h2 : bitsB x8
  · rw [h2] at HD
    go_enter Try.func27, Try.ntmps27
    go_wp2_with (first
      | (go_at_call_of 37 (Value.int IntKind.i64 8); refine (refGet_yes _ 20 _ l 8 4 _ (HR.out.later (below1 _ _)) (by omega) (by omega) (by omega)).mono ?_; rintro e w' ⟨rfl, rfl⟩; rw [HX.out.2.1])
      | (go_at_call_of 37 (Value.int IntKind.i64 12); refine (refGet_yes _ 20 _ l 12 4 _ (HR.out.later (below1 _ _)) (by omega) (by omega) (by omega)).mono ?_; rintro e w' ⟨rfl, rfl⟩; rw [HX.out.2.2.2.1])
      | (go_at_call_of 37 (Value.int IntKind.i64 16); refine (refGet_yes _ 20 _ l 16 4 _ (HR.out.later (below1 _ _)) (by omega) (by omega) (by omega)).mono ?_; rintro e w' ⟨rfl, rfl⟩; rw [HX.out.2.2.2.2])
      | (go_at_call_of 37 (Value.int IntKind.i64 2); refine (refGet_yes _ 20 _ l 2 2 _ (HR.out.later (below1 _ _)) (by omega) (by omega) (by omega)).mono ?_; rintro e w' ⟨rfl, rfl⟩; rw [HX.out.2.2.1])
      | (go_at_call_of 37 (Value.int IntKind.i64 4); refine (refGet_yes _ 20 _ l 4 4 _ (HR.out.later (below1 _ _)) (by omega) (by omega) (by omega)).mono ?_; rintro e w' ⟨rfl, rfl⟩; rw [HX.out.1])
      | (go_at_call 38; refine (refBits_any _ _).mono ?_; rintro e w' ⟨rfl, rfl⟩; rw [HY.out])
      | (go_at_call 21; refine (refEntry_any _ _ _ _ _ _ b40 b42 hy0 hy1 hmb).mono ?_; rintro e W1 ⟨rfl, hb⟩; obtain ⟨hc, hf⟩ := bcell hb))
    have hB1 := Below.out2 hb
    have e0 := cell_later hB1 d0
    have e1 := cell_later hB1 d1
    have z0 : W1.cell? ⟨w.heap.size, 0, none⟩ = some (.int .u32 0) := by rw [hc _ _ (by simp <;> omega)]; simp [go_sem]
    have z1 : W1.cell? ⟨w.heap.size, 1, none⟩ = some (.int .i64 0) := by rw [hc _ _ (by simp <;> omega)]; simp [go_sem]
    have z2 : W1.cell? ⟨w.heap.size, 2, none⟩ = some (.int .u16 0) := by rw [hc _ _ (by simp <;> omega)]; simp [go_sem]
    have z3 : W1.cell? ⟨w.heap.size, 3, none⟩ = some (.int .u32 0) := by rw [hc _ _ (by simp <;> omega)]; simp [go_sem]
    have z4 : W1.cell? ⟨w.heap.size, 4, none⟩ = some (.int .i64 0) := by rw [hc _ _ (by simp <;> omega)]; simp [go_sem]
    have y0 : W1.cell? ⟨w.heap.size + 1, 0, none⟩ = some (.int .u32 x4) := by rw [hc _ _ (by simp <;> omega)]; simp [go_sem]
    have y1 : W1.cell? ⟨w.heap.size + 1, 1, none⟩ = some (.int .i64 y) := by rw [hc _ _ (by simp <;> omega)]; simp [go_sem]
    have y2 : W1.cell? ⟨w.heap.size + 1, 2, none⟩ = some (.int .u16 x2) := by rw [hc _ _ (by simp <;> omega)]; simp [go_sem]
    have y3 : W1.cell? ⟨w.heap.size + 1, 3, none⟩ = some (.int .u32 x12) := by rw [hc _ _ (by simp <;> omega)]; simp [go_sem]
    have y4 : W1.cell? ⟨w.heap.size + 1, 4, none⟩ = some (.int .i64 x16) := by rw [hc _ _ (by simp <;> omega)]; simp [go_sem]
    have hff : ∀ o, W1.frozen? ⟨w.heap.size, o, none⟩ = false := fun o => by rw [hf _ _ (by simp <;> omega)]; simp [go_sem]
    have nb : b < w.heap.size := World.block_lt_of_cell? w ⟨b, off, none⟩ d0
    have nb' : ¬ b = w.heap.size := by omega
    have nb2 : ¬ w.heap.size = b := by omega
    clear hc hf d0 d1
    go_region
    all_goals
      go_wp2
      refine bodyPost_ret (v := .tuple #[.agg #[.int .u32 x4, .int .i64 y, .int .u16 x2, .int .u32 x12, .int .i64 x16], .bool false]) (by simp [results, Try.results27, go_sem, z0, z1, z2, z3, z4]) rfl ⟨by rw [HD.out, HV.out]; rfl, ?_⟩
      first
        | exact (((((hB1.drew.setCell (Nat.le_refl _) _).setCell (Nat.le_refl _) _).setCell (Nat.le_refl _) _).setCell (Nat.le_refl _) _).setCell (Nat.le_refl _) _)
        | exact (((((hB1.setCell (Nat.le_refl _) _).setCell (Nat.le_refl _) _).setCell (Nat.le_refl _) _).setCell (Nat.le_refl _) _).setCell (Nat.le_refl _) _).drew
  · rw [h2] at HD
    go_enter Try.func27, Try.ntmps27
    go_wp2_with (first
      | (go_at_call_of 37 (Value.int IntKind.i64 8); refine (refGet_yes _ 20 _ l 8 4 _ (HR.out.later (below1 _ _)) (by omega) (by omega) (by omega)).mono ?_; rintro e w' ⟨rfl, rfl⟩; rw [HX.out.2.1])
      | (go_at_call_of 37 (Value.int IntKind.i64 12); refine (refGet_yes _ 20 _ l 12 4 _ (HR.out.later (below1 _ _)) (by omega) (by omega) (by omega)).mono ?_; rintro e w' ⟨rfl, rfl⟩; rw [HX.out.2.2.2.1])
      | (go_at_call_of 37 (Value.int IntKind.i64 16); refine (refGet_yes _ 20 _ l 16 4 _ (HR.out.later (below1 _ _)) (by omega) (by omega) (by omega)).mono ?_; rintro e w' ⟨rfl, rfl⟩; rw [HX.out.2.2.2.2])
      | (go_at_call_of 37 (Value.int IntKind.i64 2); refine (refGet_yes _ 20 _ l 2 2 _ (HR.out.later (below1 _ _)) (by omega) (by omega) (by omega)).mono ?_; rintro e w' ⟨rfl, rfl⟩; rw [HX.out.2.2.1])
      | (go_at_call_of 37 (Value.int IntKind.i64 4); refine (refGet_yes _ 20 _ l 4 4 _ (HR.out.later (below1 _ _)) (by omega) (by omega) (by omega)).mono ?_; rintro e w' ⟨rfl, rfl⟩; rw [HX.out.1])
      | (go_at_call 38; refine (refBits_any _ _).mono ?_; rintro e w' ⟨rfl, rfl⟩; rw [HY.out])
      | (go_at_call 21; refine (refEntry_any _ _ _ _ _ _ b40 b42 hy0 hy1 hmb).mono ?_; rintro e W1 ⟨rfl, hb⟩; obtain ⟨hc, hf⟩ := bcell hb))
    have hB1 := Below.out2 hb
    have e0 := cell_later hB1 d0
    have e1 := cell_later hB1 d1
    have z0 : W1.cell? ⟨w.heap.size, 0, none⟩ = some (.int .u32 0) := by rw [hc _ _ (by simp <;> omega)]; simp [go_sem]
    have z1 : W1.cell? ⟨w.heap.size, 1, none⟩ = some (.int .i64 0) := by rw [hc _ _ (by simp <;> omega)]; simp [go_sem]
    have z2 : W1.cell? ⟨w.heap.size, 2, none⟩ = some (.int .u16 0) := by rw [hc _ _ (by simp <;> omega)]; simp [go_sem]
    have z3 : W1.cell? ⟨w.heap.size, 3, none⟩ = some (.int .u32 0) := by rw [hc _ _ (by simp <;> omega)]; simp [go_sem]
    have z4 : W1.cell? ⟨w.heap.size, 4, none⟩ = some (.int .i64 0) := by rw [hc _ _ (by simp <;> omega)]; simp [go_sem]
    have y0 : W1.cell? ⟨w.heap.size + 1, 0, none⟩ = some (.int .u32 x4) := by rw [hc _ _ (by simp <;> omega)]; simp [go_sem]
    have y1 : W1.cell? ⟨w.heap.size + 1, 1, none⟩ = some (.int .i64 y) := by rw [hc _ _ (by simp <;> omega)]; simp [go_sem]
    have y2 : W1.cell? ⟨w.heap.size + 1, 2, none⟩ = some (.int .u16 x2) := by rw [hc _ _ (by simp <;> omega)]; simp [go_sem]
    have y3 : W1.cell? ⟨w.heap.size + 1, 3, none⟩ = some (.int .u32 x12) := by rw [hc _ _ (by simp <;> omega)]; simp [go_sem]
    have y4 : W1.cell? ⟨w.heap.size + 1, 4, none⟩ = some (.int .i64 x16) := by rw [hc _ _ (by simp <;> omega)]; simp [go_sem]
    have hff : ∀ o, W1.frozen? ⟨w.heap.size, o, none⟩ = false := fun o => by rw [hf _ _ (by simp <;> omega)]; simp [go_sem]
    have nb : b < w.heap.size := World.block_lt_of_cell? w ⟨b, off, none⟩ d0
    have nb' : ¬ b = w.heap.size := by omega
    have nb2 : ¬ w.heap.size = b := by omega
    clear hc hf d0 d1
    cases mb
    · go_region
      all_goals
        go_wp2
        refine bodyPost_ret (v := .tuple #[.agg #[.int .u32 x4, .int .i64 y, .int .u16 x2, .int .u32 x12, .int .i64 x16], .bool false]) (by simp [results, Try.results27, go_sem, z0, z1, z2, z3, z4]) rfl ⟨by rw [HD.out, HV.out]; rfl, ?_⟩
        first
          | exact (((((hB1.drew.setCell (Nat.le_refl _) _).setCell (Nat.le_refl _) _).setCell (Nat.le_refl _) _).setCell (Nat.le_refl _) _).setCell (Nat.le_refl _) _)
          | exact (((((hB1.setCell (Nat.le_refl _) _).setCell (Nat.le_refl _) _).setCell (Nat.le_refl _) _).setCell (Nat.le_refl _) _).setCell (Nat.le_refl _) _).drew
    · cases k0 : (c0 == 0)
      · rw [k0] at HD
        go_region
        all_goals
          go_wp2
          refine bodyPost_ret (v := .tuple #[.agg #[.int .u32 x4, .int .i64 y, .int .u16 x2, .int .u32 x12, .int .i64 x16], .bool false]) (by simp [results, Try.results27, go_sem, z0, z1, z2, z3, z4]) rfl ⟨by rw [HD.out, HV.out]; rfl, ?_⟩
          first
            | exact (((((hB1.drew.setCell (Nat.le_refl _) _).setCell (Nat.le_refl _) _).setCell (Nat.le_refl _) _).setCell (Nat.le_refl _) _).setCell (Nat.le_refl _) _)
            | exact (((((hB1.setCell (Nat.le_refl _) _).setCell (Nat.le_refl _) _).setCell (Nat.le_refl _) _).setCell (Nat.le_refl _) _).setCell (Nat.le_refl _) _).drew
      · rw [k0] at HD
        cases k1 : (c1 == 2)
        · rw [k1] at HD
          go_region_held3 (fun w' => w'.cell? ⟨w.heap.size + 1, 0, none⟩ = some (.int .u32 x4) ∧ w'.cell? ⟨w.heap.size + 1, 1, none⟩ = some (.int .i64 y) ∧ w'.cell? ⟨w.heap.size + 1, 2, none⟩ = some (.int .u16 x2) ∧ w'.cell? ⟨w.heap.size + 1, 3, none⟩ = some (.int .u32 x12) ∧ w'.cell? ⟨w.heap.size + 1, 4, none⟩ = some (.int .i64 x16) ∧ w'.cell? ⟨b, off, none⟩ = some (.int .u8 c0) ∧ w'.cell? ⟨b, off + 1, none⟩ = some (.int .u8 c1)) (go_keep) (fail)
          all_goals
            go_wp2
            refine bodyPost_ret (v := .tuple #[.agg #[.int .u32 x4, .int .i64 y, .int .u16 x2, .int .u32 x12, .int .i64 x16], .bool false]) (by simp [results, Try.results27, go_sem, z0, z1, z2, z3, z4]) rfl ⟨by rw [HD.out, HV.out]; rfl, ?_⟩
            first
              | exact (((((hB1.drew.setCell (Nat.le_refl _) _).setCell (Nat.le_refl _) _).setCell (Nat.le_refl _) _).setCell (Nat.le_refl _) _).setCell (Nat.le_refl _) _)
              | exact (((((hB1.setCell (Nat.le_refl _) _).setCell (Nat.le_refl _) _).setCell (Nat.le_refl _) _).setCell (Nat.le_refl _) _).setCell (Nat.le_refl _) _).drew
        · rw [k1] at HD
          go_region_held3 (fun w' => w'.cell? ⟨w.heap.size + 1, 0, none⟩ = some (.int .u32 x4) ∧ w'.cell? ⟨w.heap.size + 1, 1, none⟩ = some (.int .i64 y) ∧ w'.cell? ⟨w.heap.size + 1, 2, none⟩ = some (.int .u16 x2) ∧ w'.cell? ⟨w.heap.size + 1, 3, none⟩ = some (.int .u32 x12) ∧ w'.cell? ⟨w.heap.size + 1, 4, none⟩ = some (.int .i64 x16) ∧ w'.cell? ⟨b, off, none⟩ = some (.int .u8 c0) ∧ w'.cell? ⟨b, off + 1, none⟩ = some (.int .u8 c1)) (go_keep) (fail)
          all_goals
            go_wp2
            refine bodyPost_ret (v := .tuple #[.agg #[.int .u32 x4, .int .i64 y, .int .u16 x2, .int .u32 x12, .int .i64 x16], .bool true]) (by simp [results, Try.results27, go_sem, z0, z1, z2, z3, z4]) rfl ⟨by rw [HD.out, HV.out]; rfl, ?_⟩
            first
              | exact (((((hB1.drew.setCell (Nat.le_refl _) _).setCell (Nat.le_refl _) _).setCell (Nat.le_refl _) _).setCell (Nat.le_refl _) _).setCell (Nat.le_refl _) _)
              | exact (((((hB1.setCell (Nat.le_refl _) _).setCell (Nat.le_refl _) _).setCell (Nat.le_refl _) _).setCell (Nat.le_refl _) _).setCell (Nat.le_refl _) _).drew
end Go.Proofs.Ytabpillcpnnidaa
