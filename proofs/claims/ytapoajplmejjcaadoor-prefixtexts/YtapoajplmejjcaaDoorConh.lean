/- The contract of awake: the chapter's examples hold. -/
import Derived.Test.YtapoajplmejjcaaDoorCone
import Derived.Test.YtapoajplmejjcaaDoorCong
namespace Go.Proofs.YtapoajplmejjcaaDoor
open Go.RowKit

theorem up_bytes : ∀ k, k < 4 → 0 ≤ byteI 167772160 k ∧ byteI 167772160 k < 100 := by decide
theorem up_may : andM 167838211 8 = 167772160 := by decide
theorem up_covers : coversB 167772160 8 167837696 16 = true := by decide
theorem up_parse : parA [49, 48, 46, 48, 46, 48, 46, 49, 47, 56] = 0 ∧ parL [49, 48, 46, 48, 46, 48, 46, 49, 47, 56] = 0 ∧ parE [49, 48, 46, 48, 46, 48, 46, 49, 47, 56] = 2 := by decide
theorem itoa_one {i : Nat} (h : i < 10) : Lib.itoa (i : Int) = [UInt8.ofNat (48 + i)] := by
  unfold Lib.itoa
  rw [if_neg (by omega)]
  exact Lib.decDigits_one h
theorem itoa_two {i : Nat} (h1 : ¬ i < 10) (h2 : i < 100) : Lib.itoa (i : Int) = [UInt8.ofNat (48 + i / 10), UInt8.ofNat (48 + i % 10)] := by
  unfold Lib.itoa
  rw [if_neg (by omega)]
  exact Lib.decDigits_two h1 h2
theorem up_show : showL 167772160 8 = [49, 48, 46, 48, 46, 48, 46, 48, 47, 56] := by
  have b0 : byteI 167772160 0 = ((10 : Nat) : Int) := by decide
  have b1 : byteI 167772160 1 = ((0 : Nat) : Int) := by decide
  have b2 : byteI 167772160 2 = ((0 : Nat) : Int) := by decide
  have b3 : byteI 167772160 3 = ((0 : Nat) : Int) := by decide
  have b4 : (8 : Int) = ((8 : Nat) : Int) := rfl
  simp only [showL, showP]
  rw [b0, b1, b2, b3, b4, itoa_two (by decide) (by decide), itoa_one (by decide), itoa_one (by decide)]
  rfl

theorem awake_any (w : World) :
    Calls Tryd.prog 11 #[] w fun e w' => e = .returned (.bool true) ∧ Below w.heap.size w w' := by
  have HS : Hid (∀ W, Calls Tryd.prog 28 #[.agg #[.int .u32 167772160, .int .i64 8]] W fun e w' => e = .returned (.string ⟨#[49, 48, 46, 48, 46, 48, 46, 48, 47, 56]⟩) ∧ Below W.heap.size W w') := fun W => by
    have h := show_any 167772160 8 W (by decide) (by decide) (by decide) (by decide) (fun k hk => it_small _ _ (up_bytes k hk).1 (up_bytes k hk).2) (it_small _ _ (by decide) (by decide))
    rw [up_show] at h
    exact h
  have HP : Hid (∀ W, Calls Tryd.prog 26 #[.string ⟨#[49, 48, 46, 48, 46, 48, 46, 49, 47, 56]⟩] W fun e w' => e = .returned (.tuple #[.agg #[.int .u32 0, .int .i64 0], .int .i64 2]) ∧ Below W.heap.size W w') := fun W => by
    have h := parse_any ⟨#[49, 48, 46, 48, 46, 48, 46, 49, 47, 56]⟩ W (by decide)
    simp only [up_parse.1, up_parse.2.1, up_parse.2.2] at h
    exact h
  have HM : Hid (∀ W, Calls Tryd.prog 12 #[.int .u32 167838211, .int .i64 8] W fun e w' => e = .returned (.tuple #[.agg #[.int .u32 167772160, .int .i64 8], .int .i64 0]) ∧ w' = W.alloc (.cells #[.int .u32 167772160, .int .i64 8] 24)) := fun W => by
    have h := make_ok 167838211 8 W (by decide) (by decide) (by decide) (by decide)
    rw [show (8 : Int).toNat = 8 from rfl, up_may] at h
    exact h
  go_enter Tryd.func11, Tryd.ntmps11
  go_wp2_with (first
    | (go_at_call 12; refine (HM.out _).mono ?_; rintro e w' ⟨rfl, rfl⟩)
    | (go_at_call 26; refine (HP.out _).mono ?_; rintro e w2 ⟨rfl, hb⟩
       have hz : w.heap.size + 1 < w2.heap.size := (by have := hb.size; simp at this; omega)
       have cA : w2.cell? ⟨w.heap.size + 1, 0, none⟩ = some (.int .u32 167772160) := (by rw [hb.cell (by simp)]; simp [go_sem])
       have cB : w2.cell? ⟨w.heap.size + 1, 1, none⟩ = some (.int .i64 8) := (by rw [hb.cell (by simp)]; simp [go_sem]))
    | (go_at_call 28; refine (HS.out _).mono ?_; rintro e w3 ⟨rfl, hb2⟩
       have cA3 : w3.cell? ⟨w.heap.size + 1, 0, none⟩ = some (.int .u32 167772160) := ((hb2.cell (by show w.heap.size + 1 < _; simp; omega)).trans (((below1 w2 _).cell hz).trans cA))
       have cB3 : w3.cell? ⟨w.heap.size + 1, 1, none⟩ = some (.int .i64 8) := ((hb2.cell (by show w.heap.size + 1 < _; simp; omega)).trans (((below1 w2 _).cell hz).trans cB)))
    | (go_at_call 22; refine (covers_any _ _ _ _ _ (by decide) (by decide) (by decide) (by decide) up_covers).mono ?_; rintro e w4 ⟨rfl, hb3⟩))
  go_ret
  refine ⟨rfl, ?_⟩
  have k1 := Below.out2 hb
  have k2 := (k1.alloc k1.size _).trans (hb2.mono (by simp; have := k1.size; omega))
  exact k2.trans (hb3.mono k2.size)
end Go.Proofs.YtapoajplmejjcaaDoor
