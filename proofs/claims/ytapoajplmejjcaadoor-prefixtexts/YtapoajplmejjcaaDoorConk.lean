/- The contract of the document's Show. -/
import Derived.Test.YtapoajplmejjcaaDoorConj
namespace Go.Proofs.YtapoajplmejjcaaDoor
open Go.RowKit

/-- The document's text behind k bytes. -/
def refT (a : Int) (k : Nat) : List UInt8 := if k = 4 then showP a 3 ++ Lib.itoa (byteI a 3) else showP a k
theorem refT_len (a : Int) (k : Nat) (h : k ≤ 4) : (refT a k).length ≤ 110 := by
  unfold refT
  have h3 := showP_len a 3
  have hk := showP_len a k
  have hi := itoa_len a 3
  split
  · rw [List.length_append]; omega
  · omega

set_option maxHeartbeats 1000000 in
theorem refShow_any (a l : Int) (w : World) (ha0 : 0 ≤ a) (ha1 : a < 4294967296) (hl0 : -1000000000 ≤ l) (hl1 : l ≤ 1000000000) :
    Calls Tryd.prog 29 #[.agg #[.int .u32 a, .int .i64 l]] w fun e w' => e = .returned (.string ⟨(showL a l).toArray⟩) ∧ Below w.heap.size w w' := by
  go_enter Tryd.func29, Tryd.ntmps29
  go_wp2
  go_loopw [3, 4] (fun t i w' => ∃ k : Nat, k ≤ 4 ∧ i = .int .i64 (24 - 8 * (k : Int)) ∧ t = .string ⟨(refT a k).toArray⟩ ∧ Below (w.heap.size + 1) (w.alloc (.cells #[.int .u32 a, .int .i64 l] 24)) w') (fun _ i _ => (intOf i + 8).toNat)
  case atStart => exact ⟨0, by omega, rfl, rfl, Below.refl _ _⟩
  case round =>
    obtain ⟨k, hk, rfl, rfl, hb⟩ := hrel
    have c0 : wr.cell? ⟨w.heap.size, 0, none⟩ = some (.int .u32 a) := by rw [hb.cell (by simp)]; simp [go_sem]
    have c1 : wr.cell? ⟨w.heap.size, 1, none⟩ = some (.int .i64 l) := by rw [hb.cell (by simp)]; simp [go_sem]
    have hsp := refT_len a k hk
    have hw : Below w.heap.size w wr := (below1 _ _).trans (hb.mono (by omega))
    have hz : w.heap.size + 1 ≤ wr.heap.size := by have := hb.size; simpa using this
    obtain ⟨T, HT, hT⟩ : ∃ T : ByteArray, Hid ((⟨(refT a k).toArray⟩ : ByteArray) = T) ∧ T.size ≤ 110 := ⟨_, rfl, by show (refT a k).toArray.size ≤ 110; simp; omega⟩
    rw [HT.out]
    have hc : k = 0 ∨ k = 1 ∨ k = 2 ∨ k = 3 ∨ k = 4 := by omega
    rcases hc with rfl | rfl | rfl | rfl | rfl
    · rw [show (24 - 8 * ((0 : Nat) : Int)) = 24 from rfl]
      obtain ⟨S, HS, hS⟩ : ∃ S : ByteArray, Hid ((⟨(Lib.itoa (byteI a 0)).toArray⟩ : ByteArray) = S) ∧ S.size ≤ 21 := ⟨_, rfl, by show (Lib.itoa (byteI a 0)).toArray.size ≤ 21; simp; exact itoa_len a 0⟩
      have hbd := byteI_bd a 0
      have hit := digits_any (byteI a 0) wr (by omega) (by omega)
      rw [HS.out, show byteI a 0 = a / 16777216 % 256 from by unfold byteI; simp] at hit
      clear hbd
      have n1 : ¬ 9223372036854775807 < T.size + S.size := by omega
      have n2 : ¬ 9223372036854775807 < T.size + S.size + 1 := by omega
      have HTS : Hid ((⟨(refT a 1).toArray⟩ : ByteArray) = T ++ S ++ ⟨#[46]⟩) := by
        unfold Hid
        rw [← HT.out, ← HS.out, show (⟨#[46]⟩ : ByteArray) = ⟨([46] : List UInt8).toArray⟩ from rfl, cat_list, cat_list, List.append_assoc]
        rfl
      go_wp2_with (go_at_call 33; refine hit.mono ?_; rintro e w2 ⟨rfl, hb2⟩)
      go_roundw
      case rel => exact ⟨1, by omega, rfl, by rw [HTS.out], hb.trans (hb2.mono hz)⟩
      case measure => simp [intOf]
    · rw [show (24 - 8 * ((1 : Nat) : Int)) = 16 from rfl]
      obtain ⟨S, HS, hS⟩ : ∃ S : ByteArray, Hid ((⟨(Lib.itoa (byteI a 1)).toArray⟩ : ByteArray) = S) ∧ S.size ≤ 21 := ⟨_, rfl, by show (Lib.itoa (byteI a 1)).toArray.size ≤ 21; simp; exact itoa_len a 1⟩
      have hbd := byteI_bd a 1
      have hit := digits_any (byteI a 1) wr (by omega) (by omega)
      rw [HS.out, show byteI a 1 = a / 65536 % 256 from by unfold byteI; simp] at hit
      clear hbd
      have n1 : ¬ 9223372036854775807 < T.size + S.size := by omega
      have n2 : ¬ 9223372036854775807 < T.size + S.size + 1 := by omega
      have HTS : Hid ((⟨(refT a 2).toArray⟩ : ByteArray) = T ++ S ++ ⟨#[46]⟩) := by
        unfold Hid
        rw [← HT.out, ← HS.out, show (⟨#[46]⟩ : ByteArray) = ⟨([46] : List UInt8).toArray⟩ from rfl, cat_list, cat_list, List.append_assoc]
        rfl
      go_wp2_with (go_at_call 33; refine hit.mono ?_; rintro e w2 ⟨rfl, hb2⟩)
      go_roundw
      case rel => exact ⟨2, by omega, rfl, by rw [HTS.out], hb.trans (hb2.mono hz)⟩
      case measure => simp [intOf]
    · rw [show (24 - 8 * ((2 : Nat) : Int)) = 8 from rfl]
      obtain ⟨S, HS, hS⟩ : ∃ S : ByteArray, Hid ((⟨(Lib.itoa (byteI a 2)).toArray⟩ : ByteArray) = S) ∧ S.size ≤ 21 := ⟨_, rfl, by show (Lib.itoa (byteI a 2)).toArray.size ≤ 21; simp; exact itoa_len a 2⟩
      have hbd := byteI_bd a 2
      have hit := digits_any (byteI a 2) wr (by omega) (by omega)
      rw [HS.out, show byteI a 2 = a / 256 % 256 from by unfold byteI; simp] at hit
      clear hbd
      have n1 : ¬ 9223372036854775807 < T.size + S.size := by omega
      have n2 : ¬ 9223372036854775807 < T.size + S.size + 1 := by omega
      have HTS : Hid ((⟨(refT a 3).toArray⟩ : ByteArray) = T ++ S ++ ⟨#[46]⟩) := by
        unfold Hid
        rw [← HT.out, ← HS.out, show (⟨#[46]⟩ : ByteArray) = ⟨([46] : List UInt8).toArray⟩ from rfl, cat_list, cat_list, List.append_assoc]
        rfl
      go_wp2_with (go_at_call 33; refine hit.mono ?_; rintro e w2 ⟨rfl, hb2⟩)
      go_roundw
      case rel => exact ⟨3, by omega, rfl, by rw [HTS.out], hb.trans (hb2.mono hz)⟩
      case measure => simp [intOf]
    · rw [show (24 - 8 * ((3 : Nat) : Int)) = 0 from rfl]
      obtain ⟨S, HS, hS⟩ : ∃ S : ByteArray, Hid ((⟨(Lib.itoa (byteI a 3)).toArray⟩ : ByteArray) = S) ∧ S.size ≤ 21 := ⟨_, rfl, by show (Lib.itoa (byteI a 3)).toArray.size ≤ 21; simp; exact itoa_len a 3⟩
      have hbd := byteI_bd a 3
      have hit := digits_any (byteI a 3) wr (by omega) (by omega)
      rw [HS.out, show byteI a 3 = a % 256 from by unfold byteI; simp] at hit
      clear hbd
      have n1 : ¬ 9223372036854775807 < T.size + S.size := by omega
      have HTS : Hid ((⟨(refT a 4).toArray⟩ : ByteArray) = T ++ S) := by
        unfold Hid
        rw [← HT.out, ← HS.out, cat_list]
        rfl
      go_wp2_with (go_at_call 33; refine hit.mono ?_; rintro e w2 ⟨rfl, hb2⟩)
      go_roundw
      case rel => exact ⟨4, by omega, rfl, by rw [HTS.out], hb.trans (hb2.mono hz)⟩
      case measure => simp [intOf]
    · rw [show (24 - 8 * ((4 : Nat) : Int)) = -8 from rfl]
      obtain ⟨S, HS, hS⟩ : ∃ S : ByteArray, Hid ((⟨(Lib.itoa l).toArray⟩ : ByteArray) = S) ∧ S.size ≤ 21 := ⟨_, rfl, by show (Lib.itoa l).toArray.size ≤ 21; simp; exact Lib.itoa_length_le l (by omega) (by omega)⟩
      have hit := digits_any l wr hl0 hl1
      rw [HS.out] at hit
      have n1 : ¬ 9223372036854775807 < T.size + 1 := by omega
      have n2 : ¬ 9223372036854775807 < T.size + 1 + S.size := by omega
      have HTS : Hid ((⟨(showL a l).toArray⟩ : ByteArray) = T ++ ⟨#[47]⟩ ++ S) := by
        unfold Hid
        rw [← HT.out, ← HS.out, show (⟨#[47]⟩ : ByteArray) = ⟨([47] : List UInt8).toArray⟩ from rfl, cat_list, cat_list]
        simp [refT, showL, showP, sepU]
      go_wp2_with (go_at_call 33; refine hit.mono ?_; rintro e w2 ⟨rfl, hb2⟩)
      go_ret
      exact ⟨by rw [HTS.out]; rfl, hw.trans (hb2.mono hw.size)⟩
end Go.Proofs.YtapoajplmejjcaaDoor
