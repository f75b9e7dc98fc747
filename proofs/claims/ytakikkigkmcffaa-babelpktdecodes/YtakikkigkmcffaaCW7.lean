/- The contract of write. -/
import Derived.Test.YtakikkigkmcffaaCE1
import Derived.Test.YtakikkigkmcffaaCW6
namespace Go.Proofs.Ytakikkigkmcffaa
open Go.RowKit

set_option maxHeartbeats 2000000 in
theorem write_2 (N : Nat) (kt : Bool) (kr ka : Int) (ad : Option Addr) (m cp : Nat) (L : List Int) (s i c a l r t h : Int) (w : World) (hW : WF w N kt kr ka ad m cp) (own : Own8 w (N + 1) 5 (.slice ad m cp) m L) (hm : m ≤ 2000)
    (hok : Tlv.Ok ⟨2, s, i, c, a, l, r, t, h⟩) (hmay : mayT ⟨2, s, i, c, a, l, r, t, h⟩ = true) (x0 : 0 ≤ ka) (x1 : ka < 4294967296) :
    Calls Try.prog 20 #[.pointer (some ⟨N, 0, none⟩), valT 2 s i c a l r t h] w (Wrote w N true r a (m + (wr ⟨kt, kr, ka⟩ ⟨2, s, i, c, a, l, r, t, h⟩).length) (L ++ wr ⟨kt, kr, ka⟩ ⟨2, s, i, c, a, l, r, t, h⟩)) := by
  have HOK : Hid (Tlv.Ok ⟨2, s, i, c, a, l, r, t, h⟩) := hok
  have HM : Hid (mayT ⟨2, s, i, c, a, l, r, t, h⟩ = true) := hmay
  obtain ⟨-, -, l0, l1, ⟨i0, i1⟩, ⟨c0, c1⟩, ⟨h0, h1⟩⟩ := mayT_all hmay
  have s0 := hok.s0
  have s1 := hok.s1
  have a0 := hok.a0
  have a1 := hok.a1
  have r0 := hok.r0
  have r1 := hok.r1
  have t0 := hok.t0
  have t1 := hok.t1
  simp only at l0 l1 i0 i1 c0 c1 h0 h1 s0 s1 a0 a1 r0 r1 t0 t1
  clear hok hmay
  have HW : Hid (WF w N kt kr ka ad m cp) := hW
  have HO : Hid (Own8 w (N + 1) 5 (.slice ad m cp) m L) := own
  obtain ⟨n, hn⟩ : ∃ n, nd l = n := ⟨_, rfl⟩
  have hn4 : n ≤ 4 := by rw [← hn]; exact nd_le l1
  have HN : Hid (nd l = n) := hn
  have hn4' : (n : Int) ≤ 4 := by omega
  have HA : Hid ((adB a l).length = n) := by unfold Hid; rw [adB_len l1, hn]
  have HAB : Hid (Bytes (adB a l)) := adB_bytes a0 a1
  clear hW own hn
  go_enter Try.func20, Try.ntmps20
  go_wp2
  go_region_held3 (fun w' => w'.cell? ⟨w.heap.size, 4, none⟩ = some (.int .u32 a) ∧ w'.cell? ⟨w.heap.size, 5, none⟩ = some (.int .i64 l)) (go_keep)
    (first
      | (go_at_call 38; refine (needs_any _ _ l0 (by omega) HN.out).mono ?_; rintro e w' ⟨rfl, rfl⟩)
      | (go_at_call 37; refine (put32_any _ _ a0 (by omega)).mono ?_; rintro e w' ⟨rfl, rfl⟩))
  obtain ⟨W1, hW1⟩ : ∃ W1, W1 = ((w.alloc (objT 2 s i c a l r t h)).alloc (ob4 a)).drew := ⟨_, rfl⟩
  have hB : Below w.heap.size w W1 := by rw [hW1]; exact (below2 _ _ _).drew
  have F : Hid (T9 W1 w.heap.size 0 ⟨2, s, i, c, a, l, r, t, h⟩) := by unfold Hid; rw [hW1]; exact (T9.new w 2 s i c a l r t h).later (below1 _ _).drew
  have RA : Hid (Row8 W1 (some ⟨w.heap.size + 1, 0, none⟩) n (adB a l)) := by
    unfold Hid; rw [hW1]; exact row_ad ((row_b4 (w.alloc (objT _ s i c a l r t h)) a0 (by omega) _ (by simp)).later (Below.refl _ _).drew) HN.out hn4
  have z1 : w.heap.size + 1 < W1.heap.size := by rw [hW1]; simp [World.drew]
  rw [← hW1]
  clear hW1
  obtain ⟨q0, q1, q2, q3, q4, q5, q6, q7, q8⟩ := F.out.z
  have z0 : w.heap.size < W1.heap.size := by omega
  have hNw : N < w.heap.size := HW.out.2.2.2.2.2
  have HOB : Hid ((Value.slice ad m cp).ownBlock ≠ some (w.heap.size + 1)) := fun e => by have := (World.ownsRow.lt HO.out _ e).2; omega
  by_cases ht : kt = true ∧ kr = r
  · have HWR : Hid (wr ⟨kt, kr, ka⟩ ⟨2, s, i, c, a, l, r, t, h⟩ = tlvB 8 (upB ka ⟨2, s, i, c, a, l, r, t, h⟩)) := wr_told rfl ht
    go_wp2_with (go_at_call 43; refine (wu_told N kt kr ka ad m cp L s i c a l r t h (w.heap.size + 1) n _ (HW.out.later hB) (HO.out.later hB) hm HOK.out HM.out HN.out (by omega) HOB.out z1 RA.out x0 x1 ht.1 ht.2).mono ?_; rintro e W' ⟨rfl, ad', cp', hW', own', hb'⟩)
    rw [HWR.out]
    refine bodyPost_ret (v := .tuple #[]) (by simp [results, Try.results20, go_sem]) rfl ⟨rfl, ad', cp', ?_, ?_, (hB.mono (Nat.le_of_lt hNw)).trans hb'⟩
    · rw [tlvB_len]; exact hW'
    · rw [tlvB_len]; exact own'
  · have HWR : Hid (wr ⟨kt, kr, ka⟩ ⟨2, s, i, c, a, l, r, t, h⟩ = tlvB 6 (roB r) ++ tlvB 8 (upB ka ⟨2, s, i, c, a, l, r, t, h⟩)) := wr_new rfl ht
    have hcase : kt = false ∨ (kt = true ∧ (kr != r) = true) := by
      cases kt
      · exact .inl rfl
      · exact .inr ⟨rfl, by simpa using ht⟩
    have HC : Hid (kt = false ∨ (kt = true ∧ (kr != r) = true)) := hcase
    have HE : Hid (m + (tlvB 6 (roB r) ++ tlvB 8 (upB ka ⟨2, s, i, c, a, l, r, t, h⟩)).length = m + 12 + (2 + (upB ka ⟨2, s, i, c, a, l, r, t, h⟩).length)) := by unfold Hid; rw [List.length_append, tlvB_len, tlvB_len, roB_len]; omega
    clear ht hcase
    go_wp2_with (go_at_call 43; refine (wu_new N kt kr ka ad m cp L s i c a l r t h (w.heap.size + 1) n _ (HW.out.later hB) (HO.out.later hB) hm HOK.out HM.out HN.out (by omega) HOB.out z1 RA.out x0 x1 HC.out).mono ?_; rintro e W' ⟨rfl, ad', cp', hW', own', hb'⟩)
    rw [HWR.out, HE.out, ← List.append_assoc]
    exact bodyPost_ret (v := .tuple #[]) (by simp [results, Try.results20, go_sem]) rfl ⟨rfl, ad', cp', hW', own', (hB.mono (Nat.le_of_lt hNw)).trans hb'⟩
/-- A part that may be is put behind the others. -/
theorem write_any (N : Nat) (kt : Bool) (kr ka : Int) (ad : Option Addr) (m cp : Nat) (L : List Int) (k s i c a l r t h : Int) (w : World) (hW : WF w N kt kr ka ad m cp) (own : Own8 w (N + 1) 5 (.slice ad m cp) m L) (hm : m ≤ 2000)
    (hok : Tlv.Ok ⟨k, s, i, c, a, l, r, t, h⟩) (hmay : mayT ⟨k, s, i, c, a, l, r, t, h⟩ = true) (x0 : 0 ≤ ka) (x1 : ka < 4294967296) {kt' : Bool} {kr' ka' : Int} (hK : kn ⟨kt, kr, ka⟩ ⟨k, s, i, c, a, l, r, t, h⟩ = ⟨kt', kr', ka'⟩) {q : Nat} {U : List Int} (hU : wr ⟨kt, kr, ka⟩ ⟨k, s, i, c, a, l, r, t, h⟩ = U) (hq : m + U.length = q) :
    Calls Try.prog 20 #[.pointer (some ⟨N, 0, none⟩), valT k s i c a l r t h] w (Wrote w N kt' kr' ka' q (L ++ U)) := by
  subst hU hq
  obtain ⟨ho, -, -, l1, -⟩ := mayT_all hmay
  simp only at l1
  rcases ownB_kind ho with h2 | h2 | h2 | h2 | h2
  all_goals
    simp only at h2
    subst h2
    simp [kn] at hK
    obtain ⟨rfl, rfl, rfl⟩ := hK
  · rw [wr_part (by simp)]
    have e : partB ⟨0, s, i, c, a, l, r, t, h⟩ = tlvB 4 ([0, 0] ++ b2 s ++ b2 i) := by unfold partB; simp
    rw [e]
    obtain ⟨-, -, l0, -, ⟨i0, i1⟩, -⟩ := mayT_all hmay
    exact write_0 N kt kr ka ad m cp L s i c a l r t h w hW own hm l0 l1 i0 i1 hok.s0 hok.s1 hok.a0 hok.a1
  · rw [wr_part (by simp)]
    have e : partB ⟨1, s, i, c, a, l, r, t, h⟩ = tlvB 5 ([0, 0] ++ b2 c ++ b2 i) := by unfold partB; simp
    rw [e]
    exact write_1 N kt kr ka ad m cp L s i c a l r t h w hW own hm hok hmay
  · exact write_2 N kt kr ka ad m cp L s i c a l r t h w hW own hm hok hmay x0 x1
  · rw [wr_part (by simp)]
    have e : partB ⟨3, s, i, c, a, l, r, t, h⟩ = tlvB 9 ([1, l] ++ adB a l) := by unfold partB; simp
    have e2 : (tlvB 9 ([1, l] ++ adB a l)).length = 4 + nd l := by rw [tlvB_len, List.length_append, adB_len l1]; simp; omega
    rw [e, e2]
    exact write_3 N kt kr ka ad m cp L s i c a l r t h w hW own hm hok hmay rfl
  · rw [wr_part (by simp)]
    have e : partB ⟨4, s, i, c, a, l, r, t, h⟩ = tlvB 10 ([1, l] ++ b2 s ++ [h, 0] ++ b8 r ++ adB a l) := by unfold partB; simp
    have e2 : (tlvB 10 ([1, l] ++ b2 s ++ [h, 0] ++ b8 r ++ adB a l)).length = 16 + nd l := by rw [tlvB_len, List.length_append, adB_len l1]; simp [b2, b8, b4]; omega
    rw [e, e2]
    exact write_4 N kt kr ka ad m cp L s i c a l r t h w hW own hm hok hmay rfl
end Go.Proofs.Ytakikkigkmcffaa
