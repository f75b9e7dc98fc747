/- The contract of the program's pave, whole. -/
import Derived.Test.YtcabeclbdjfoaaaPavZ
namespace Go.Proofs.Ytcabeclbdjfoaaa
open Go.RowKit

theorem pave_pass (w : World) (N g0 n0 : Nat) (most cnt : Int) (L : List Pr) (a : Int) (m : Nat) (hNw : N < w.heap.size) (hgw : g0 < w.heap.size) (hn0 : n0 ≤ 60000) (ha0 : 0 ≤ a) (hm : m ≤ 32) (q : Nat) (x : Act) (hq : slot6 x = q) (W : World) (hJ : PaJ w N g0 n0 most cnt L a m x W) :
    Code.wp Try.prog restPa (Exit.jump 0 (fun a' w' => PaJ w N g0 n0 most cnt L a m a' w' ∧ m - slot6 a' < m - q) (bodyPost Try.prog Try.f53 (PaveD w N g0 n0 most cnt L a m))) x W := by
  obtain ⟨i, k, g, cap, ns, ws, u1, u2, u4, u7, u8, u9, u10, u11, u12, u13, u14, u15, u16, u17, u18, u19, u20, u21, u22, u23, u24, u25, u26, u27, u28, u29, u30, u31, u32, u33, u34, u35, u36, u37, u38, u39, u40, u41, u42, u43, u44, u45, u46, u47, u48, u49, u50, u51, u52, u53, u54, u55, u56, u57, u58, u59, u60, u61, u62, u63, u64, rfl, hT, hG, hH, hi, hk, hw, hl, hg, hK⟩ := hJ
  obtain ⟨y, hy⟩ := at_of_lt hi
  have hq' : k = q := by rw [← hq]; simp [slot6, intOf]
  by_cases hkm : k = m
  · exact pave_end w N g0 n0 most cnt L a m hNw hgw hn0 ha0 hm q i k g cap ns ws u1 u2 u4 u7 u8 u9 u10 u11 u12 u13 u14 u15 u16 u17 u18 u19 u20 u21 u22 u23 u24 u25 u26 u27 u28 u29 u30 u31 u32 u33 u34 u35 u36 u37 u38 u39 u40 u41 u42 u43 u44 u45 u46 u47 u48 u49 u50 u51 u52 u53 u54 u55 u56 u57 u58 u59 u60 u61 u62 u63 u64 hq' W hT hG hH hi hk hw hl hg hK y hy hkm
  · have hlt : k < m := by omega
    cases hs : bitX a k
    · by_cases hc : y.kid false = 0
      · exact pave_new0 w N g0 n0 most cnt L a m hNw hgw hn0 ha0 hm q i k g cap ns ws u1 u2 u4 u7 u8 u9 u10 u11 u12 u13 u14 u15 u16 u17 u18 u19 u20 u21 u22 u23 u24 u25 u26 u27 u28 u29 u30 u31 u32 u33 u34 u35 u36 u37 u38 u39 u40 u41 u42 u43 u44 u45 u46 u47 u48 u49 u50 u51 u52 u53 u54 u55 u56 u57 u58 u59 u60 u61 u62 u63 u64 hq' W hT hG hH hi hk hw hl hg hK y hy hlt hs hc
      · exact pave_old0 w N g0 n0 most cnt L a m hNw hgw hn0 ha0 hm q i k g cap ns ws u1 u2 u4 u7 u8 u9 u10 u11 u12 u13 u14 u15 u16 u17 u18 u19 u20 u21 u22 u23 u24 u25 u26 u27 u28 u29 u30 u31 u32 u33 u34 u35 u36 u37 u38 u39 u40 u41 u42 u43 u44 u45 u46 u47 u48 u49 u50 u51 u52 u53 u54 u55 u56 u57 u58 u59 u60 u61 u62 u63 u64 hq' W hT hG hH hi hk hw hl hg hK y hy hlt hs hc
    · by_cases hc : y.kid true = 0
      · exact pave_new1 w N g0 n0 most cnt L a m hNw hgw hn0 ha0 hm q i k g cap ns ws u1 u2 u4 u7 u8 u9 u10 u11 u12 u13 u14 u15 u16 u17 u18 u19 u20 u21 u22 u23 u24 u25 u26 u27 u28 u29 u30 u31 u32 u33 u34 u35 u36 u37 u38 u39 u40 u41 u42 u43 u44 u45 u46 u47 u48 u49 u50 u51 u52 u53 u54 u55 u56 u57 u58 u59 u60 u61 u62 u63 u64 hq' W hT hG hH hi hk hw hl hg hK y hy hlt hs hc
      · exact pave_old1 w N g0 n0 most cnt L a m hNw hgw hn0 ha0 hm q i k g cap ns ws u1 u2 u4 u7 u8 u9 u10 u11 u12 u13 u14 u15 u16 u17 u18 u19 u20 u21 u22 u23 u24 u25 u26 u27 u28 u29 u30 u31 u32 u33 u34 u35 u36 u37 u38 u39 u40 u41 u42 u43 u44 u45 u46 u47 u48 u49 u50 u51 u52 u53 u54 u55 u56 u57 u58 u59 u60 u61 u62 u63 u64 hq' W hT hG hH hi hk hw hl hg hK y hy hlt hs hc
set_option maxHeartbeats 1000000 in
theorem pave_any (w : World) (N g cap : Nat) (most cnt : Int) (ns : List Nd) (ws : Nat → List Bool) (L : List Pr) (a : Int) (m : Nat) (hT : TrM w N g cap most cnt ns) (hG : Good ns ws) (hH : Holds ns ws L) (hn0 : ns.length ≤ 60000) (ha0 : 0 ≤ a) (hm : m ≤ 32) :
    Calls Try.prog 53 #[.pointer (some ⟨N, 0, none⟩), valX a (m : Int)] w (PaveD w N g ns.length most cnt L a m) := by
  have PASS : Hid (_) := pave_pass w N g ns.length most cnt L a m hT.lt hT.g_lt hn0 ha0 hm
  have HT : Hid (TrM w N g cap most cnt ns) := hT
  have HG : Hid (Good ns ws) := hG
  have HH : Hid (Holds ns ws L) := hH
  clear hT hG hH
  go_enter Try.func53, Try.ntmps53
  go_wp2
  refine wp_scope_jumps 0 (PaJ w N g ns.length most cnt L a m) (fun a' _ => m - slot6 a') rfl ?_ ?_
  rotate_left
  · intro a' W' hJ
    exact wp_seq (wp_skip (PASS.out _ a' rfl W' hJ))
  go_wp2
  go_step3
  rename_i K hK
  refine hK _ _ (wp_mono (PASS.out _ _ rfl _ ?_) (jump_mono fun a w h => h.1))
  exact ⟨0, 0, g, cap, ns, ws, _, _, _, _, _, _, _, _, _, _, _, _, _, _, _, _, _, _, _, _, _, _, _, _, _, _, _, _, _, _, _, _, _, _, _, _, _, _, _, _, _, _, _, _, _, _, _, _, _, _, _, _, _, _, _, _, _, _, _, _, _, rfl, HT.out.later (below1 _ _), HG.out, HH.out, HG.out.r, Nat.zero_le _, by rw [HG.out.w]; rfl, Nat.le_refl _, .inl rfl, Keep.refl _ _⟩
end Go.Proofs.Ytcabeclbdjfoaaa
