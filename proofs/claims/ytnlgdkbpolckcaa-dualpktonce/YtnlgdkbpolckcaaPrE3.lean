/- The contract of the program's Encode. -/
import Derived.Test.YtnlgdkbpolckcaaPrE2
namespace Go.Proofs.Ytnlgdkbpolckcaa
open Go.RowKit

theorem sumd_body (p : Pk) : sumd (bodyB p 0) = bodyB p (sumI (bodyB p 0)) := by
  unfold sumd
  rw [plain_body]
  rfl
theorem mayP_iff {p : Pk} : mayP p = true ↔ codeOk p = true ∧ p.es.all mayE = true := by unfold mayP; rw [Bool.and_eq_true]
set_option maxHeartbeats 2000000 in
theorem encode_any (c : Int) (i : Bool) (s k : Int) (ad : Option Addr) (n cap : Nat) (es : List Ent) (w : World) (hr : RowE w ad n es) (hn : n ≤ 200) (s0 : 0 ≤ s) (s1 : s ≤ 4294967295) (k0 : 0 ≤ k) (k1 : k ≤ 4294967295) :
    Calls Try.prog 10 #[valP c i s k ad n cap] w (EncD w ⟨c, i, s, k, es⟩) := by
  have HR : Hid (RowE w ad n es) := hr
  have HL : Hid (es.length = n) := hr.1
  have HE : Hid (Ents es) := hr.2.1
  clear hr
  by_cases h40 : 40 < n
  · have HX : Hid (encX ⟨c, i, s, k, es⟩ = 9) := encX_long (by simp only; rw [HL.out]; exact h40)
    have j40 : (40 : Int) < (n : Int) := by omega
    go_enter Try.func10, Try.ntmps10
    go_wp2
    go_ret2
    exact enc_no HX.out (by decide) (below1 _ _)
  have j40 : ¬ (40 : Int) < (n : Int) := by omega
  have hn40 : n ≤ 40 := by omega
  obtain ⟨v, hv⟩ : ∃ v, mayP ⟨c, i, s, k, es⟩ = v := ⟨_, rfl⟩
  have HV : Hid (mayP ⟨c, i, s, k, es⟩ = v) := hv
  cases v
  · have HX : Hid (encX ⟨c, i, s, k, es⟩ = 1) := encX_arg (by simp only; rw [HL.out]; omega) (fun hh => by rw [mayP_iff.2 hh] at hv; cases hv)
    clear hv
    go_enter Try.func10, Try.ntmps10
    go_wp2_with (go_at_call 15; refine (mayPk_any c i s k ad n cap es _ (HR.out.later (below1 _ _)) hn HV.out).mono ?_; rintro e W1 ⟨rfl, hb1⟩)
    go_ret2
    exact enc_no HX.out (by decide) (Below.out1 hb1)
  obtain ⟨hco, hal⟩ := mayP_iff.1 hv
  obtain ⟨c0, c1, -⟩ := codeOk_all hco
  simp only at c0 c1
  have HX : Hid (encX ⟨c, i, s, k, es⟩ = 0) := encX_mk (by simp only; rw [HL.out]; omega) hco hal
  have HA : Hid (es.all mayE = true) := hal
  have HBB : Hid (Bytes (bodyB ⟨c, i, s, k, es⟩ 0)) := bodyB_bytes (p := ⟨c, i, s, k, es⟩) ⟨by simp only; omega, by simp only; omega, s0, s1, k0, k1, HE.out⟩ HX.out (by decide) (by decide)
  have HEB : Hid (sumd (bodyB ⟨c, i, s, k, es⟩ 0) = encB ⟨c, i, s, k, es⟩) := by unfold Hid; rw [sumd_body, encB_good HX.out]
  clear hv hco hal
  go_enter Try.func10, Try.ntmps10
  go_wp2_with (first
    | (go_at_call 15; refine (mayPk_any c i s k ad n cap es _ (HR.out.later (below1 _ _)) hn HV.out).mono ?_; rintro e W1 ⟨rfl, hb1⟩; have F1 := (P5.new w c i s k ad n cap).later hb1; have F1' := F1; obtain ⟨g0, g1, g2, g3, g4, gz⟩ := F1')
    | (go_at_call 16; refine (encodeHead_any c i s k ad n cap es _ c0 c1 s0 s1 k0 k1).mono ?_; rintro e W2 ⟨a2, p2, rfl, own2, hb2⟩; obtain ⟨g0, g1, g2, g3, g4, gz⟩ := F1.later hb2))
  have hB2 : Below (w.heap.size + 1) (w.alloc (objP c i s k ad n cap)) W2 := by
    have := hb1.trans (hb2.mono hb1.size)
    simpa using this
  have own2' : Own8 W2 (w.heap.size + 1) 5 (.slice a2 16 p2) 16 (headB ⟨c, i, s, k, es⟩ 0) := own2.base (by have := hb1.size; simpa using this)
  clear own2 hb1 hb2 F1 g0 g1 g2 g3 gz
  go_loopw [4, 19] (fun u i_ W => ∃ (j : Nat) (ad' : Option Addr) (cp' : Nat), j ≤ n ∧ i_ = .int .i64 j ∧ u = .slice ad' (16 + 20 * j) cp' ∧ Hid (Own8 W (w.heap.size + 1) 5 (.slice ad' (16 + 20 * j) cp') (16 + 20 * j) (headB ⟨c, i, s, k, es⟩ 0 ++ (es.take j).flatMap entB)) ∧ Below (w.heap.size + 1) (w.alloc (objP c i s k ad n cap)) W) (fun _ i_ _ => n - (intOf i_).toNat)
  case atStart => exact ⟨0, a2, p2, Nat.zero_le _, rfl, rfl, by unfold Hid; simpa using own2', hB2⟩
  case round =>
    clear own2' hB2
    obtain ⟨j, ad', cp', hj, rfl, rfl, HO, hB⟩ := hrel
    have sB := hB.size
    by_cases hlt : j < n
    · have hlt' : (j : Int) < (n : Int) := by omega
      obtain ⟨⟨ea, el, eb, ed, eh, et⟩, b, off, he, hok, rfl, h5⟩ := (HR.out.later (out8 hB)).at hlt
      obtain ⟨d0, d1, d2, d3, d4, d5⟩ := h5
      simp only at d0 d1 d2 d3 d4 d5
      have ea0 : 0 ≤ ea := hok.a0
      have ea1 : ea ≤ 4294967295 := by have := hok.a1; simp only at this; omega
      have et0 : 0 ≤ et := hok.t0
      have et1 : et ≤ 65535 := hok.t1
      have HME : Hid (mayE ⟨ea, el, eb, ed, eh, et⟩ = true) := may_at HA.out he
      have HEb : Hid (Bytes (entB ⟨ea, el, eb, ed, eh, et⟩)) := entB_bytes hok HME.out
      have HT : Hid (es.take (j + 1) = es.take j ++ [⟨ea, el, eb, ed, eh, et⟩]) := take_next he
      obtain ⟨m, hm⟩ : ∃ m, 16 + 20 * j = m := ⟨_, rfl⟩
      have HMM : Hid (16 + 20 * j = m) := hm
      have hmb : m ≤ 816 := by omega
      rw [hm] at HO
      rw [hm]
      clear hok he hm
      go_wp2_with (first
        | (go_at_call 17; refine (encodeEntry_any _ _ _ _ _ _ _ ea0 ea1 et0 et1 HME.out).mono ?_; rintro e W3 ⟨a3, p3, rfl, own3, hb3⟩; have hO3 := (HO.out.alloc (objE ea el eb ed eh et)).later hb3; have hB3 := (hB.alloc (by simpa using sB) (objE ea el eb ed eh et)).trans (hb3.mono (by simp at sB ⊢; omega)); have sB3 := hB3.size)
        | (at_builtin; refine wpList_app8 _ rfl (.tmp 23) (.tmp 25) 27 5 rfl (w.heap.size + 1) Try.underlying27 info5 _ m _ rfl hO3 _ 20 p3 _ rfl (own3.row HEb.out (by decide)) (m + 20) rfl _ rfl (by omega) (by simpa using sB3) ?_; intro a4 p4 W4 own4 hb4; have hB4 := hB3.trans hb4))
      go_roundw
      case rel => exact ⟨j + 1, a4, p4, by omega, by go_num, by have := HMM.out; rw [show 16 + 20 * (j + 1) = m + 20 by omega], by unfold Hid; have := HMM.out; rw [show 16 + 20 * (j + 1) = m + 20 by omega, HT.out, List.flatMap_append]; simpa [List.append_assoc] using own4, hB4⟩
      case measure => simp [intOf]; omega
    · have hlt' : ¬ (j : Int) < (n : Int) := by omega
      obtain rfl : j = n := by omega
      have HO' : Hid (Own8 wr (w.heap.size + 1) 5 (.slice ad' (16 + 20 * j) cp') (16 + 20 * j) (bodyB ⟨c, i, s, k, es⟩ 0)) := by
        unfold Hid bodyB
        have h := HO.out
        rw [show es.take j = es by rw [← HL.out]; exact List.take_length] at h
        exact h
      obtain ⟨g, rfl⟩ := HO.out.get (by omega)
      obtain ⟨m, hm⟩ : ∃ m, 16 + 20 * j = m := ⟨_, rfl⟩
      rw [hm] at HO'
      rw [hm]
      have m16 : 16 ≤ m := by omega
      have m816 : m ≤ 816 := by omega
      clear HO hm
      go_wp2_with (go_at_call 18; refine (withSum_any g 0 m cp' _ _ (HO'.out.row HBB.out (by omega)) (by omega) m16).mono ?_; rw [HEB.out]; rintro e W5 ⟨a5, p5, rfl, own5, hb5⟩)
      go_ret2
      exact ⟨a5, m, p5, by rw [HX.out]; rfl, own5.base (by simp at sB; omega), stp (out8 hB) hb5⟩
end Go.Proofs.Ytnlgdkbpolckcaa
