/- The contracts of the program's within and All. -/
import Derived.Test.YtifokdebocgaiaaWitB
namespace Go.Proofs.Ytifokdebocgaiaa
open Go.RowKit

set_option maxHeartbeats 4000000 in
theorem within_no (N g cap : Nat) (most cnt : Int) (ns : List Nd) (ws : Nat → List Bool) (base f : Nat) (hG : Good ns ws) (hNb : N < base) (hgb : g < base) (IH : WithinS N g cap most cnt ns ws base f) (i : Nat) (w : World) (ad : Option Addr) (n cp : Nat) (out : List Px) (hT : TrM w N g cap most cnt ns) (hbw : base ≤ w.heap.size) (hi : i < ns.length) (hf : (ws i).length + (f + 1) = 33) (hO : OwnX w base (.slice ad n cp) n out) (hlen : n + (lst (f + 1) ns ws i).length ≤ 90000) (hh : (nd ns i).h = false) :
    Calls Try.prog 34 #[.pointer (some ⟨N, 0, none⟩), .int .i64 (i : Int), valX (adr (ws i) 0 : Nat) ((ws i).length : Nat), .slice ad n cp] w (WithinD w base (.slice ad n cp) out (lst (f + 1) ns ws i)) := by
  have HT : Hid (TrM w N g cap most cnt ns) := hT
  have HG : Hid (Good ns ws) := hG
  have HIH : Hid (WithinS N g cap most cnt ns ws base f) := IH
  have HO : Hid (OwnX w base (.slice ad n cp) n out) := hO
  have HOl : Hid (out.length = n) := hO.len
  have HLn : Hid (n + (hereN f ns ws i 2).length ≤ 90000) := by unfold Hid; rw [here_end]; exact hlen
  rw [← here_end]
  have HHd : Hid ((nd ns i).h = false) := hh
  have HF : Hid ((ws i).length + (f + 1) = 33) := hf
  obtain ⟨z0, -, -, fz, -, -, -⟩ := hT.later (below1 w (objX (adr (ws i) 0 : Nat) ((ws i).length : Nat)))
  obtain ⟨e0, e1, -, e3, -⟩ := (hT.later (below1 w (objX (adr (ws i) 0 : Nat) ((ws i).length : Nat)))).at (at_nd hi)
  rw [hh] at e3
  have ca := (hT.cap_le).1
  have hi' : (i : Int) < (ns.length : Int) := by omega
  obtain ⟨a, ha⟩ : ∃ a, (nd ns i).a = a := ⟨_, rfl⟩
  obtain ⟨b, hb⟩ : ∃ b, (nd ns i).b = b := ⟨_, rfl⟩
  have HA : Hid ((nd ns i).a = a) := ha
  have HB : Hid ((nd ns i).b = b) := hb
  rw [ha] at e0
  rw [hb] at e1
  obtain ⟨A, hA⟩ : ∃ A, adr (ws i) 0 = A := ⟨_, rfl⟩
  obtain ⟨l, hl⟩ : ∃ l, (ws i).length = l := ⟨_, rfl⟩
  have HAd : Hid (adr (ws i) 0 = A) := hA
  have HLe : Hid ((ws i).length = l) := hl
  rw [hA, hl] at z0 fz e0 e1 e3
  rw [hA, hl]
  rw [hl] at hf
  have hbw1 : base ≤ (w.alloc (objX (A : Int) (l : Int))).heap.size := by simp; omega
  have i0 := idx0 (.int .i64 (a : Int)) (.int .i64 (b : Int))
  have i1 := idx1 (.int .i64 (a : Int)) (.int .i64 (b : Int))
  have hl33 : (l : Int) ≤ 32 := by omega
  clear hT hG IH hO hlen hh ha hb hA hl
  go_enter Try.func34, Try.ntmps34
  have HW : Hid (WiS (w.alloc (objX (A : Int) (l : Int))) base (.slice ad n cp) (out ++ (hereN f ns ws i 0).map keyX) ad n cp (w.alloc (objX (A : Int) (l : Int)))) := ⟨by rw [here_h0 f HHd.out, List.append_nil]; exact HO.out.later (below1 _ _), Keep.refl _ _, fun k hk => .inl hk⟩
  go_wp2
  go_loopw [3, 32] (fun o_ s_ W => WiR (w.alloc (objX (A : Int) (l : Int))) base (.slice ad n cp) out f ns ws i o_ s_ W) (fun _ s_ _ => 2 - (intOf s_).toNat)
  case atStart => exact ⟨0, _, _, _, .inl ⟨rfl, rfl⟩, rfl, HW.out⟩
  case round =>
    clear z0 fz e0 e1 e3
    obtain ⟨j, a2, n2, c2, hc, rfl, hW⟩ := hrel
    have HW : Hid (WiS (w.alloc (objX (A : Int) (l : Int))) base (.slice ad n cp) (out ++ (hereN f ns ws i j).map keyX) a2 n2 c2 wr) := hW
    obtain ⟨hTr, x0, x1, hs, hbr⟩ := hW.facts HT.out HO.out hNb hgb hbw
    have HTr : Hid (TrM wr N g cap most cnt ns) := hTr
    have hbr1 : base ≤ (wr.alloc (objX (A : Int) ((l : Int) + 1))).heap.size := by simp; omega
    clear hTr
    clear hW
    obtain ⟨rfl, rfl⟩ | ⟨rfl, rfl⟩ | ⟨rfl, rfl⟩ := hc
    · by_cases ha0 : a = 0
      · have t1 : ((a : Int) != 0) = false := by rw [bne_eq_false_iff_eq]; omega
        have HE : Hid (hereN f ns ws i 1 = hereN f ns ws i 0) := here_a0 (by rw [HA.out]; exact ha0)
        clear ha0
        go_wp2
        go_roundw
        case rel => exact ⟨1, _, _, _, .inr (.inl ⟨rfl, rfl⟩), rfl, by rw [HE.out]; exact HW.out⟩
        case measure => simp [intOf]
      · have t1 : ((a : Int) != 0) = true := by rw [bne_iff_ne]; omega
        have hor := or_zero (A := A) (by rw [← HAd.out]; have := adr_lt (ws i) 0 (by rw [HLe.out]; omega); simpa using this)
        have HC : Hid ((nd ns i).kid false = a ∧ a ≠ 0 ∧ adr (ws i ++ [false]) 0 = A ∧ l + (f + 1) = 33) := ⟨HA.out, ha0, by rw [adr_zero, HAd.out], hf⟩
        have HE : Hid (hereN f ns ws i 1 = hereN f ns ws i 0 ++ lst f ns ws a) := by unfold Hid; rw [here_a1 (by rw [HA.out]; exact ha0), HA.out]
        have HN2 : Hid (n2 + (lst f ns ws a).length ≤ 90000) := by
          have h1 := (here_le f ns ws i).2
          rw [HE.out, List.length_append] at h1
          have h2 := HW.out.1.len
          rw [List.length_append, List.length_map, HOl.out] at h2
          have := HLn.out
          unfold Hid; omega
        clear ha0 hf
        go_wp2_with (go_at_call 34; refine (WithinS.kid HIH.out HG.out hi HC.out.1 HC.out.2.1 HC.out.2.2.1 HLe.out HC.out.2.2.2 (wr.alloc (objX (A : Int) ((l : Int) + 1))) a2 n2 c2 _ (HTr.out.later (below1 _ _)) hbr1 (HW.out.1.later (below1 _ _)) HN2.out).mono ?_; rintro e W3 ⟨a3, n3, c3, rfl, o3, k3, b3⟩; have HW3 : Hid (WiS (w.alloc (objX (A : Int) (l : Int))) base (.slice ad n cp) ((out ++ (hereN f ns ws i 0).map keyX) ++ (lst f ns ws a).map keyX) a3 n3 c3 W3) := HW.out.call o3 k3 b3; clear o3 k3 b3)
        go_roundw
        case rel => exact ⟨1, _, _, _, .inr (.inl ⟨rfl, rfl⟩), rfl, by rw [HE.out, List.map_append, ← List.append_assoc]; exact HW3.out⟩
        case measure => simp [intOf]
    · by_cases hb0 : b = 0
      · have t1 : ((b : Int) != 0) = false := by rw [bne_eq_false_iff_eq]; omega
        have HE : Hid (hereN f ns ws i 2 = hereN f ns ws i 1) := here_b0 (by rw [HB.out]; exact hb0)
        clear hb0
        go_wp2
        go_roundw
        case rel => exact ⟨2, _, _, _, .inr (.inr ⟨rfl, rfl⟩), rfl, by rw [HE.out]; exact HW.out⟩
        case measure => simp [intOf]
      · have t1 : ((b : Int) != 0) = true := by rw [bne_iff_ne]; omega
        have hl31 : (l : Int) ≤ 31 := by
          obtain ⟨k1, k2, -⟩ := HG.out.kid_nd hi true (by rw [show (nd ns i).kid true = b from HB.out]; exact hb0)
          have := HG.out.d _ k1
          rw [k2, List.length_append, HLe.out] at this
          simp at this
          omega
        obtain ⟨X, hX⟩ : ∃ X, adr (ws i ++ [true]) 0 = X := ⟨_, rfl⟩
        have hor := or_bit' HLe.out (by omega) HAd.out hX
        have HC : Hid ((nd ns i).kid true = b ∧ b ≠ 0 ∧ adr (ws i ++ [true]) 0 = X ∧ l + (f + 1) = 33) := ⟨HB.out, hb0, hX, hf⟩
        have hbr2 : base ≤ (wr.alloc (objX (X : Int) ((l : Int) + 1))).heap.size := by simp; omega
        have HE : Hid (hereN f ns ws i 2 = hereN f ns ws i 1 ++ lst f ns ws b) := by unfold Hid; rw [here_b1 (by rw [HB.out]; exact hb0), HB.out]
        have HN2 : Hid (n2 + (lst f ns ws b).length ≤ 90000) := by
          have h2 := HW.out.1.len
          rw [List.length_append, List.length_map, HOl.out] at h2
          have h3 := HLn.out
          rw [HE.out, List.length_append] at h3
          unfold Hid; omega
        clear hb0 hf hX hbr1
        go_wp2_with (go_at_call 34; refine (WithinS.kid HIH.out HG.out hi HC.out.1 HC.out.2.1 HC.out.2.2.1 HLe.out HC.out.2.2.2 (wr.alloc (objX (X : Int) ((l : Int) + 1))) a2 n2 c2 _ (HTr.out.later (below1 _ _)) hbr2 (HW.out.1.later (below1 _ _)) HN2.out).mono ?_; rintro e W3 ⟨a3, n3, c3, rfl, o3, k3, b3⟩; have HW3 : Hid (WiS (w.alloc (objX (A : Int) (l : Int))) base (.slice ad n cp) ((out ++ (hereN f ns ws i 1).map keyX) ++ (lst f ns ws b).map keyX) a3 n3 c3 W3) := HW.out.call o3 k3 b3; clear o3 k3 b3)
        go_roundw
        case rel => exact ⟨2, _, _, _, .inr (.inr ⟨rfl, rfl⟩), rfl, by rw [HE.out, List.map_append, ← List.append_assoc]; exact HW3.out⟩
        case measure => simp [intOf]
    · go_wp2
      go_ret
      exact ⟨_, _, _, rfl, HW.out.1, keep_then (below1 _ _) HW.out.2.1, fun k hk => (HW.out.2.2 k hk).imp id fun h => by simp at h; omega⟩
theorem within_any (N g cap : Nat) (most cnt : Int) (ns : List Nd) (ws : Nat → List Bool) (base : Nat) (hG : Good ns ws) (hNb : N < base) (hgb : g < base) : ∀ f, WithinS N g cap most cnt ns ws base f
  | 0 => fun i w ad n cp out _ _ hi hf _ _ => by have := hG.d i hi; omega
  | f + 1 => fun i w ad n cp out hT hb hi hf hO hn => by
    have IH := within_any N g cap most cnt ns ws base hG hNb hgb f
    cases hh : (nd ns i).h
    · exact within_no N g cap most cnt ns ws base f hG hNb hgb IH i w ad n cp out hT hb hi hf hO hn hh
    · exact within_yes N g cap most cnt ns ws base f hG hNb hgb IH i w ad n cp out hT hb hi hf hO hn hh
theorem withinZ (N g cap : Nat) (most cnt : Int) (ns : List Nd) (ws : Nat → List Bool) (L : List Pr) (w : World) (hT : TrM w N g cap most cnt ns) (hG : Good ns ws) (hH : Holds ns ws L) (hS : Srt L) (hl : L.length ≤ 90000) :
    Calls Try.prog 34 #[.pointer (some ⟨N, 0, none⟩), .int .i64 0, .agg #[.int .u32 0, .int .i64 0], .slice none 0 0] w (WithinD w w.heap.size (.slice none 0 0) [] L) := by
  have h := within_any N g cap most cnt ns ws w.heap.size hG hT.lt hT.g_lt 33 0 w none 0 0 [] hT (Nat.le_refl _) hG.r (by rw [hG.w]; rfl) (ownX_nil _ _) (by rw [lst_is hG hH hS]; omega)
  rw [lst_is hG hH hS, hG.w] at h
  exact h
set_option maxHeartbeats 400000 in
theorem all_any (N g cap : Nat) (most cnt : Int) (ns : List Nd) (ws : Nat → List Bool) (L : List Pr) (w : World) (hT : TrM w N g cap most cnt ns) (hG : Good ns ws) (hH : Holds ns ws L) (hS : Srt L) (hl : L.length ≤ 90000) :
    Calls Try.prog 20 #[.pointer (some ⟨N, 0, none⟩)] w fun e w' => ∃ ad n cap, e = .returned (.slice ad n cap) ∧ OwnX w' w.heap.size (.slice ad n cap) n (L.map keyX) ∧ Below w.heap.size w w' := by
  have HC : Hid (TrM w N g cap most cnt ns ∧ Good ns ws ∧ Holds ns ws L ∧ Srt L ∧ L.length ≤ 90000) := ⟨hT, hG, hH, hS, hl⟩
  clear hT hG hH hS hl
  go_enter Try.func20, Try.ntmps20
  go_wp2_with (go_at_call 34; refine (withinZ N g cap most cnt ns ws L w HC.out.1 HC.out.2.1 HC.out.2.2.1 HC.out.2.2.2.1 HC.out.2.2.2.2).mono ?_; rintro e W1 ⟨ad, n, cp, rfl, o1, k1, -⟩)
  go_ret
  exact ⟨_, _, _, rfl, by simpa using o1, ⟨k1.os, k1.tape, k1.output, k1.size, fun k hk => k1.block k hk (fun h => by cases h)⟩⟩
end Go.Proofs.Ytifokdebocgaiaa
