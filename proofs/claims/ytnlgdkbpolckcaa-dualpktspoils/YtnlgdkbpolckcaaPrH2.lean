/- The contract of the program's Decode: an entry more. -/
import Derived.Test.YtnlgdkbpolckcaaPrH1
namespace Go.Proofs.Ytnlgdkbpolckcaa
open Go.RowKit

set_option maxRecDepth 100000 in
set_option maxHeartbeats 4000000 in
theorem pass_go (w : World) (b n : Nat) (c : Int) (i : Bool) (s k : Int) (l : List Int) (hB : Bytes l) (hl : l.length = n) (hf : framed l = true) (_hs : sumOk l = true) (h40 : (l.length - 16) / 20 ≤ 40) (_hpk : ⟨c, i, s, k, ents ((l.length - 16) / 20) (l.drop 16)⟩ = pkOf l) (hbz : b < w.heap.size) (q : Nat) (a : Act) (hq : lenV (a.tmps.getD 4 undef) = q) (W : World) (hJ : DJ w b n c i s k l a W) (he : a.tmps.getD 6 undef = .bool true) (hm0 : 0 < lenV (a.tmps.getD 4 undef)) :
    Code.wp Try.prog restCode (Exit.jump 0 (fun a' w' => DJ w b n c i s k l a' w' ∧ lenV (a'.tmps.getD 4 undef) < q) (bodyPost Try.prog Try.f12 (DecD w (dec l)))) a W := by
  obtain ⟨M, j, ok, o, m, cc, ad, cp, u0, u1, u7, u8, u9, u10, u11, u12, u13, u14, u15, u16, u17, u18, u19, u20, u21, u22, u23, u24, u25, u26, u27, u28, u29, u30, u31, u32, u33, u34, u35, u36, u37, u38, u39, u40, u41, u42, u43, u44, u45, u46, u47, u48, u49, u50, u51, u52, u53, u54, u55, u56, u57, u58, rfl, hP, hO, hP0, hr, hmc, hn, hok, hwM, hBw⟩ := hJ
  have HP : Hid (PF5 W M c i s k ad j cp) := hP
  have HO : Hid (OwnE W (M + 1) (.slice ad j cp) j (ents j (l.drop 16))) := hO
  have HP0 : Hid (PF5 W w.heap.size 0 false 0 0 none 0 0) := hP0
  have HR : Hid (Row8 W (some ⟨b, o, none⟩) m (l.drop (16 + 20 * j))) := hr
  have HBw : Hid (Below w.heap.size w W) := hBw
  have HN : Hid (16 + 20 * j + m = n) := hn
  have HOK : Hid (ok = (hdOk l && zF j (l.drop 16))) := hok
  have HL : Hid (l.length = n) := hl
  have HBy : Hid (Bytes l) := hB
  have hmod := (framed_all hf).2
  rw [hl] at hmod
  obtain ⟨N, hN⟩ : ∃ N, (n - 16) / 20 = N := ⟨_, rfl⟩
  have HNN : Hid ((l.length - 16) / 20 = N) := by unfold Hid; rw [hl]; exact hN
  have hNm : m = 20 * (N - j) := by omega
  have hjN : j ≤ N := by omega
  have hN40 : N ≤ 40 := by rw [hl] at h40; omega
  have HM : Hid (m = 20 * (N - j)) := hNm
  obtain ⟨⟨f0, f1, f2, f3, f4, fz⟩, ff⟩ := hP
  obtain ⟨⟨z0, z1, z2, z3, z4, zz⟩, zf⟩ := hP0
  have HQ : Hid (m = q) := hq
  clear hq
  obtain rfl : ok = true := by simpa using he
  have hm20 : 20 ≤ m := by have h : 0 < m := hm0; omega
  clear hr hO hBw hn hok hl hB hmod hN _hpk hf _hs h40 he hm0
  conv => arg 2; whnf
  have hm0 : (0 : Int) < (m : Int) := by omega
  have hjl : j < N := by omega
  have i1 : (20 : Int) ≤ (m : Int) := by omega
  have i2 : (m : Int) ≤ (cc : Int) := by omega
  have i3 : (20 : Int) ≤ (cc : Int) := by omega
  obtain ⟨z, hz⟩ : ∃ z, zq ((l.drop (16 + 20 * j)).take 20) = z := ⟨_, rfl⟩
  have HZ : Hid (zq ((l.drop (16 + 20 * j)).take 20) = z) := hz
  have HZ' : Hid (z = (hdOk l && zF (j + 1) (l.drop 16))) := by
    unfold Hid
    rw [zF_snoc, ← Bool.and_assoc, ← HOK.out, List.drop_drop, hz]; rfl
  obtain ⟨⟨ea, el, eb, ed, eh, et⟩, hE⟩ : ∃ p, entOf ((l.drop (16 + 20 * j)).take 20) = p := ⟨_, rfl⟩
  have HE : Hid (entOf ((l.drop (16 + 20 * j)).take 20) = ⟨ea, el, eb, ed, eh, et⟩) := hE
  have HEnt : Hid (ents j (l.drop 16) ++ [⟨ea, el, eb, ed, eh, et⟩] = ents (j + 1) (l.drop 16)) := by unfold Hid; rw [ents_snoc, List.drop_drop, hE]
  have HEO : Hid (Ent.Ok ⟨ea, el, eb, ed, eh, et⟩) := by unfold Hid; rw [← hE]; exact entOf_ok ((drop_b HBy.out _).take' 20)
  have n1 : W.heap.size ≠ M := by omega
  have n2 : M ≠ W.heap.size := by omega
  have hj40 : j + 1 ≤ 40 := by omega
  have hRow : Hid (∀ V, Below W.heap.size W V → Row8 V (some ⟨b, o, none⟩) 20 ((l.drop (16 + 20 * j)).take 20)) := fun V hV => (HR.out.later hV).take 20 hm20
  clear hz hE hNm hjN hN40 hjl z0 z1 z2 z3 z4 zz zf HNN
  by_cases hcc : cc = 20
  · obtain rfl : m = 20 := by omega
    subst hcc
    go_wp2_with (first
      | (go_at_call 25; refine (decodeEntry_any b o _ _ (hRow.out _ (below1 _ _)) HZ.out HE.out).mono ?_; rintro e W2 ⟨rfl, hb2⟩; have E7 : E6 W2 W.heap.size 0 ⟨0, 0, 0, 0, 0, 0⟩ := (E6.new W 0 0 0 0 0 0).later hb2; have G2 : Below W.heap.size W W2 := Below.out1 hb2; have nf7 : ∀ o, W2.frozen? ⟨W.heap.size, o, none⟩ = false := (fun o => (hb2.frozen (p := ⟨W.heap.size, o, none⟩) (by simp)).trans (by simp [go_sem])); obtain ⟨y0, y1, y2, y3, y4, y5⟩ := E7.z; obtain ⟨⟨f0, f1, f2, f3, f4, fz⟩, ff⟩ := HP.out.later G2)
      | (at_builtin; go_loud (obtain ⟨X, hX⟩ : ∃ X, X = (((((W2.setCell ⟨W.heap.size, 0, none⟩ (.int .u32 ea)).setCell ⟨W.heap.size, 1, none⟩ (.int .i64 el)).setCell ⟨W.heap.size, 2, none⟩ (.int .i64 eb)).setCell ⟨W.heap.size, 3, none⟩ (.int .i64 ed)).setCell ⟨W.heap.size, 4, none⟩ (.int .i64 eh)).setCell ⟨W.heap.size, 5, none⟩ (.int .u16 et) := ⟨_, rfl⟩; rw [← hX]; have GX : Below W.heap.size W X := (by rw [hX]; exact put6_b G2 (Nat.le_refl _) _ _ _ _ _ _); have sX : W2.heap.size = X.heap.size := (by rw [hX]; simp); have hMX : M + 1 ≤ X.heap.size := (by have := GX.size; omega); clear hX; refine wpList_appE _ rfl (.tmp 43) (.tmp 45) 23 rfl (M + 1) Try.underlying23 infoE _ j _ rfl ((HO.out.later GX).later (below1 _ _)) _ 1 1 [⟨ea, el, eb, ed, eh, et⟩] rfl (rowE_one (E6.newAt X _ sX ea el eb ed eh et) rfl HEO.out) (j + 1) rfl _ HEnt.out (by omega) (by simp; omega) ?_; intro a3 c3 W3 own3 hb3; have HO3 : Hid (OwnE W3 (M + 1) (.slice a3 (j + 1) c3) (j + 1) (ents (j + 1) (l.drop 16))) := own3; have HP3 : Hid (PF5 W3 M c i s k ad j cp) := ((HP.out.later GX).later (below1 X (objE ea el eb ed eh et))).lift hb3 (by omega); have BM3 : Hid (Below M W W3) := ((GX.mono (by omega)).trans ((below1 X (objE ea el eb ed eh et)).mono (by omega))).trans (hb3.mono (by omega)); clear own3 hb3 sX hMX; obtain ⟨⟨f0, f1, f2, f3, f4, fz⟩, ff⟩ := HP3.out)))
    go_step3
    have BM : Hid (Below M W (W3.setCell ⟨M, 4, none⟩ (.slice a3 (j + 1) c3))) := BM3.out.setCell (p := ⟨M, 4, none⟩) (Nat.le_refl _) _
    have hbM : b < M := by omega
    refine ⟨rfl, ⟨M, j + 1, z, o, 0, 0, a3, c3, _, _, _, _, _, _, _, _, _, _, _, _, _, _, _, _, _, _, _, _, _, _, _, _, _, _, _, _, _, _, _, _, _, _, _, _, _, _, _, _, _, _, _, _, _, _, _, _, _, _, _, _, _, _, rfl, HP3.out.set4 _ _ _, HO3.out.set (by omega), HP0.out.lift BM.out hwM, row8_zero (by rw [List.length_drop, HL.out]; have := HN.out; omega), by omega, by have := HN.out; omega, HZ'.out, hwM, HBw.out.trans (BM.out.mono (by omega))⟩, ?_⟩
    show _ < q
    rw [← HQ.out]
    first | (simp [lenV]; done) | (simp [lenV]; omega)
  · go_wp2_with (first
      | (go_at_call 25; refine (decodeEntry_any b o _ _ (hRow.out _ (below1 _ _)) HZ.out HE.out).mono ?_; rintro e W2 ⟨rfl, hb2⟩; have E7 : E6 W2 W.heap.size 0 ⟨0, 0, 0, 0, 0, 0⟩ := (E6.new W 0 0 0 0 0 0).later hb2; have G2 : Below W.heap.size W W2 := Below.out1 hb2; have nf7 : ∀ o, W2.frozen? ⟨W.heap.size, o, none⟩ = false := (fun o => (hb2.frozen (p := ⟨W.heap.size, o, none⟩) (by simp)).trans (by simp [go_sem])); obtain ⟨y0, y1, y2, y3, y4, y5⟩ := E7.z; obtain ⟨⟨f0, f1, f2, f3, f4, fz⟩, ff⟩ := HP.out.later G2)
      | (at_builtin; go_loud (obtain ⟨X, hX⟩ : ∃ X, X = (((((W2.setCell ⟨W.heap.size, 0, none⟩ (.int .u32 ea)).setCell ⟨W.heap.size, 1, none⟩ (.int .i64 el)).setCell ⟨W.heap.size, 2, none⟩ (.int .i64 eb)).setCell ⟨W.heap.size, 3, none⟩ (.int .i64 ed)).setCell ⟨W.heap.size, 4, none⟩ (.int .i64 eh)).setCell ⟨W.heap.size, 5, none⟩ (.int .u16 et) := ⟨_, rfl⟩; rw [← hX]; have GX : Below W.heap.size W X := (by rw [hX]; exact put6_b G2 (Nat.le_refl _) _ _ _ _ _ _); have sX : W2.heap.size = X.heap.size := (by rw [hX]; simp); have hMX : M + 1 ≤ X.heap.size := (by have := GX.size; omega); clear hX; refine wpList_appE _ rfl (.tmp 43) (.tmp 45) 23 rfl (M + 1) Try.underlying23 infoE _ j _ rfl ((HO.out.later GX).later (below1 _ _)) _ 1 1 [⟨ea, el, eb, ed, eh, et⟩] rfl (rowE_one (E6.newAt X _ sX ea el eb ed eh et) rfl HEO.out) (j + 1) rfl _ HEnt.out (by omega) (by simp; omega) ?_; intro a3 c3 W3 own3 hb3; have HO3 : Hid (OwnE W3 (M + 1) (.slice a3 (j + 1) c3) (j + 1) (ents (j + 1) (l.drop 16))) := own3; have HP3 : Hid (PF5 W3 M c i s k ad j cp) := ((HP.out.later GX).later (below1 X (objE ea el eb ed eh et))).lift hb3 (by omega); have BM3 : Hid (Below M W W3) := ((GX.mono (by omega)).trans ((below1 X (objE ea el eb ed eh et)).mono (by omega))).trans (hb3.mono (by omega)); clear own3 hb3 sX hMX; obtain ⟨⟨f0, f1, f2, f3, f4, fz⟩, ff⟩ := HP3.out)))
    go_step3
    have BM : Hid (Below M W (W3.setCell ⟨M, 4, none⟩ (.slice a3 (j + 1) c3))) := BM3.out.setCell (p := ⟨M, 4, none⟩) (Nat.le_refl _) _
    have hbM : b < M := by omega
    refine ⟨rfl, ⟨M, j + 1, z, o + 20, m - 20, cc - 20, a3, c3, _, _, _, _, _, _, _, _, _, _, _, _, _, _, _, _, _, _, _, _, _, _, _, _, _, _, _, _, _, _, _, _, _, _, _, _, _, _, _, _, _, _, _, _, _, _, _, _, _, _, _, _, _, _, rfl, HP3.out.set4 _ _ _, HO3.out.set (by omega), HP0.out.lift BM.out hwM, (by have h := (HR.out.low BM.out hbM).drop 20 (m - 20) (by omega); rw [List.drop_drop] at h; exact h), by omega, by have := HN.out; omega, HZ'.out, hwM, HBw.out.trans (BM.out.mono (by omega))⟩, ?_⟩
    show _ < q
    rw [← HQ.out]
    first | (simp [lenV]; done) | (simp [lenV]; omega)
end Go.Proofs.Ytnlgdkbpolckcaa
