/- The contract of the program's Decode. -/
import Derived.Test.YtnlgdkbpolckcaaPrH2
namespace Go.Proofs.Ytnlgdkbpolckcaa
open Go.RowKit

theorem pass12 (w : World) (b n : Nat) (c : Int) (i : Bool) (s k : Int) (l : List Int) (hB : Bytes l) (hl : l.length = n) (hf : framed l = true) (hs : sumOk l = true) (h40 : (l.length - 16) / 20 ≤ 40) (hpk : ⟨c, i, s, k, ents ((l.length - 16) / 20) (l.drop 16)⟩ = pkOf l) (hbz : b < w.heap.size) (q : Nat) (a : Act) (hq : lenV (a.tmps.getD 4 undef) = q) (W : World) (hJ : DJ w b n c i s k l a W) :
    Code.wp Try.prog restCode (Exit.jump 0 (fun a' w' => DJ w b n c i s k l a' w' ∧ lenV (a'.tmps.getD 4 undef) < q) (bodyPost Try.prog Try.f12 (DecD w (dec l)))) a W := by
  by_cases h0 : lenV (a.tmps.getD 4 undef) = 0
  · exact pass_end w b n c i s k l hB hl hf hs h40 hpk hbz q a hq W hJ (.inr h0)
  · have hJ' := hJ
    obtain ⟨M, j, ok, o, m, cc, ad, cp, u0, u1, u7, u8, u9, u10, u11, u12, u13, u14, u15, u16, u17, u18, u19, u20, u21, u22, u23, u24, u25, u26, u27, u28, u29, u30, u31, u32, u33, u34, u35, u36, u37, u38, u39, u40, u41, u42, u43, u44, u45, u46, u47, u48, u49, u50, u51, u52, u53, u54, u55, u56, u57, u58, e, -⟩ := hJ'
    cases ok
    · exact pass_end w b n c i s k l hB hl hf hs h40 hpk hbz q a hq W hJ (.inl (by rw [e]; rfl))
    · exact pass_go w b n c i s k l hB hl hf hs h40 hpk hbz q a hq W hJ (by rw [e]; rfl) (by omega)
set_option maxHeartbeats 2000000 in
theorem decode_bad (a : Option Addr) (n cap : Nat) (l : List Int) (w : World) (hr : Row8 w a n l) (hn : n ≤ 3000) (hf : framed l = false) :
    Calls Try.prog 12 #[.slice a n cap] w (DecD w (dec l)) := by
  rw [dec_frame hf]
  have HR : Hid (Row8 w a n l) := hr
  clear hr
  go_enter Try.func12, Try.ntmps12
  go_wp2
  go_step3
  go_wp2_with (go_at_call 22; refine (isFramed_any _ _ _ l _ (HR.out.later (below1 _ _)) hn hf).mono ?_; rintro e w_ ⟨rfl, rfl⟩)
  rw [Exit.noGoto_ret]
  exact bodyPost_ret (v := .tuple #[valP 0 false 0 0 none 0 0, .int .i64 2]) (by simp [results, Try.results12, go_sem]) rfl ⟨none, 0, 0, rfl, rowE_none _, below1 _ _⟩
set_option maxHeartbeats 2000000 in
theorem decode_sum (b off n cap : Nat) (l : List Int) (w : World) (hr : Row8 w (some ⟨b, off, none⟩) n l) (hn : n ≤ 3000) (hf : framed l = true) (hs : sumOk l = false) :
    Calls Try.prog 12 #[.slice (some ⟨b, off, none⟩) n cap] w (DecD w (dec l)) := by
  rw [dec_sum hf hs]
  have h16 := (framed_all hf).1
  rw [hr.1] at h16
  have HR : Hid (Row8 w (some ⟨b, off, none⟩) n l) := hr
  have HBy : Hid (Bytes l) := hr.2.2.1
  have HEq : Hid (((strOfNums l).toList == (strOfNums (sumd l)).toList) = false) := str_eq HBy.out (sumd_bytes HBy.out) (decide_eq_false fun h => by rw [(sumd_iff HBy.out (by rw [hr.1]; omega)).1 h] at hs; cases hs)
  have HSB : Hid (Bytes (sumd l)) := sumd_bytes HBy.out
  clear hr hs
  go_enter Try.func12, Try.ntmps12
  go_wp2
  go_step3
  go_wp2_with (first
    | (go_at_call 22; refine (isFramed_any _ _ _ l _ (HR.out.later (below1 _ _)) hn hf).mono ?_; rintro e w_ ⟨rfl, rfl⟩)
    | (go_at_call 18; refine (withSum_any b off n cap l _ (HR.out.later (below1 _ _)) hn h16).mono ?_; rintro e W2 ⟨a2, c2, rfl, own2, hb2⟩; have HP2 : Hid (PF5 W2 w.heap.size 0 false 0 0 none 0 0) := (PF5.new w 0 false 0 0 none 0 0).later hb2; have HR2 : Hid (Row8 W2 a2 n (sumd l)) := own2.row HSB.out (by omega); have HRl : Hid (Row8 W2 (some ⟨b, off, none⟩) n l) := HR.out.later (Below.out1 hb2); clear own2; obtain ⟨⟨z0, z1, z2, z3, z4, zz⟩, zf⟩ := HP2.out)
    | (go_at_call 23; refine (equal_any _ _ _ l _ _ _ (sumd l) _ HRl.out HR2.out HEq.out).mono ?_; rintro e w_ ⟨rfl, rfl⟩))
  rw [Exit.noGoto_ret]
  exact fin12 (p := pk0) HP2.out.1 (Below.out1 hb2) rfl rfl rfl (rowE_none _)
set_option maxHeartbeats 2000000 in
theorem decode_long (b off n cap : Nat) (l : List Int) (w : World) (hr : Row8 w (some ⟨b, off, none⟩) n l) (hn : n ≤ 3000) (hc : n ≤ cap) (hf : framed l = true) (hs : sumOk l = true) (h40 : 40 < (l.length - 16) / 20) :
    Calls Try.prog 12 #[.slice (some ⟨b, off, none⟩) n cap] w (DecD w (dec l)) := by
  rw [dec_long hf hs h40]
  have h16 := (framed_all hf).1
  rw [hr.1] at h16 h40
  have HR : Hid (Row8 w (some ⟨b, off, none⟩) n l) := hr
  have HBy : Hid (Bytes l) := hr.2.2.1
  have HEq : Hid (((strOfNums l).toList == (strOfNums (sumd l)).toList) = true) := str_eq HBy.out (sumd_bytes HBy.out) (decide_eq_true ((sumd_iff HBy.out (by rw [hr.1]; omega)).2 hs))
  have HSB : Hid (Bytes (sumd l)) := sumd_bytes HBy.out
  obtain ⟨r, hrr⟩ : ∃ r, n - 16 = r := ⟨_, rfl⟩
  have hr8 : (800 : Int) < (r : Int) := by omega
  have i1 : (16 : Int) ≤ (n : Int) := by omega
  have i2 : (n : Int) ≤ (cap : Int) := by omega
  have i3 : (16 : Int) ≤ (cap : Int) := by omega
  have i4 : ¬ cap = 16 := by omega
  clear hr hs h40
  go_enter Try.func12, Try.ntmps12
  go_wp2
  go_step3
  go_wp2_with (first
    | (go_at_call 22; refine (isFramed_any _ _ _ l _ (HR.out.later (below1 _ _)) hn hf).mono ?_; rintro e w_ ⟨rfl, rfl⟩)
    | (go_at_call 18; refine (withSum_any b off n cap l _ (HR.out.later (below1 _ _)) hn h16).mono ?_; rintro e W2 ⟨a2, c2, rfl, own2, hb2⟩; have HP2 : Hid (PF5 W2 w.heap.size 0 false 0 0 none 0 0) := (PF5.new w 0 false 0 0 none 0 0).later hb2; have HR2 : Hid (Row8 W2 a2 n (sumd l)) := own2.row HSB.out (by omega); have HRl : Hid (Row8 W2 (some ⟨b, off, none⟩) n l) := HR.out.later (Below.out1 hb2); clear own2; obtain ⟨⟨z0, z1, z2, z3, z4, zz⟩, zf⟩ := HP2.out)
    | (go_at_call 23; refine (equal_any _ _ _ l _ _ _ (sumd l) _ HRl.out HR2.out HEq.out).mono ?_; rintro e w_ ⟨rfl, rfl⟩))
  rw [Exit.noGoto_ret]
  exact fin12 (p := pk0) HP2.out.1 (Below.out1 hb2) rfl rfl rfl (rowE_none _)
set_option maxRecDepth 100000 in
set_option maxHeartbeats 2000000 in
theorem decode_run (b off n cap : Nat) (l : List Int) (w : World) (hr : Row8 w (some ⟨b, off, none⟩) n l) (hn : n ≤ 3000) (hc : n ≤ cap) (hf : framed l = true) (hs : sumOk l = true) (h40 : (l.length - 16) / 20 ≤ 40) :
    Calls Try.prog 12 #[.slice (some ⟨b, off, none⟩) n cap] w (DecD w (dec l)) := by
  have h16 := (framed_all hf).1
  rw [hr.1] at h16
  have hl := hr.1
  obtain ⟨b', off', e, hcell⟩ := hr.at' (by omega)
  simp only [Option.some.injEq, Addr.mk.injEq, and_true] at e
  obtain ⟨rfl, rfl⟩ := e
  have hbz : b < w.heap.size := block_lt_of_cell (hcell 0 (by omega))
  have HR : Hid (Row8 w (some ⟨b, off, none⟩) n l) := hr
  have HBy : Hid (Bytes l) := hr.2.2.1
  have HEq : Hid (((strOfNums l).toList == (strOfNums (sumd l)).toList) = true) := str_eq HBy.out (sumd_bytes HBy.out) (decide_eq_true ((sumd_iff HBy.out (by rw [hr.1]; omega)).2 hs))
  have HSB : Hid (Bytes (sumd l)) := sumd_bytes HBy.out
  obtain ⟨c, hcc⟩ : ∃ c, at8 (l.take 16) 1 = c := ⟨_, rfl⟩
  obtain ⟨i, hi⟩ : ∃ i, (at8 (l.take 16) 4 == 1) = i := ⟨_, rfl⟩
  obtain ⟨s, hss⟩ : ∃ s, getV (l.take 16) 8 4 = s := ⟨_, rfl⟩
  obtain ⟨k, hk⟩ : ∃ k, getV (l.take 16) 12 4 = k := ⟨_, rfl⟩
  have HPK : Hid (⟨c, i, s, k, ents ((l.length - 16) / 20) (l.drop 16)⟩ = pkOf l) := by
    unfold Hid pkOf
    rw [← hcc, ← hi, ← hss, ← hk, at8_take (by decide), at8_take (by decide), getV_take _ (by decide), getV_take _ (by decide)]
  have HC : Hid (at8 (l.take 16) 1 = c) := hcc
  have HI : Hid ((at8 (l.take 16) 4 == 1) = i) := hi
  have HS : Hid (getV (l.take 16) 8 4 = s) := hss
  have HK : Hid (getV (l.take 16) 12 4 = k) := hk
  obtain ⟨v, hv⟩ : ∃ v, hdOk l = v := ⟨_, rfl⟩
  have HV : Hid (hdOk l = v) := hv
  have HV' : Hid ((decide (at8 (l.take 16) 4 ≤ 1) && (((l.take 16).drop 5).take 3).all (· == 0)) = v) := by unfold Hid; rw [hd_take, hv]
  have PASS : Hid (_) := pass12 w b n c i s k l HBy.out hl hf hs h40 HPK.out hbz
  obtain ⟨r, hrr⟩ : ∃ r, n - 16 = r := ⟨_, rfl⟩
  have HRn : Hid (16 + r = n) := by unfold Hid; omega
  have hr8 : ¬ (800 : Int) < (r : Int) := by rw [hl] at h40; have := (framed_all hf).2; rw [hl] at this; omega
  have i1 : (16 : Int) ≤ (n : Int) := by omega
  have i2 : (n : Int) ≤ (cap : Int) := by omega
  have i3 : (16 : Int) ≤ (cap : Int) := by omega
  clear hr hcell hs h40 hcc hi hss hk hv hl
  go_enter Try.func12, Try.ntmps12
  go_wp2
  refine wp_scope_jumps 0 (DJ w b n c i s k l) (fun a' _ => lenV (a'.tmps.getD 4 undef)) rfl ?_ ?_
  rotate_left
  · intro a' W' hJ
    exact wp_seq (wp_skip (PASS.out _ a' rfl W' hJ))
  by_cases hc16 : cap = 16
  · obtain rfl : n = 16 := by omega
    subst hc16
    obtain rfl : r = 0 := by omega
    clear hrr
    go_wp2_with (first
      | (go_at_call 22; refine (isFramed_any _ _ _ l _ (HR.out.later (below1 _ _)) hn hf).mono ?_; rintro e w_ ⟨rfl, rfl⟩)
      | (go_at_call 18; refine (withSum_any b off 16 16 l _ (HR.out.later (below1 _ _)) hn h16).mono ?_; rintro e W2 ⟨a2, c2, rfl, own2, hb2⟩; have HP2 : Hid (PF5 W2 w.heap.size 0 false 0 0 none 0 0) := (PF5.new w 0 false 0 0 none 0 0).later hb2; have HR2 : Hid (Row8 W2 a2 16 (sumd l)) := own2.row HSB.out (by omega); have HRl : Hid (Row8 W2 (some ⟨b, off, none⟩) 16 l) := HR.out.later (Below.out1 hb2); clear own2)
      | (go_at_call 23; refine (equal_any _ _ _ l _ _ _ (sumd l) _ HRl.out HR2.out HEq.out).mono ?_; rintro e w_ ⟨rfl, rfl⟩)
      | (go_at_call 24; refine (decodeHead_any b off (l.take 16) _ (HRl.out.take 16 (by omega)) HV'.out).mono ?_; rw [HC.out, HI.out, HS.out, HK.out]; rintro e W3 ⟨rfl, hb3⟩))
    go_step3
    rename_i K hK
    refine hK _ _ (wp_mono (PASS.out _ _ rfl _ ?_) (jump_mono fun a w h => h.1))
    exact ⟨W3.heap.size, 0, v, off, 0, 0, none, 0, _, _, _, _, _, _, _, _, _, _, _, _, _, _, _, _, _, _, _, _, _, _, _, _, _, _, _, _, _, _, _, _, _, _, _, _, _, _, _, _, _, _, _, _, _, _, _, _, _, _, _, _, _, _, rfl, PF5.new W3 c i s k none 0 0, ownE_nil _ _, (HP2.out.later hb3).later (below1 _ _), row8_zero (by rw [List.length_drop, HR.out.1]), by omega, rfl, by rw [HV.out, zF, Bool.and_true], (HP2.out.later hb3).1.2.2.2.2.2, (stp (Below.out1 hb2) hb3).trans ((below1 W3 _).mono (stp (Below.out1 hb2) hb3).size)⟩
  · go_wp2_with (first
      | (go_at_call 22; refine (isFramed_any _ _ _ l _ (HR.out.later (below1 _ _)) hn hf).mono ?_; rintro e w_ ⟨rfl, rfl⟩)
      | (go_at_call 18; refine (withSum_any b off n cap l _ (HR.out.later (below1 _ _)) hn h16).mono ?_; rintro e W2 ⟨a2, c2, rfl, own2, hb2⟩; have HP2 : Hid (PF5 W2 w.heap.size 0 false 0 0 none 0 0) := (PF5.new w 0 false 0 0 none 0 0).later hb2; have HR2 : Hid (Row8 W2 a2 n (sumd l)) := own2.row HSB.out (by omega); have HRl : Hid (Row8 W2 (some ⟨b, off, none⟩) n l) := HR.out.later (Below.out1 hb2); clear own2)
      | (go_at_call 23; refine (equal_any _ _ _ l _ _ _ (sumd l) _ HRl.out HR2.out HEq.out).mono ?_; rintro e w_ ⟨rfl, rfl⟩)
      | (go_at_call 24; refine (decodeHead_any b off (l.take 16) _ (HRl.out.take 16 (by omega)) HV'.out).mono ?_; rw [HC.out, HI.out, HS.out, HK.out]; rintro e W3 ⟨rfl, hb3⟩))
    go_step3
    rename_i K hK
    refine hK _ _ (wp_mono (PASS.out _ _ rfl _ ?_) (jump_mono fun a w h => h.1))
    exact ⟨W3.heap.size, 0, v, off + 16, r, cap - 16, none, 0, _, _, _, _, _, _, _, _, _, _, _, _, _, _, _, _, _, _, _, _, _, _, _, _, _, _, _, _, _, _, _, _, _, _, _, _, _, _, _, _, _, _, _, _, _, _, _, _, _, _, _, _, _, _, rfl, PF5.new W3 c i s k none 0 0, ownE_nil _ _, (HP2.out.later hb3).later (below1 _ _), ((HRl.out.later hb3).drop 16 r HRn.out).later (below1 _ _), by omega, HRn.out, by rw [HV.out, zF, Bool.and_true], (HP2.out.later hb3).1.2.2.2.2.2, (stp (Below.out1 hb2) hb3).trans ((below1 W3 _).mono (stp (Below.out1 hb2) hb3).size)⟩
theorem decode_any (a : Option Addr) (n cap : Nat) (l : List Int) (w : World) (hr : Row8 w a n l) (hn : n ≤ 3000) (hc : n ≤ cap) :
    Calls Try.prog 12 #[.slice a n cap] w (DecD w (dec l)) := by
  cases hf : framed l
  · exact decode_bad a n cap l w hr hn hf
  · have h16 := (framed_all hf).1
    rw [hr.1] at h16
    obtain ⟨b, off, rfl, -⟩ := hr.at' (by omega)
    cases hs : sumOk l
    · exact decode_sum b off n cap l w hr hn hf hs
    · by_cases h40 : 40 < (l.length - 16) / 20
      · exact decode_long b off n cap l w hr hn hc hf hs h40
      · exact decode_run b off n cap l w hr hn hc hf hs (by omega)
end Go.Proofs.Ytnlgdkbpolckcaa
