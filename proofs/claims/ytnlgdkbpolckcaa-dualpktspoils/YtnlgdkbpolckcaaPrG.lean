/- The contract of the program's decodeHead. -/
import Derived.Test.YtnlgdkbpolckcaaPrF
namespace Go.Proofs.Ytnlgdkbpolckcaa
open Go.RowKit

theorem ldP {W : World} {M : Nat} {c : Int} {i : Bool} {s k : Int} {ad : Option Addr} {n cap : Nat} (hh : P5 W M c i s k ad n cap) : Sem.run Try.prog (Instr.loadAt 25 (.pointer (some ⟨M, 0, none⟩))) W = .ok (valP c i s k ad n cap) W := by
  obtain ⟨c0, c1, c2, c3, c4, -⟩ := hh
  go_simp
theorem stP {W : World} {M : Nat} {c0 : Int} {i0 : Bool} {s0 k0 : Int} {ad0 : Option Addr} {n0 cap0 : Nat} (hh : P5 W M c0 i0 s0 k0 ad0 n0 cap0) (nf : ∀ o, W.frozen? ⟨M, o, none⟩ = false) (c : Int) (i : Bool) (s k : Int) (ad : Option Addr) (n cap : Nat) : Sem.run Try.prog (Instr.storeAt 25 (.pointer (some ⟨M, 0, none⟩)) (valP c i s k ad n cap)) W = .ok () (put5 W M c i s k ad n cap) := by
  obtain ⟨c0, c1, c2, c3, c4, -⟩ := hh
  go_simp
theorem ld5 {W : World} {p : Addr} {x : Int} (h : W.cell? p = some (.int .u8 x)) : Sem.run Try.prog (Instr.loadAt 5 (.pointer (some p))) W = .ok (.int .u8 x) W := by
  go_simp
theorem idx27 (W : World) (b off n cap k : Nat) (h : k < n) : Sem.run Try.prog (Instr.indexAt 27 (.slice (some ⟨b, off, none⟩) n cap) (.int .i64 (k : Int))) W = .ok (.pointer (some ⟨b, off + k, none⟩)) W := by
  have h' : (k : Int) < (n : Int) := by omega
  go_simp
theorem sl58 (W : World) (b off : Nat) : Sem.run Try.prog (Instr.sliceAt 27 (.slice (some ⟨b, off, none⟩) 16 16) (some (.int .i64 5)) (some (.int .i64 8)) none) W = .ok (.slice (some ⟨b, off + 5, none⟩) 3 11) W := by
  go_simp
theorem le1 (W : World) (z : Int) (x y : Operand) : Sem.run Try.prog (do eqGuard .leq 5 x y (.int .u8 z) (.int .u8 1); binOp .leq 5 (.int .u8 z) (.int .u8 1)) W = .ok (.bool (decide (z ≤ 1))) W := by
  by_cases h : z ≤ 1
  · go_simp
  · go_simp
theorem res_twoP {fn : Func} {A : Act} {c s : Nat} {W : World} {M : Nat} {pc : Int} {i : Bool} {ps k : Int} {ad : Option Addr} {n cap : Nat} {v : Bool} (hr : fn.results = #[.cell c 25, .tmp s]) (hc : A.tmps[c]?.getD undef = .pointer (some ⟨M, 0, none⟩)) (hcs : s ≠ c) (hs : s < A.tmps.size) (hT : P5 W M pc i ps k ad n cap) :
    (results fn (A.put (some s) (.bool v)).tmps).run Try.prog W = .ok (.tuple #[valP pc i ps k ad n cap, .bool v]) W := by
  obtain ⟨c0, c1, c2, c3, c4, -⟩ := hT
  have h1 : (A.put (some s) (.bool v)).tmps[c]?.getD undef = .pointer (some ⟨M, 0, none⟩) := by
    unfold Act.put
    simp only [Array.getElem?_setIfInBounds_ne hcs]
    exact hc
  have h2 : (A.put (some s) (.bool v)).tmps[s]?.getD undef = .bool v := by
    unfold Act.put
    simp [hs]
  generalize (A.put (some s) (.bool v)).tmps = T at h1 h2 ⊢
  unfold results
  simp [hr, h1, h2, go_sem, c0, c1, c2, c3, c4]
set_option maxHeartbeats 2000000 in
theorem decodeHead_any (b off : Nat) (l : List Int) (w : World) (hr : Row8 w (some ⟨b, off, none⟩) 16 l) {v : Bool} (hv : (decide (at8 l 4 ≤ 1) && ((l.drop 5).take 3).all (· == 0)) = v) :
    Calls Try.prog 24 #[.slice (some ⟨b, off, none⟩) 16 16] w fun e w' => e = .returned (.tuple #[valP (at8 l 1) (at8 l 4 == 1) (getV l 8 4) (getV l 12 4) none 0 0, .bool v]) ∧ Below w.heap.size w w' := by
  have HR : Hid (Row8 w (some ⟨b, off, none⟩) 16 l) := hr
  have hB := hr.2.2.1
  obtain ⟨b', off', e, hc⟩ := hr.at' (by decide)
  simp only [Option.some.injEq, Addr.mk.injEq, and_true] at e
  obtain ⟨rfl, rfl⟩ := e
  have hbz : b < w.heap.size := block_lt_of_cell (hc 4 (by decide))
  have d1 := hc 1 (by decide)
  have d4 := hc 4 (by decide)
  have xb := hB.at 1
  unfold at8 at hv ⊢
  generalize l[1]?.getD 0 = c at d1 xb ⊢
  generalize l[4]?.getD 0 = x4 at d4 hv ⊢
  obtain ⟨g, hg⟩ : ∃ g, decide (x4 ≤ 1) = g := ⟨_, rfl⟩
  obtain ⟨u, hu⟩ : ∃ u, ((l.drop 5).take 3).all (· == 0) = u := ⟨_, rfl⟩
  have HU : Hid (((l.drop 5).take 3).all (· == 0) = u) := hu
  rw [hg, hu] at hv
  have HG : Hid (decide (x4 ≤ 1) = g) := hg
  have HV : Hid ((g && u) = v) := hv
  obtain ⟨i, hi⟩ : ∃ i, (x4 == 1) = i := ⟨_, rfl⟩
  obtain ⟨s, hs⟩ : ∃ x, getV l 8 4 = x := ⟨_, rfl⟩
  obtain ⟨k, hk⟩ : ∃ x, getV l 12 4 = x := ⟨_, rfl⟩
  have HS : Hid (getV l 8 4 = s) := hs
  have HK : Hid (getV l 12 4 = k) := hk
  rw [hs, hk, hi]
  have w1 : IntKind.i64.wrap c = c := wrap_in (by omega) (by omega)
  clear hs hk xb hB hc hr hv hg hu
  go_enter Try.func24, Try.ntmps24
  go_wp2_with (first
    | (go_at_call_of 36 (Value.int IntKind.i64 8); refine (get32_yes _ _ _ l 8 _ (HR.out.later (below1 _ _)) (by decide) (by decide)).mono ?_; rw [HS.out]; rintro e W_ ⟨rfl, rfl⟩)
    | (go_at_call_of 36 (Value.int IntKind.i64 12); refine (get32_yes _ _ _ l 12 _ (HR.out.later (below1 _ _)) (by decide) (by decide)).mono ?_; rw [HK.out]; rintro e W_ ⟨rfl, rfl⟩))
  obtain ⟨W1, hW1⟩ : ∃ W1, W1 = w.alloc objN := ⟨_, rfl⟩
  rw [← hW1]
  have F1 : Hid (P5 W1 w.heap.size 0 false 0 0 none 0 0) := by unfold Hid; rw [hW1]; exact P5.new w 0 false 0 0 none 0 0
  have B1 : Hid (Below w.heap.size w W1) := by unfold Hid; rw [hW1]; exact below1 _ _
  have HF1 : Hid (∀ o, W1.frozen? ⟨w.heap.size, o, none⟩ = false) := fun o => by rw [hW1]; simp [go_sem]
  have z1 : w.heap.size < W1.heap.size := by rw [hW1]; simp
  have q1 := cell_later B1.out d1
  have q4 := cell_later B1.out d4
  have hbV : b ≠ W1.heap.size := by omega
  have hbV2 : W1.heap.size ≠ b := by omega
  have HD4 : Hid (w.cell? ⟨b, off + 4, none⟩ = some (.int .u8 x4)) := d4
  clear hW1 d1 d4
  go_region_held3 (fun w' => w'.cell? ⟨b, off + 1, none⟩ = some (.int .u8 c) ∧ w'.cell? ⟨b, off + 4, none⟩ = some (.int .u8 x4)) (go_keep) (fail)
  all_goals
    go_wp2
    obtain ⟨M, hM⟩ : ∃ M, M = W1.heap.size := ⟨_, rfl⟩
    obtain ⟨W2, hW2⟩ : ∃ W2, W2 = (W1.alloc (objP c i s k none 0 0)).drew := ⟨_, rfl⟩
    rw [← hW2, ← hM]
    have E2 : Hid (P5 W2 M c i s k none 0 0) := by unfold Hid; rw [hW2, hM]; exact (P5.new W1 c i s k none 0 0).later (Below.refl _ _).drew
    have G2 : Below W1.heap.size W1 W2 := by rw [hW2]; exact (below1 _ _).drew
    have F2 : Hid (P5 W2 w.heap.size 0 false 0 0 none 0 0) := F1.out.later G2
    have B2 : Hid (Below w.heap.size w W2) := stp B1.out G2
    have f2 : ∀ o, W2.frozen? ⟨w.heap.size, o, none⟩ = false := fun o => (G2.frozen (p := ⟨w.heap.size, o, none⟩) z1).trans (HF1.out o)
    have hRow : Hid (∀ W, Below w.heap.size w W → Row8 W (some ⟨b, off + 5, none⟩) 3 ((l.drop 5).take 3)) := fun W hB => ((HR.out.later hB).drop 5 11 rfl).take 3 (by decide)
    have z2 : w.heap.size < W2.heap.size := Nat.lt_of_lt_of_le z1 G2.size
    rename_i hHeld _ _
    clear hW2 hHeld G2 hM hbV hbV2 q1 q4 z1 HF1 F1 B1
    refine wp_region_S (relV [fun x => x = valP c i s k none 0 0, fun x => x = .slice (some ⟨b, off, none⟩) 16 16, fun x => x = .pointer (some ⟨b, off + 4, none⟩), fun x => x = .int .u8 x4, fun x => x = .bool g, fun x => x = .bool g, fun x => g = true → x = .slice (some ⟨b, off, none⟩) 16 16, fun x => g = true → x = .slice (some ⟨b, off + 5, none⟩) 3 11, fun x => g = true → x = .bool u, fun x => x = .bool v]) (fun W => P5 W w.heap.size c i s k none 0 0 ∧ Below w.heap.size w W) 10 11 (by kernel_rfl) (by kernel_rfl) (by kernel_rfl) ?_
    refine ⟨?_, ?_, ?_, ?_, ?_, ?_, ?_, ?_, ?_, ?_, ?_, ?_, trivial⟩
    · exact oblS_step (pre := true) rfl rfl (by kernel_rfl) (stepS rfl fun A W hf hd hb => sv_load 25 _ ⟨M, 0, none⟩ _ rfl (ev_tmp ((hf.2.2 8 (by kernel_rfl)).trans rfl)) (ldP (E2.out.later (hb.1 rfl))) rfl)
    · exact oblS_step (pre := false) rfl rfl (by kernel_rfl) (stepS rfl fun A W hf hd hb => sv_move (.tmp 0) _ rfl (ev_tmp ((hf.2.2 0 (by kernel_rfl)).trans rfl)) rfl)
    · exact oblS_step (pre := false) rfl rfl (by kernel_rfl) (stepS rfl fun A W hf hd hb => sv_index 27 _ _ _ _ _ rfl (ev_tmp (depV hd 1 31 rfl rfl)) (ev_const _) (idx27 W b off 16 16 4 (by decide)) rfl)
    · exact oblS_step (pre := false) rfl rfl (by kernel_rfl) (stepS rfl fun A W hf hd hb => sv_load 5 _ ⟨b, off + 4, none⟩ _ rfl (ev_tmp (depV hd 2 32 rfl rfl)) (ld5 (cell_later (hb.2.elim (fun h => stp B2.out h) (fun h => h.2)) HD4.out)) rfl)
    · exact oblS_step (pre := false) rfl rfl (by kernel_rfl) (stepS rfl fun A W hf hd hb => sv_bin _ _ _ _ _ _ _ _ rfl (ev_tmp (depV hd 3 33 rfl rfl)) (ev_const _) (le1 W x4 _ _) (show _ = _ by rw [HG.out]))
    · exact oblS_step (pre := false) rfl rfl (by kernel_rfl) (stepS rfl fun A W hf hd hb => sv_move (.tmp 34) _ rfl (ev_tmp (depV hd 4 34 rfl rfl)) rfl)
    · exact oblS_step (pre := false) rfl rfl (by kernel_rfl) (stepG 5 35 g rfl rfl rfl (fun _ h => h) (fun h => by rw [h]; exact fun h => by cases h) fun hg A W hf hd hb => sv_move (.tmp 0) _ rfl (ev_tmp ((hf.2.2 0 (by kernel_rfl)).trans rfl)) (fun _ => rfl))
    · exact oblS_step (pre := false) rfl rfl (by kernel_rfl) (stepG 5 35 g rfl rfl rfl (fun _ h => h) (fun h => by rw [h]; exact fun h => by cases h) fun hg A W hf hd hb => sv_slice2 27 _ _ _ _ _ _ _ rfl (ev_tmp (depV hd 6 36 rfl rfl hg)) (ev_const _) (ev_const _) (sl58 W b off) (fun _ => rfl))
    · exact oblS_step (pre := true) rfl rfl (by kernel_rfl) (stepG 5 35 g rfl rfl rfl (fun _ h => h) (fun h => by rw [h]; exact fun h => by cases h) fun hg A W hf hd hb => sv_call 37 _ _ #[.slice (some ⟨b, off + 5, none⟩) 3 11] rfl (by kernel_rfl) (by simp only [List.map_toArray, List.map_cons, List.map_nil, ev_tmp (depV hd 7 37 rfl rfl hg)]) ((noughts_any _ 3 _ ((l.drop 5).take 3) _ (hRow.out W (stp B2.out (hb.1 rfl))) (by decide) HU.out).mono (by rintro e W' ⟨rfl, rfl⟩; exact ⟨_, rfl, fun _ => rfl, rfl⟩)))
    · exact oblS_step (pre := false) rfl rfl (by kernel_rfl) (stepS rfl fun A W hf hd hb => sv_pick _ _ _ g _ rfl (ev_tmp (depV hd 5 35 rfl rfl)) (fun h => by rw [ev_tmp (depV hd 8 38 rfl rfl h), ← HV.out, h]; rfl) (fun h => by rw [ev_const, ← HV.out, h]; rfl) rfl)
    · exact oblS_store rfl fun A W hf hd hb => sv_store 25 _ _ ⟨w.heap.size, 0, none⟩ _ _ rfl rfl (ev_tmp ((hf.2.2 2 (by kernel_rfl)).trans rfl)) (ev_tmp (depV hd 0 30 rfl rfl)) (stP (F2.out.later hb) (fun o => (hb.frozen (p := ⟨w.heap.size, o, none⟩) z2).trans (f2 o)) c i s k none 0 0) ⟨put5_P (F2.out.later hb) _ _ _ _ _ _ _, put5_b (stp B2.out hb) (Nat.le_refl _) _ _ _ _ _ _ _⟩
    · refine oblS_last fun A W hf hd hS => ?_
      refine sv_assign _ _ rfl (ev_tmp (depV2 hd 9 39 (by decide) rfl)) ?_
      go_wp2
      exact bodyPost_ret (res_twoP (c := 2) (s := 3) rfl ((hf.2.2 2 (by kernel_rfl)).trans rfl) (by decide) (by rw [hf.2.1]; exact (by decide : 3 < 40)) hS.1) hf.1 ⟨rfl, hS.2⟩
end Go.Proofs.Ytnlgdkbpolckcaa
