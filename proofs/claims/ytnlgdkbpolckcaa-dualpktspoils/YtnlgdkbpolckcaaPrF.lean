/- The contract of the program's decodeEntry. -/
import Derived.Test.YtnlgdkbpolckcaaPrE3
import Derived.Test.YtnlgdkbpolckcaaRefF0
import Derived.Test.YtnlgdkbpolckcaaRegC
namespace Go.Proofs.Ytnlgdkbpolckcaa
open Go.RowKit

theorem Row8.drop {w : World} {b off n : Nat} {l : List Int} (h : Row8 w (some ⟨b, off, none⟩) n l) (k m : Nat) (hk : k + m = n) : Row8 w (some ⟨b, off + k, none⟩) m (l.drop k) := by
  refine ⟨by rw [List.length_drop, h.1]; omega, by have := h.2.1; omega, h.2.2.1.drop' k, fun i hi => ?_⟩
  obtain ⟨b', off', e, hc⟩ := h.2.2.2 (k + i) (by omega)
  simp only [Option.some.injEq, Addr.mk.injEq, and_true] at e
  obtain ⟨rfl, rfl⟩ := e
  exact ⟨_, _, rfl, by rw [List.getElem?_drop, Nat.add_assoc]; exact hc⟩
theorem Row8.take {w : World} {b off n : Nat} {l : List Int} (h : Row8 w (some ⟨b, off, none⟩) n l) (m : Nat) (hm : m ≤ n) : Row8 w (some ⟨b, off, none⟩) m (l.take m) := by
  refine ⟨by rw [List.length_take, h.1]; omega, by have := h.2.1; omega, h.2.2.1.take' m, fun i hi => ?_⟩
  obtain ⟨b', off', e, hc⟩ := h.2.2.2 i (by omega)
  exact ⟨b', off', e, by rw [List.getElem?_take_of_lt hi]; exact hc⟩
/-- An entry's box is written. -/
abbrev put6 (W : World) (M : Nat) (a l b d h t : Int) : World := (((((W.setCell ⟨M, 0, none⟩ (.int .u32 a)).setCell ⟨M, 1, none⟩ (.int .i64 l)).setCell ⟨M, 2, none⟩ (.int .i64 b)).setCell ⟨M, 3, none⟩ (.int .i64 d)).setCell ⟨M, 4, none⟩ (.int .i64 h)).setCell ⟨M, 5, none⟩ (.int .u16 t)
theorem put6_E {W : World} {M : Nat} {p : Ent} (hh : E6 W M 0 p) (a l b d h t : Int) : E6 (put6 W M a l b d h t) M 0 ⟨a, l, b, d, h, t⟩ := by
  obtain ⟨a0, l0, b0, d0, h0, t0⟩ := p
  obtain ⟨c0, c1, c2, c3, c4, c5⟩ := hh.z
  refine ⟨?_, ?_, ?_, ?_, ?_, ?_⟩ <;> simp [go_sem, c0, c1, c2, c3, c4, c5]
theorem put6_b {w W : World} {B M : Nat} (hh : Below B w W) (hM : B ≤ M) (a l b d h t : Int) : Below B w (put6 W M a l b d h t) :=
  (((((hh.setCell (p := ⟨M, 0, none⟩) hM _).setCell (p := ⟨M, 1, none⟩) hM _).setCell (p := ⟨M, 2, none⟩) hM _).setCell (p := ⟨M, 3, none⟩) hM _).setCell (p := ⟨M, 4, none⟩) hM _).setCell (p := ⟨M, 5, none⟩) hM _
theorem ldE {W : World} {M : Nat} {a l b d h t : Int} (hh : E6 W M 0 ⟨a, l, b, d, h, t⟩) : Sem.run Try.prog (Instr.loadAt 44 (.pointer (some ⟨M, 0, none⟩))) W = .ok (valE a l b d h t) W := by
  obtain ⟨c0, c1, c2, c3, c4, c5⟩ := hh.z
  go_simp
theorem stE {W : World} {M : Nat} {p : Ent} (hh : E6 W M 0 p) (nf : ∀ o, W.frozen? ⟨M, o, none⟩ = false) (a l b d h t : Int) : Sem.run Try.prog (Instr.storeAt 44 (.pointer (some ⟨M, 0, none⟩)) (valE a l b d h t)) W = .ok () (put6 W M a l b d h t) := by
  obtain ⟨a0, l0, b0, d0, h0, t0⟩ := p
  obtain ⟨c0, c1, c2, c3, c4, c5⟩ := hh.z
  go_simp
theorem sl16 (W : World) (b off : Nat) : Sem.run Try.prog (Instr.sliceAt 27 (.slice (some ⟨b, off, none⟩) 20 20) (some (.int .i64 16)) none none) W = .ok (.slice (some ⟨b, off + 16, none⟩) 4 4) W := by
  go_simp
theorem res_twoE {fn : Func} {A : Act} {c s : Nat} {W : World} {M : Nat} {a l b d h t : Int} {v : Bool} (hr : fn.results = #[.cell c 44, .tmp s]) (hc : A.tmps[c]?.getD undef = .pointer (some ⟨M, 0, none⟩)) (hcs : s ≠ c) (hs : s < A.tmps.size) (hT : E6 W M 0 ⟨a, l, b, d, h, t⟩) :
    (results fn (A.put (some s) (.bool v)).tmps).run Try.prog W = .ok (.tuple #[valE a l b d h t, .bool v]) W := by
  obtain ⟨c0, c1, c2, c3, c4, c5⟩ := hT.z
  have h1 : (A.put (some s) (.bool v)).tmps[c]?.getD undef = .pointer (some ⟨M, 0, none⟩) := by
    unfold Act.put
    simp only [Array.getElem?_setIfInBounds_ne hcs]
    exact hc
  have h2 : (A.put (some s) (.bool v)).tmps[s]?.getD undef = .bool v := by
    unfold Act.put
    simp [hs]
  generalize (A.put (some s) (.bool v)).tmps = T at h1 h2 ⊢
  unfold results
  simp [hr, h1, h2, go_sem, c0, c1, c2, c3, c4, c5]
set_option maxHeartbeats 2000000 in
theorem decodeEntry_any (b off : Nat) (l : List Int) (w : World) (hr : Row8 w (some ⟨b, off, none⟩) 20 l) {v : Bool} (hv : (l.drop 16).all (· == 0) = v) {p : Ent} (hp : entOf l = p) :
    Calls Try.prog 25 #[.slice (some ⟨b, off, none⟩) 20 20] w fun e w' => e = .returned (.tuple #[valE p.a p.l p.b p.d p.h p.t, .bool v]) ∧ Below w.heap.size w w' := by
  subst hp
  unfold entOf
  simp only
  have HR : Hid (Row8 w (some ⟨b, off, none⟩) 20 l) := hr
  have HV : Hid ((l.drop 16).all (· == 0) = v) := hv
  have hB := hr.2.2.1
  obtain ⟨b', off', e, hc⟩ := hr.at' (by decide)
  simp only [Option.some.injEq, Addr.mk.injEq, and_true] at e
  obtain ⟨rfl, rfl⟩ := e
  have hbz : b < w.heap.size := block_lt_of_cell (hc 4 (by decide))
  have d4 := hc 4 (by decide)
  have d5 := hc 5 (by decide)
  have xb := hB.at 4
  have yb := hB.at 5
  unfold at8
  generalize l[4]?.getD 0 = x4 at d4 xb
  generalize l[5]?.getD 0 = x5 at d5 yb
  obtain ⟨ea, hea⟩ : ∃ x, getV l 0 4 = x := ⟨_, rfl⟩
  obtain ⟨et, het⟩ : ∃ x, getV l 6 2 = x := ⟨_, rfl⟩
  obtain ⟨eb, heb⟩ : ∃ x, getV l 8 4 = x := ⟨_, rfl⟩
  obtain ⟨ed, hed⟩ : ∃ x, getV l 12 4 = x := ⟨_, rfl⟩
  have bb := getV_bd hB 8 4
  have db := getV_bd hB 12 4
  rw [heb] at bb
  rw [hed] at db
  have bb1 : eb < 4294967296 := bb.2
  have db1 : ed < 4294967296 := db.2
  have HEA : Hid (getV l 0 4 = ea) := hea
  have HET : Hid (getV l 6 2 = et) := het
  have HEB : Hid (getV l 8 4 = eb) := heb
  have HED : Hid (getV l 12 4 = ed) := hed
  rw [hea, het, heb, hed]
  have w4 : IntKind.i64.wrap x4 = x4 := wrap_in (by omega) (by omega)
  have w5 : IntKind.i64.wrap x5 = x5 := wrap_in (by omega) (by omega)
  have wb : IntKind.i64.wrap eb = eb := wrap_in (by omega) (by omega)
  have wd : IntKind.i64.wrap ed = ed := wrap_in (by omega) (by omega)
  clear hea het heb hed bb db bb1 db1 xb yb hB hc hr hv
  go_enter Try.func25, Try.ntmps25
  go_wp2_with (first
    | (go_at_call_of 36 (Value.int IntKind.i64 0); refine (get32_yes _ _ _ l 0 _ (HR.out.later (below1 _ _)) (by decide) (by decide)).mono ?_; rw [HEA.out]; rintro e W_ ⟨rfl, rfl⟩)
    | (go_at_call_of 36 (Value.int IntKind.i64 8); refine (get32_yes _ _ _ l 8 _ (HR.out.later (below1 _ _)) (by decide) (by decide)).mono ?_; rw [HEB.out]; rintro e W_ ⟨rfl, rfl⟩)
    | (go_at_call_of 36 (Value.int IntKind.i64 12); refine (get32_yes _ _ _ l 12 _ (HR.out.later (below1 _ _)) (by decide) (by decide)).mono ?_; rw [HED.out]; rintro e W_ ⟨rfl, rfl⟩)
    | (go_at_call 38; refine (get16_yes _ _ _ l 6 _ (HR.out.later (below1 _ _)) (by decide) (by decide)).mono ?_; rw [HET.out]; rintro e W_ ⟨rfl, rfl⟩))
  obtain ⟨W1, hW1⟩ : ∃ W1, W1 = w.alloc (objE 0 0 0 0 0 0) := ⟨_, rfl⟩
  rw [← hW1]
  have F1 : Hid (E6 W1 w.heap.size 0 ⟨0, 0, 0, 0, 0, 0⟩) := by unfold Hid; rw [hW1]; exact E6.new w 0 0 0 0 0 0
  have B1 : Hid (Below w.heap.size w W1) := by unfold Hid; rw [hW1]; exact below1 _ _
  have HF1 : Hid (∀ o, W1.frozen? ⟨w.heap.size, o, none⟩ = false) := fun o => by rw [hW1]; simp [go_sem]
  have z1 : w.heap.size < W1.heap.size := by rw [hW1]; simp
  have q4 := cell_later B1.out d4
  have q5 := cell_later B1.out d5
  have hbV : b ≠ W1.heap.size := by omega
  have hbV2 : W1.heap.size ≠ b := by omega
  clear hW1 d4 d5
  go_region_held3 (fun w' => w'.cell? ⟨b, off + 4, none⟩ = some (.int .u8 x4) ∧ w'.cell? ⟨b, off + 5, none⟩ = some (.int .u8 x5)) (go_keep) (fail)
  all_goals
    go_wp2
    obtain ⟨M, hM⟩ : ∃ M, M = W1.heap.size := ⟨_, rfl⟩
    obtain ⟨W2, hW2⟩ : ∃ W2, W2 = (W1.alloc (objE ea x4 eb ed x5 et)).drew := ⟨_, rfl⟩
    rw [← hW2, ← hM]
    have E2 : Hid (E6 W2 M 0 ⟨ea, x4, eb, ed, x5, et⟩) := by unfold Hid; rw [hW2]; exact (E6.newAt W1 M hM ea x4 eb ed x5 et).later (Below.refl _ _).drew
    have G2 : Below W1.heap.size W1 W2 := by rw [hW2]; exact (below1 _ _).drew
    have F2 : Hid (E6 W2 w.heap.size 0 ⟨0, 0, 0, 0, 0, 0⟩) := F1.out.later G2
    have B2 : Hid (Below w.heap.size w W2) := stp B1.out G2
    have f2 : ∀ o, W2.frozen? ⟨w.heap.size, o, none⟩ = false := fun o => (G2.frozen (p := ⟨w.heap.size, o, none⟩) z1).trans (HF1.out o)
    have hRow : Hid (∀ W, Below w.heap.size w W → Row8 W (some ⟨b, off + 16, none⟩) 4 (l.drop 16)) := fun W hB => (HR.out.later hB).drop 16 4 rfl
    have z2 : w.heap.size < W2.heap.size := Nat.lt_of_lt_of_le z1 G2.size
    rename_i hHeld _ _
    clear hW2 hHeld G2 hM hbV hbV2 q4 q5 z1 HF1 F1 B1
    refine wp_region_S (relV [fun x => x = valE ea x4 eb ed x5 et, fun x => x = .slice (some ⟨b, off, none⟩) 20 20, fun x => x = .slice (some ⟨b, off + 16, none⟩) 4 4, fun x => x = .bool v]) (fun W => E6 W w.heap.size 0 ⟨ea, x4, eb, ed, x5, et⟩ ∧ Below w.heap.size w W) 4 5 (by kernel_rfl) (by kernel_rfl) (by kernel_rfl) ?_
    refine ⟨?_, ?_, ?_, ?_, ?_, ?_, trivial⟩
    · exact oblS_step (pre := true) rfl rfl (by kernel_rfl) (stepS rfl fun A W hf hd hb => sv_load 44 _ ⟨M, 0, none⟩ _ rfl (ev_tmp ((hf.2.2 12 (by kernel_rfl)).trans rfl)) (ldE (E2.out.later (hb.1 rfl))) rfl)
    · exact oblS_step (pre := false) rfl rfl (by kernel_rfl) (stepS rfl fun A W hf hd hb => sv_move (.tmp 0) _ rfl (ev_tmp ((hf.2.2 0 (by kernel_rfl)).trans rfl)) rfl)
    · exact oblS_step (pre := false) rfl rfl (by kernel_rfl) (stepS rfl fun A W hf hd hb => sv_slice 27 _ _ _ _ _ rfl (ev_tmp (depV hd 1 51 rfl rfl)) (ev_const _) (sl16 W b off) rfl)
    · exact oblS_step (pre := true) rfl rfl (by kernel_rfl) (stepS rfl fun A W hf hd hb => sv_call 37 _ _ #[.slice (some ⟨b, off + 16, none⟩) 4 4] rfl (by kernel_rfl) (by simp only [List.map_toArray, List.map_cons, List.map_nil, ev_tmp (depV hd 2 52 rfl rfl)]) ((noughts_any _ 4 _ (l.drop 16) _ (hRow.out W (stp B2.out (hb.1 rfl))) (by decide) HV.out).mono (by rintro e W' ⟨rfl, rfl⟩; exact ⟨_, rfl, rfl, rfl⟩)))
    · exact oblS_store rfl fun A W hf hd hb => sv_store 44 _ _ ⟨w.heap.size, 0, none⟩ _ _ rfl rfl (ev_tmp ((hf.2.2 2 (by kernel_rfl)).trans rfl)) (ev_tmp (depV hd 0 50 rfl rfl)) (stE (F2.out.later hb) (fun o => (hb.frozen (p := ⟨w.heap.size, o, none⟩) z2).trans (f2 o)) ea x4 eb ed x5 et) ⟨put6_E (F2.out.later hb) _ _ _ _ _ _, put6_b (stp B2.out hb) (Nat.le_refl _) _ _ _ _ _ _⟩
    · refine oblS_last fun A W hf hd hS => ?_
      refine sv_assign _ _ rfl (ev_tmp (depV2 hd 3 53 (by decide) rfl)) ?_
      go_wp2
      exact bodyPost_ret (res_twoE (c := 2) (s := 3) rfl ((hf.2.2 2 (by kernel_rfl)).trans rfl) (by decide) (by rw [hf.2.1]; exact (by decide : 3 < 54)) hS.1) hf.1 ⟨rfl, hS.2⟩
end Go.Proofs.Ytnlgdkbpolckcaa
