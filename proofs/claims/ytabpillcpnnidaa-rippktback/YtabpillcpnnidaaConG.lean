/- The contract of Decode. -/
import Derived.Test.YtabpillcpnnidaaConF
namespace Go.Proofs.Ytabpillcpnnidaa
open Go.RowKit

theorem jump_mono {l : Nat} {J J' : Act → World → Prop} {Q : Exit → Act → World → Prop} (h : ∀ a w, J a w → J' a w) : ∀ e a w, Exit.jump l J Q e a w → Exit.jump l J' Q e a w := by
  intro e a w
  cases e <;> intro hq <;> first | exact ⟨hq.1, h _ _ hq.2⟩ | exact hq
theorem whole_is {l : List Int} {x : Int} (hx : l[0]?.getD 0 = x) : isWhole l = ((x == 1) && decide (l.drop 4 = wholeL)) := by unfold isWhole; rw [hx]

set_option maxHeartbeats 1000000 in
theorem decode_long (b off n cap : Nat) (l : List Int) (w : World) (hr : Row8 w (some ⟨b, off, none⟩) n l) (hn : n ≤ 3000) (hc : n ≤ cap) (hf : framed l = true) (h25 : 25 < (n - 4) / 20) :
    Calls Try.prog 13 #[.slice (some ⟨b, off, none⟩) n cap] w (Decoded w (dec l)) := by
  rw [dec_long hf (by rw [hr.1]; omega)]
  have HR : Hid (Row8 w (some ⟨b, off, none⟩) n l) := hr
  obtain ⟨h4, hr20, hx12, -⟩ := framed_all hf
  rw [hr.1] at h4 hr20
  have c0 := hr.at (by omega)
  obtain ⟨b', off', e, hcell⟩ := c0
  simp only [Option.some.injEq, Addr.mk.injEq, and_true] at e
  obtain ⟨rfl, rfl⟩ := e
  have d := hcell 0 (by omega)
  rw [Nat.add_zero] at d
  obtain ⟨x, hx⟩ : ∃ x, l[0]?.getD 0 = x := ⟨_, rfl⟩
  rw [hx] at d hx12
  have HX : Hid (l[0]?.getD 0 = x) := hx
  have hx0 : 0 ≤ x := by omega
  have hx1 : x ≤ 2 := by omega
  have ex : IntKind.i64.wrap x = x := wrap_in (by omega) (by omega)
  have i0 : 0 < n := by omega
  have i1 : (4 : Int) ≤ (n : Int) := by omega
  have i2 : (n : Int) ≤ (cap : Int) := by omega
  clear hr hcell hx12 hx
  go_enter Try.func13, Try.ntmps13
  go_wp2
  go_step3
  go_wp2_with (go_at_call 24; refine (isFramed_any _ _ _ l _ (HR.out.later (below1 _ _)) hn hc hf).mono ?_; rintro e W1 ⟨rfl, hb⟩; obtain ⟨⟨d0, d1, d2, z⟩, fz⟩ := (zero3 w).later hb; have d' := cell_later (Below.out1 hb) d)
  go_region_held3 (fun w' => w'.cell? ⟨b, off, none⟩ = some (.int .u8 x)) (go_keep) (fail)
  obtain ⟨ra, hra⟩ : ∃ ra : Option Addr, ra = (if cap = 4 then some ⟨b, off, none⟩ else some ⟨b, off + 4, none⟩) := ⟨_, rfl⟩
  obtain ⟨m, hm⟩ : ∃ m, m = n - 4 := ⟨_, rfl⟩
  obtain ⟨cc, hcc⟩ : ∃ cc, cc = cap - 4 := ⟨_, rfl⟩
  obtain ⟨W2, hW2⟩ : ∃ W2, W2 = (W1.alloc (Obj.cells #[Value.int IntKind.i64 x, Value.bool false, Value.slice none 0 0] 24)).drew := ⟨_, rfl⟩
  rw [← hra, ← hm, ← hcc, ← hW2]
  have HS : Hid (Row8 w ra m (l.drop 4)) := by unfold Hid; rw [hra, hm]; exact HR.out.rest 4 cap h4 hc b off rfl
  have P0 : PF W2 w.heap.size 0 false none 0 0 := by rw [hW2]; exact ((zero3 w).later hb).later (below1 W1 _).drew
  have PN : PF W2 W1.heap.size x false none 0 0 := by rw [hW2]; exact (PF.new W1 x false none 0 0).later (Below.refl _ _).drew
  have hB : Below w.heap.size w W2 := by rw [hW2]; exact stp (Below.out1 hb) (below1 W1 _).drew
  have hm5 : m + 4 ≤ 3000 := by omega
  have hmc : m ≤ cc := by omega
  have HM : Hid (m + 4 = n) := by unfold Hid; omega
  have hM20 : m % 20 = 0 := by omega
  have h500 : (500 : Int) < (m : Int) := by omega
  clear hra hm hcc hW2 hb d0 d1 d2 fz d' d ex i0 i1 i2 h4 hr20 hn hc
  clear h25
  have HP : Hid (P3 W2 w.heap.size 0 false none 0 0) := P0.1
  obtain ⟨⟨p0, p1, p2, pz⟩, pf⟩ := P0
  go_wp2
  rw [Exit.noGoto_ret]
  exact fin13 (p := ⟨0, false, [], 9⟩) HP.out hB rfl rfl rfl (rowE_none _)

set_option maxHeartbeats 2000000 in
theorem decode_whole (b off n cap : Nat) (l : List Int) (w : World) (hr : Row8 w (some ⟨b, off, none⟩) n l) (hn : n ≤ 3000) (hc : n ≤ cap) (hf : framed l = true) (h25 : ¬ 25 < (n - 4) / 20) (hw : isWhole l = true) :
    Calls Try.prog 13 #[.slice (some ⟨b, off, none⟩) n cap] w (Decoded w (dec l)) := by
  rw [dec_wh hf (by rw [hr.1]; omega) hw]
  have HR : Hid (Row8 w (some ⟨b, off, none⟩) n l) := hr
  obtain ⟨h4, hr20, hx12, -⟩ := framed_all hf
  rw [hr.1] at h4 hr20
  have c0 := hr.at (by omega)
  obtain ⟨b', off', e, hcell⟩ := c0
  simp only [Option.some.injEq, Addr.mk.injEq, and_true] at e
  obtain ⟨rfl, rfl⟩ := e
  have d := hcell 0 (by omega)
  rw [Nat.add_zero] at d
  obtain ⟨x, hx⟩ : ∃ x, l[0]?.getD 0 = x := ⟨_, rfl⟩
  rw [hx] at d hx12
  have HX : Hid (l[0]?.getD 0 = x) := hx
  have hx0 : 0 ≤ x := by omega
  have hx1 : x ≤ 2 := by omega
  have ex : IntKind.i64.wrap x = x := wrap_in (by omega) (by omega)
  have i0 : 0 < n := by omega
  have i1 : (4 : Int) ≤ (n : Int) := by omega
  have i2 : (n : Int) ≤ (cap : Int) := by omega
  rw [whole_is hx] at hw
  simp only [Bool.and_eq_true, beq_iff_eq] at hw
  obtain ⟨rfl, hwe⟩ := hw
  clear hr hcell hx12 hx
  go_enter Try.func13, Try.ntmps13
  go_wp2
  go_step3
  go_wp2_with (go_at_call 24; refine (isFramed_any _ _ _ l _ (HR.out.later (below1 _ _)) hn hc hf).mono ?_; rintro e W1 ⟨rfl, hb⟩; obtain ⟨⟨d0, d1, d2, z⟩, fz⟩ := (zero3 w).later hb; have d' := cell_later (Below.out1 hb) d)
  go_region_held3 (fun w' => w'.cell? ⟨b, off, none⟩ = some (.int .u8 1)) (go_keep) (fail)
  obtain ⟨ra, hra⟩ : ∃ ra : Option Addr, ra = (if cap = 4 then some ⟨b, off, none⟩ else some ⟨b, off + 4, none⟩) := ⟨_, rfl⟩
  obtain ⟨m, hm⟩ : ∃ m, m = n - 4 := ⟨_, rfl⟩
  obtain ⟨cc, hcc⟩ : ∃ cc, cc = cap - 4 := ⟨_, rfl⟩
  obtain ⟨W2, hW2⟩ : ∃ W2, W2 = (W1.alloc (Obj.cells #[Value.int IntKind.i64 1, Value.bool false, Value.slice none 0 0] 24)).drew := ⟨_, rfl⟩
  rw [← hra, ← hm, ← hcc, ← hW2]
  have HS : Hid (Row8 w ra m (l.drop 4)) := by unfold Hid; rw [hra, hm]; exact HR.out.rest 4 cap h4 hc b off rfl
  have P0 : PF W2 w.heap.size 0 false none 0 0 := by rw [hW2]; exact ((zero3 w).later hb).later (below1 W1 _).drew
  have PN : PF W2 W1.heap.size 1 false none 0 0 := by rw [hW2]; exact (PF.new W1 1 false none 0 0).later (Below.refl _ _).drew
  have hB : Below w.heap.size w W2 := by rw [hW2]; exact stp (Below.out1 hb) (below1 W1 _).drew
  have hm5 : m + 4 ≤ 3000 := by omega
  have hmc : m ≤ cc := by omega
  have HM : Hid (m + 4 = n) := by unfold Hid; omega
  have hM20 : m % 20 = 0 := by omega
  have h500 : ¬ (500 : Int) < (m : Int) := by omega
  clear hra hm hcc hW2 hb d0 d1 d2 fz d' d ex i0 i1 i2 h4 hr20 hn hc
  clear h25
  have HP : Hid (PF W2 w.heap.size 0 false none 0 0) := P0
  have HN : Hid (PF W2 W1.heap.size 1 false none 0 0) := PN
  obtain ⟨⟨p0, p1, p2, pz⟩, pf⟩ := P0
  obtain ⟨⟨q0, q1, q2, qz⟩, qf⟩ := PN
  go_wp2_with (first
    | (go_at_call 18; refine (wholeEntry_any _).mono ?_; rintro e W3 ⟨a3, c3, rfl, own3, hb3⟩; obtain ⟨⟨p0, p1, p2, pz⟩, pf⟩ := HP.out.later hb3; obtain ⟨⟨q0, q1, q2, qz⟩, qf⟩ := HN.out.later hb3; have hB3 := stp hB hb3)
    | (go_at_call 25; refine (equal_any _ _ _ _ _ _ (l.drop 4) wholeL _ (HS.out.later hB3) (own3.row whole_bytes (by omega)) hwe).mono ?_; rintro e w' ⟨rfl, rfl⟩))
  rw [Exit.noGoto_ret]
  exact fin13 (p := ⟨1, true, [], 0⟩) ((HP.out.later hb3).far (by omega)).1 (hB3.setCell (by show w.heap.size ≤ W1.heap.size; omega) _) rfl rfl rfl (rowE_none _)

set_option maxHeartbeats 2000000 in
theorem decode_run (b off n cap : Nat) (l : List Int) (w : World) (hr : Row8 w (some ⟨b, off, none⟩) n l) (hn : n ≤ 3000) (hc : n ≤ cap) (hf : framed l = true) (h25 : ¬ 25 < (n - 4) / 20) (hw : isWhole l = false) :
    Calls Try.prog 13 #[.slice (some ⟨b, off, none⟩) n cap] w (Decoded w (dec l)) := by
  have HR : Hid (Row8 w (some ⟨b, off, none⟩) n l) := hr
  obtain ⟨h4, hr20, hx12, -⟩ := framed_all hf
  rw [hr.1] at h4 hr20
  have c0 := hr.at (by omega)
  obtain ⟨b', off', e, hcell⟩ := c0
  simp only [Option.some.injEq, Addr.mk.injEq, and_true] at e
  obtain ⟨rfl, rfl⟩ := e
  have d := hcell 0 (by omega)
  rw [Nat.add_zero] at d
  obtain ⟨x, hx⟩ : ∃ x, l[0]?.getD 0 = x := ⟨_, rfl⟩
  rw [hx] at d hx12
  have HX : Hid (l[0]?.getD 0 = x) := hx
  have hx0 : 0 ≤ x := by omega
  have hx1 : x ≤ 2 := by omega
  have ex : IntKind.i64.wrap x = x := wrap_in (by omega) (by omega)
  have i0 : 0 < n := by omega
  have i1 : (4 : Int) ≤ (n : Int) := by omega
  have i2 : (n : Int) ≤ (cap : Int) := by omega
  have hw2 := hw
  rw [whole_is hx] at hw2
  obtain ⟨r, hr25⟩ : ∃ r, r = (n - 4) / 20 := ⟨_, rfl⟩
  have HL : Hid (l.length = 4 + 20 * r) := by unfold Hid; rw [hr.1]; omega
  have HW : Hid (isWhole l = false) := hw
  have HR25 : Hid (r ≤ 25) := by unfold Hid; omega
  have key : (x == 1) = false ∨ ((x == 1) = true ∧ decide (l.drop 4 = wholeL) = false) := by
    cases h : (x == 1)
    · exact .inl rfl
    · rw [h] at hw2; exact .inr ⟨rfl, by simpa using hw2⟩
  clear hr hcell hx12 hx hw hw2
  rcases key with k1 | ⟨k1, k2⟩
  all_goals
    go_enter Try.func13, Try.ntmps13
    go_wp2
    refine wp_scope_jumps 0 (fun a' W => ∃ N, w.heap.size < N ∧ DJ w N x l r a' W) (fun a' _ => lenV (a'.tmps.getD 5 undef)) rfl ?_ ?_
    rotate_left
    · rintro a' W' ⟨N, hN, hJ⟩
      exact wp_seq (wp_skip (wp_mono (pass13 w N x l r HL.out hN HR25.out HX.out hf HW.out a' W' hJ) (jump_mono fun a w h => ⟨⟨N, hN, h.1⟩, h.2⟩)))
    go_wp2_with (go_at_call 24; refine (isFramed_any _ _ _ l _ (HR.out.later (below1 _ _)) hn hc hf).mono ?_; rintro e W1 ⟨rfl, hb⟩; obtain ⟨⟨d0, d1, d2, z⟩, fz⟩ := (zero3 w).later hb; have d' := cell_later (Below.out1 hb) d)
    go_region_held3 (fun w' => w'.cell? ⟨b, off, none⟩ = some (.int .u8 x)) (go_keep) (fail)
    obtain ⟨ra, hra⟩ : ∃ ra : Option Addr, ra = (if cap = 4 then some ⟨b, off, none⟩ else some ⟨b, off + 4, none⟩) := ⟨_, rfl⟩
    obtain ⟨m, hm⟩ : ∃ m, m = n - 4 := ⟨_, rfl⟩
    obtain ⟨cc, hcc⟩ : ∃ cc, cc = cap - 4 := ⟨_, rfl⟩
    obtain ⟨W2, hW2⟩ : ∃ W2, W2 = (W1.alloc (Obj.cells #[Value.int IntKind.i64 x, Value.bool false, Value.slice none 0 0] 24)).drew := ⟨_, rfl⟩
    rw [← hra, ← hm, ← hcc, ← hW2]
    have HS : Hid (Row8 w ra m (l.drop 4)) := by unfold Hid; rw [hra, hm]; exact HR.out.rest 4 cap h4 hc b off rfl
    have P0 : PF W2 w.heap.size 0 false none 0 0 := by rw [hW2]; exact ((zero3 w).later hb).later (below1 W1 _).drew
    have PN : PF W2 W1.heap.size x false none 0 0 := by rw [hW2]; exact (PF.new W1 x false none 0 0).later (Below.refl _ _).drew
    have hB : Below w.heap.size w W2 := by rw [hW2]; exact stp (Below.out1 hb) (below1 W1 _).drew
    have hm5 : m + 4 ≤ 3000 := by omega
    have hmc : m ≤ cc := by omega
    have HM : Hid (m + 4 = n) := by unfold Hid; omega
    have hM20 : m % 20 = 0 := by omega
    have h500 : ¬ (500 : Int) < (m : Int) := by omega
    have hmr : m = 20 * r := by omega
    have HMR : Hid (m = 20 * r) := hmr
    clear hmr hr25
    clear hra hm hcc hW2 hb d0 d1 d2 fz d' d ex i0 i1 i2 h4 hr20 hn hc
    clear h25
    have HP : Hid (PF W2 w.heap.size 0 false none 0 0) := P0
    have HN : Hid (PF W2 W1.heap.size x false none 0 0) := PN
    obtain ⟨⟨p0, p1, p2, pz⟩, pf⟩ := P0
    obtain ⟨⟨q0, q1, q2, qz⟩, qf⟩ := PN
    go_wp2_with (first
      | (go_at_call 18; refine (wholeEntry_any _).mono ?_; rintro e W3 ⟨a3, c3, rfl, own3, hb3⟩; have hB := stp hB hb3; have HP : Hid (PF W3 w.heap.size 0 false none 0 0) := HP.out.later hb3; have HN : Hid (PF W3 W1.heap.size x false none 0 0) := HN.out.later hb3)
      | (go_at_call 25; refine (equal_any _ _ _ _ _ _ (l.drop 4) wholeL _ (HS.out.later hB) (own3.row whole_bytes (by omega)) k2).mono ?_; rintro e w' ⟨rfl, rfl⟩))
    go_step3
    rename_i K hK
    refine hK _ _ (wp_mono (pass13 w W1.heap.size x l r HL.out z HR25.out HX.out hf HW.out _ _ ?_) (jump_mono fun a w h => ⟨_, z, h.1⟩))
    exact ⟨0, r, m, cc, ra, none, 0, [], _, _, _, _, _, _, _, _, _, _, _, _, _, _, _, _, _, _, _, _, _, _, _, _, _, _, _, _, _, _, _, _, _, _, _, _, _, _, _, _, _, _, _, _, _, _, _, _, _, _, rfl, by omega, HMR.out, hmc, HS.out, HP.out, HN.out, ownE_nil _ _, (fun _ h => by cases h), by simp, hB⟩

theorem decode_any (a : Option Addr) (n cap : Nat) (l : List Int) (w : World) (hr : Row8 w a n l) (hn : n ≤ 3000) (hc : n ≤ cap) :
    Calls Try.prog 13 #[.slice a n cap] w (Decoded w (dec l)) := by
  cases hf : framed l
  · exact decode_bad a n cap l w hr hn hc hf
  · have h4 := (framed_all hf).1
    rw [hr.1] at h4
    obtain ⟨b, off, rfl, -⟩ := hr.at (by omega)
    by_cases h25 : 25 < (n - 4) / 20
    · exact decode_long b off n cap l w hr hn hc hf h25
    · cases hw : isWhole l
      · exact decode_run b off n cap l w hr hn hc hf h25 hw
      · exact decode_whole b off n cap l w hr hn hc hf h25 hw
end Go.Proofs.Ytabpillcpnnidaa
