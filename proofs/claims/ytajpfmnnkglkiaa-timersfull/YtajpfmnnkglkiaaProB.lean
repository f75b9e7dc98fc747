/- The program's timers: the contracts of Set and Next. -/
import Derived.Test.YtajpfmnnkglkiaaProA
namespace Go.Proofs.Ytajpfmnnkglkiaa
open Go.RowKit Go.Maps

section
variable {N b : Nat} {L : List Tm} {m : Nat}
theorem setTX_arg {i a : Int} (h : a < 0 ∨ 1099511627776 < a) : setTX L i a = 1 := by unfold setTX; rw [if_pos h]
theorem setTX_old {i a : Int} (h0 : 0 ≤ a) (h1 : a ≤ 1099511627776) (h : hasI i L = true) : setTX L i a = 0 := by unfold setTX; rw [if_neg (by omega), if_pos h]
theorem setTX_full {i a : Int} (h0 : 0 ≤ a) (h1 : a ≤ 1099511627776) (h : hasI i L = false) (hl : 256 ≤ L.length) : setTX L i a = 4 := by unfold setTX; rw [if_neg (by omega), if_neg (by simp [h]), if_pos hl]
theorem setTX_new {i a : Int} (h0 : 0 ≤ a) (h1 : a ≤ 1099511627776) (h : hasI i L = false) (hl : ¬ 256 ≤ L.length) : setTX L i a = 0 := by unfold setTX; rw [if_neg (by omega), if_neg (by simp [h]), if_neg hl]
theorem setT_no {i a x : Int} (h : setTX L i a = x) (hx : x ≠ 0) : setT L i a = L := setT_same (by rw [h]; exact hx)
theorem Tmr.stored {w w1 : World} {D : DataW Unit} (h : Tmr w N b L m) (hr : Rd D L) (hown : w.ownsMap Try.prog 3 (plainElem Try.prog 3) b L.length D) {i a : Int} {n : Nat} (hown1 : w1.ownsMap Try.prog 3 (plainElem Try.prog 3) b n (D.put (.int .i64 i) (.lit (.int .i64 a)))) (ht : w.mapTurned w1 b) (hx : setTX L i a = 0) (hz : -9223372036854775808 ≤ i ∧ i ≤ 9223372036854775807) :
    Tmr w1 N b (setT L i a) (m + 1) ∧ Keep (fun k => k = N ∨ k = b) w w1 :=
  ⟨h.turned ht.grown (mapT_of hown1 (hr.put (hown.tidy lawI) h.gd hx)) (goodT_set h.gd hz) (setT_le L i a) (setT_256 h.gd h.ll i a), keep_turned ht⟩
set_option maxRecDepth 100000 in
set_option maxHeartbeats 2000000 in
theorem set_any (i a : Int) (w : World) (h : Tmr w N b L m) (hk : Tm.Ok ⟨i, a⟩) :
    Calls Try.prog 10 #[.pointer (some ⟨N, 0, none⟩), .int .i64 i, .int .i64 a] w fun e w' => e = .returned (.int .i64 (setTX L i a)) ∧ Tmr w' N b (setT L i a) (m + 1) ∧ Keep (fun k => k = N ∨ k = b) w w' := by
  have HT : Hid (Tmr w N b L m) := h
  obtain ⟨D, hown, hr⟩ := h.mp
  have HR : Hid (Rd D L) := hr
  have hz : -9223372036854775808 ≤ i ∧ i ≤ 9223372036854775807 := ⟨hk.i0, hk.i1⟩
  have HZ : Hid (-9223372036854775808 ≤ i ∧ i ≤ 9223372036854775807) := hz
  have hkey := keyOf_int_mk Try.underlying3 (a := i) (WalkArith.wf_i64 hz)
  have hwa : (Lit.int .i64 a).wf = true := WalkArith.wf_i64 ⟨hk.a0, hk.a1⟩
  have c0 := h.c0
  have hh : Maps.has D (.int .i64 i) = hasI i L := hr.has i
  have hs := hr.size
  have hrun := fun ty => hown.len (t := 48) (e := 3) Try.underlying48 ty
  rw [hs] at hrun
  clear h hr hz hk hs
  by_cases h0 : a < 0
  · have hx := setTX_arg (L := L) (i := i) (.inl h0)
    rw [hx, setT_no hx (by decide)]
    clear hx hh hrun
    go_enter Try.func10, Try.ntmps10
    go_wp2
    go_ret
    exact ⟨rfl, HT.out.up, Keep.refl _ _⟩
  by_cases h1 : 1099511627776 < a
  · have hx := setTX_arg (L := L) (i := i) (.inr h1)
    rw [hx, setT_no hx (by decide)]
    clear hx hh hrun
    go_enter Try.func10, Try.ntmps10
    go_wp2
    go_ret
    exact ⟨rfl, HT.out.up, Keep.refl _ _⟩
  by_cases hi : hasI i L = true
  · have HX : Hid (setTX L i a = 0) := setTX_old (by omega) (by omega) hi
    rw [hi] at hh
    rw [HX.out]
    clear hi hrun
    go_enter Try.func10, Try.ntmps10
    go_wp2_with (first
      | (at_lookup; refine wpList_lookup_own_ok_int _ rfl _ _ 48 rfl 3 3 .i64 lawI Try.underlying48 Try.underlying3 (zeroI _) b _ D rfl hown _ _ rfl hkey ?_; intro c hat hwc; clear hat hwc)
      | (at_mapUpdate; refine wpList_mapUpdate_in _ rfl _ _ _ 48 rfl 3 3 lawI Try.underlying48 _ b _ D rfl hown (by have := HT.out.ll; unfold maxLen; omega) _ _ _ rfl rfl hkey _ [] (plainElem_int Try.underlying3 hwa) ?_; intro w1 hown1 hturn1)
      | go_in)
    go_ret
    exact ⟨rfl, HT.out.stored HR.out hown hown1 hturn1 HX.out HZ.out⟩
  have hi : hasI i L = false := by simpa using hi
  rw [hi] at hh
  by_cases hl : 256 ≤ L.length
  · have hx := setTX_full (a := a) (by omega) (by omega) hi hl
    rw [hx, setT_no hx (by decide)]
    obtain ⟨l, hL⟩ : ∃ l, L.length = l := ⟨_, rfl⟩
    rw [hL] at hrun hl hown
    clear hx hi hL
    go_enter Try.func10, Try.ntmps10
    go_wp2_with (first
      | (at_lookup; refine wpList_lookup_own_ok_int _ rfl _ _ 48 rfl 3 3 .i64 lawI Try.underlying48 Try.underlying3 (zeroI _) b _ D rfl hown _ _ rfl hkey ?_; intro c hat hwc; clear hat hwc)
      | go_in)
    go_ret
    exact ⟨rfl, HT.out.up, Keep.refl _ _⟩
  · have HX : Hid (setTX L i a = 0) := setTX_new (by omega) (by omega) hi hl
    rw [HX.out]
    have HL : Hid (w.ownsMap Try.prog 3 (plainElem Try.prog 3) b L.length D) := hown
    obtain ⟨l, hL⟩ : ∃ l, L.length = l := ⟨_, rfl⟩
    rw [hL] at hrun hl hown
    clear hi hL
    go_enter Try.func10, Try.ntmps10
    go_wp2_with (first
      | (at_lookup; refine wpList_lookup_own_ok_int _ rfl _ _ 48 rfl 3 3 .i64 lawI Try.underlying48 Try.underlying3 (zeroI _) b _ D rfl hown _ _ rfl hkey ?_; intro c hat hwc; clear hat hwc)
      | (at_mapUpdate; refine wpList_mapUpdate_in _ rfl _ _ _ 48 rfl 3 3 lawI Try.underlying48 _ b _ D rfl hown (by unfold maxLen; omega) _ _ _ rfl rfl hkey _ [] (plainElem_int Try.underlying3 hwa) ?_; intro w1 hown1 hturn1)
      | go_in)
    go_ret
    exact ⟨rfl, HT.out.stored HR.out HL.out hown1 hturn1 HX.out HZ.out⟩
theorem and_l {a b : Bool} (h : (a && b) = true) : a = true := by cases a <;> simp_all
theorem LeastT.old {left' : Lit → Bool} {v c : Int} (h : LeastT left' L (min v c)) (hv : v ≤ c) : LeastT left' L v := by rwa [Int.min_eq_left hv] at h
theorem LeastT.new {left' : Lit → Bool} {v c : Int} (h : LeastT left' L (min v c)) (hv : ¬ v ≤ c) : LeastT left' L c := by rwa [Int.min_eq_right (by omega)] at h
set_option maxRecDepth 100000 in
set_option maxHeartbeats 2000000 in
theorem next_any (w : World) (h : Tmr w N b L m) :
    Calls Try.prog 17 #[.pointer (some ⟨N, 0, none⟩)] w fun e w' => e = .returned (.tuple #[.int .i64 (nextT L), .bool (nextB L)]) ∧ Below w.heap.size w w' := by
  have HG : Hid (GoodT L) := h.gd
  obtain ⟨D, hown, hr⟩ := h.mp
  have HR : Hid (Rd D L) := hr
  have c0 := h.c0
  have hs := hr.size
  have hNl := h.lt
  have hrun := fun ty => hown.len (t := 48) (e := 3) Try.underlying48 ty
  rw [hs] at hrun
  have HC : Hid (∀ w', Below w.heap.size w w' → w'.cell? ⟨N, 0, none⟩ = some (.map (some b))) := fun w' hb => cell_later hb c0
  clear h hr hs
  by_cases hl : L.length = 0
  · obtain ⟨e1, e2⟩ := next_none hl
    rw [e1, e2]
    rw [hl] at hrun
    clear e1 e2 hl
    go_enter Try.func17, Try.ntmps17
    go_wp2
    go_ret2
    exact ⟨rfl, Below.refl _ _⟩
  · have HL : Hid (0 < L.length) := Nat.pos_of_ne_zero hl
    obtain ⟨l, hL⟩ : ∃ l, L.length = l := ⟨_, rfl⟩
    rw [hL] at hrun hl hown
    clear hL
    have hl2 : ((l : Int) == 0) = false := by simp; omega
    obtain ⟨v0, v1, HV⟩ : ∃ (v0 : Int) (v1 : Bool), Hid (nextT L = v0 ∧ nextB L = v1) := ⟨_, _, rfl, rfl⟩
    rw [HV.out.1, HV.out.2]
    go_enter Try.func17, Try.ntmps17
    go_wp2_with (first
      | (at_range; refine wpList_range_own _ rfl _ 48 rfl 3 3 lawI Try.underlying48 _ b _ D rfl hown ?_; intro w0 hrg0 hg0 hs0)
      | go_in)
    go_frame
    go_loopw [4] (fun v_ wr => ∃ (left : Lit → Bool) (cnt : Nat) (v : Int), v_ = .int .i64 v ∧ Hid (LeastT left L v) ∧ Hid (∀ kl, left kl = true → Maps.has D kl = true) ∧ wr.ranges Try.prog 3 (plainElem Try.prog 3) b w.heap.size l D left cnt ∧ Hid (Below w.heap.size w wr)) (fun _ wr => wr.rangeLeft b w.heap.size)
    case atStart => exact ⟨_, _, _, rfl, least_start (fun p hp => (HR.out.has p.i).trans (hasI_iff.2 ⟨p, hp, rfl⟩)), fun _ h => h, hrg0, ⟨hg0.os, hg0.tape, hg0.output, hg0.size, fun i hi => hg0.block i hi (by simp)⟩⟩
    case round =>
      obtain ⟨left, cnt, v, rfl, HM, HF, hrg, HB⟩ := hrel
      go_wp2_with (first
        | (at_next; refine wpList_next_ranges_ii _ rfl _ rfl 3 3 .i64 .i64 lawI Try.underlying3 Try.underlying3 b w.heap.size l _ _ _ rfl hrg ?_ ?_)
        | go_in)
      · intro _ hl0
        have H0 : Hid (∀ kl, left kl = false) := hl0
        clear hl0
        go_wp2
        go_ret2
        obtain ⟨e1, e2⟩ := HM.out.done HG.out HL.out H0.out
        exact ⟨by rw [← HV.out.1, ← HV.out.2, e1, e2]; rfl, HB.out⟩
      · intro x c w1 cnt1 hwx hwc hlx hat hrg1 hlt hg1 hs1 hen
        have HE : Hid ((⟨x, c⟩ : Tm) ∈ L) := HR.out.entry (HF.out _ hlx) hat
        have HB1 : Hid (Below w.heap.size w w1) := HB.out.grown hg1 HB.out.size (fun j hj => by cases hj; exact Nat.le_refl _)
        have HFX : Hid (left (.int .i64 x) = true) := hlx
        have HM1 : Hid (LeastT (fun z => left z && !z.sameKey (.int .i64 x)) L (min v c)) := HM.out.step HG.out.u HE.out
        clear hat hlx hwx hwc hs1 HM
        have HQ : Hid (w1.rangeLeft b w.heap.size < wr.rangeLeft b w.heap.size) := by
          show _ < _
          rw [hrg1.left_eq, hrg.left_eq]; exact hlt
        by_cases hvc : v ≤ c
        · have HN : Hid (LeastT (fun z => left z && !z.sameKey (.int .i64 x)) L v) := HM1.out.old hvc
          clear HM1
          go_wp2
          go_roundw
          case rel => exact ⟨fun z => left z && !z.sameKey (.int .i64 x), cnt1, v, rfl, HN.out, fun kl h => HF.out kl (and_l h), hrg1, HB1.out⟩
          case measure => exact HQ.out
        · have HN : Hid (LeastT (fun z => left z && !z.sameKey (.int .i64 x)) L c) := HM1.out.new hvc
          clear HM1
          go_wp2
          go_roundw
          case rel => exact ⟨fun z => left z && !z.sameKey (.int .i64 x), cnt1, c, by rw [if_pos (by omega)], HN.out, fun kl h => HF.out kl (and_l h), hrg1, HB1.out⟩
          case measure => exact HQ.out
end
end Go.Proofs.Ytajpfmnnkglkiaa
