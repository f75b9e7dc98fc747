/- The program's timers: the contract of Due, over what is asked of the sort. -/
import Derived.Test.YtajpfmnnkglkiaaProE
namespace Go.Proofs.Ytajpfmnnkglkiaa
open Go.RowKit Go.Maps

section
variable {N b m : Nat} {L : List Tm} {B : Nat → Prop}
set_option maxRecDepth 100000 in
set_option maxHeartbeats 4000000 in
theorem due_any (hS : SortC) (now : Int) (w : World) (h : Tmr w N b L m) (hB : ∀ k, B k ↔ k = N ∨ k = b) :
    Calls Try.prog 15 #[.pointer (some ⟨N, 0, none⟩), .int .i64 now] w (DueK TM w B ⟨N, 0, none⟩ L (m + 1) now) := by
  have HS : Hid SortC := hS
  have HT : Hid (Tmr w N b L m) := h
  have HB : Hid (∀ k, B k ↔ k = N ∨ k = b) := hB
  have HU : Hid (L.Pairwise fun x y => x.i ≠ y.i) := h.gd.u
  have HM : Hid (Tms L) := tms_of h.gd
  have HBL : Hid (b < w.heap.size ∧ L.length ≤ 256) := ⟨h.mp.lt, h.ll⟩
  obtain ⟨D0, hown, hr⟩ := h.mp
  have HR : Hid (Rd D0 L) := hr
  have c0 := h.c0
  have HC : Hid (∀ w', w.grownBy w' (some b) → w'.cell? ⟨N, 0, none⟩ = some (.map (some b))) := fun w' hg => (World.cell?_of_block (w := w) (hg.block N h.lt fun e => h.nb (by simpa using e))).trans c0
  obtain ⟨R, hRr⟩ : ∃ R, DueK TM w B ⟨N, 0, none⟩ L (m + 1) now = R := ⟨_, rfl⟩
  have HRR : Hid (DueK TM w B ⟨N, 0, none⟩ L (m + 1) now = R) := hRr
  rw [hRr]
  clear hRr hS h hB hr
  go_enter Try.func15, Try.ntmps15
  go_wp2_with (first
    | (at_range; refine wpList_range_own _ rfl _ 48 rfl 3 3 lawI Try.underlying48 _ b _ D0 rfl hown ?_; intro w0 hrg0 hg0 hs0)
    | go_in)
  go_frame
  go_loopw [5] (fun v_ wr => ∃ (left : Lit → Bool) (cnt : Nat) (D : DataW Unit) (M : List Tm) (ad : Option Addr) (n cap : Nat), v_ = .slice ad n cap ∧ Hid (n = M.length) ∧ Hid (DueR w wr b now L left cnt D M (.slice ad n cap))) (fun _ wr => wr.rangeLeft b w.heap.size)
  case atStart => exact ⟨_, _, _, [], none, 0, 0, rfl, rfl, DueR.start hrg0 HR.out hg0⟩
  case round =>
    obtain ⟨left, cnt, D, M, ad, n, cap, rfl, HN, HD⟩ := hrel
    have hrg := HD.out.rg
    have HQ : Hid (wr.rangeLeft b w.heap.size = cnt) := hrg.left_eq
    go_wp2_with (first
      | (at_next; refine wpList_next_ranges_ii _ rfl _ rfl 3 3 .i64 .i64 lawI Try.underlying3 Try.underlying3 b w.heap.size _ _ _ _ rfl hrg ?_ ?_)
      | go_in)
    · intro _ hl0
      have H0 : Hid (∀ kl, left kl = false) := hl0
      have HO : Hid (OwnT wr (w.heap.size + 1) (.slice ad n cap) n M) := HN.out ▸ HD.out.own
      have HNL : Hid (n ≤ 100000) := by have := HD.out.ln; have := HN.out; have := HBL.out.2; show n ≤ 100000; omega
      clear hl0 hrg
      go_wp2_with (go_at_call 19; refine (HS.out _ _ _ _ _ _ HO.out HNL.out).mono ?_; rintro e wf ⟨rfl, own, hk⟩)
      rw [← HRR.out]
      exact HD.out.done HT.out HB.out H0.out own hk
    · intro x c w1 cnt1 hwx hwc hlx hat hrg1 hlt hg1 hs1 hen
      have HE : Hid ((⟨x, c⟩ : Tm) ∈ L) := HD.out.entry hat
      have HLX : Hid (left (.int .i64 x) = true) := hlx
      have HLT : Hid (cnt1 < cnt) := hlt
      have HG1 : Hid (wr.grownBy w1 (some w.heap.size)) := hg1
      have HW1 : Hid (w.grownBy w1 (some b)) := HD.out.gr1 hg1
      have HO : Hid (OwnT w1 (w.heap.size + 1) (.slice ad n cap) n M) := HN.out ▸ HD.out.own1 hg1
      have HSZ : Hid (w.heap.size + 1 ≤ w1.heap.size) := Nat.succ_le_of_lt hrg1.lt
      have HK : Hid (keyOf Try.prog 3 (.int .i64 x) = some (.int .i64 x)) := keyOf_int_mk Try.underlying3 hwx
      have HRG : Hid (w1.ranges Try.prog 3 (plainElem Try.prog 3) b w.heap.size L.length D (fun z => left z && !z.sameKey (kI x)) cnt1) := hrg1
      have HNL : Hid (n + 1 ≤ 100000) := by have := HD.out.ln; have := HN.out; have := HBL.out.2; show n + 1 ≤ 100000; omega
      clear hat hlx hwx hwc hs1 hrg hlt hg1 hrg1
      by_cases hcn : c ≤ now
      · go_wp2_with (first
          | (at_builtin; refine wpList_appT _ rfl _ _ 27 rfl (w.heap.size + 1) Try.underlying27 infoT _ n M rfl (HO.out.later (below1 _ _)) _ 1 1 [⟨x, c⟩] rfl (rowT_one (T2.newAt _ _ rfl x c) rfl (HM.out _ HE.out)) (n + 1) rfl (M ++ [⟨x, c⟩]) rfl HNL.out (by simpa using Nat.le_succ_of_le HSZ.out) ?_; intro a5 c5 W5 own5 hb5; have HO5 : Hid (OwnT W5 (w.heap.size + 1) (.slice a5 (n + 1) c5) (n + 1) (M ++ [⟨x, c⟩])) := own5; have HB5 : Hid (Below (w.heap.size + 1) w1 W5) := ((below1 w1 _).mono HSZ.out).trans hb5; have HG5 : Hid (w.grownBy W5 (some b)) := grown_below HW1.out HB5.out (Nat.le_succ _); have c05 := HC.out _ HG5.out; have HR5 := ranges_same HRG.out (HB5.out.block b (Nat.lt_succ_of_lt HBL.out.1)) (HB5.out.block _ (Nat.lt_succ_self _)); clear own5 hb5)
          | (at_delete; refine wpList_delete_ranges _ rfl _ _ 48 3 rfl 3 lawI Try.underlying48 _ b w.heap.size _ _ _ _ rfl HR5 _ _ rfl HK.out ?_; intro w2 cnt2 hrg2 hle hturn; go_frame)
          | go_in)
        rw [strike_twice] at hrg2
        have HK5 : Hid (n + 1 = (M ++ [(⟨x, c⟩ : Tm)]).length) := (HO5.out.len).symm
        have HF := HD.out.step HU.out HE.out HLX.out hcn HLT.out HG5.out HO5.out hrg2 hle hturn HBL.out.1
        have HL2 : Hid (w2.rangeLeft b w.heap.size < wr.rangeLeft b w.heap.size) := by
          show _ < _
          rw [hrg2.left_eq, HQ.out]; exact Nat.lt_of_le_of_lt hle HLT.out
        go_roundw
        case rel => exact ⟨fun z => left z && !z.sameKey (kI x), cnt2, D.del (kI x), M ++ [(⟨x, c⟩ : Tm)], a5, n + 1, c5, rfl, HK5, HF⟩
        case measure => exact HL2.out
      · have HF := HD.out.stay HU.out HE.out hcn HRG.out HLT.out HG1.out
        have HL2 : Hid (w1.rangeLeft b w.heap.size < wr.rangeLeft b w.heap.size) := by
          show _ < _
          rw [HRG.out.left_eq, HQ.out]; exact HLT.out
        go_wp2
        go_roundw
        case rel => exact ⟨fun z => left z && !z.sameKey (kI x), cnt1, D, M, ad, n, cap, rfl, HN.out, HF⟩
        case measure => exact HL2.out
end
end Go.Proofs.Ytajpfmnnkglkiaa
