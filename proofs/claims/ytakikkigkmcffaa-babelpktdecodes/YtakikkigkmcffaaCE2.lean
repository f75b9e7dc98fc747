/- The contract of Encode. -/
import Derived.Test.YtakikkigkmcffaaCW7
import Derived.Test.YtakikkigkmcffaaCK2
import Derived.Test.YtakikkigkmcffaaConS
namespace Go.Proofs.Ytakikkigkmcffaa
open Go.RowKit

theorem WF.new (W : World) : WF (W.alloc (.cells #[.bool false, .int .u64 0, .int .u32 0, .slice none 0 0] 50)) W.heap.size false 0 0 none 0 0 :=
  ⟨by simp [go_sem], by simp [go_sem], by simp [go_sem], by simp [go_sem], fun o => by simp [go_sem], by simp⟩
theorem all_at {ts : List Tlv} {k : Nat} {p : Tlv} (he : ts[k]? = some p) (h : ts.all mayT = true) : mayT p = true := List.all_eq_true.1 h p (List.mem_of_getElem? he)
set_option maxHeartbeats 4000000 in
theorem encode_any (a : Option Addr) (n cap : Nat) (ts : List Tlv) (w : World) (hr : RowT w a n ts) (hn : n ≤ 100) :
    Calls Try.prog 12 #[.slice a n cap] w (Encoded w ts) := by
  have HR : Hid (RowT w a n ts) := hr
  have HL : Hid (ts.length = n) := hr.1
  have HO0 : Hid (Tlvs ts) := hr.2.1
  clear hr
  by_cases h40 : 40 < n
  · have HX : Hid (encX ts = 9) := encX_long (by rw [HL.out]; exact h40)
    have HB : Hid (encB ts = []) := encB_bad (by rw [HX.out]; decide)
    go_enter Try.func12, Try.ntmps12
    go_wp2
    go_ret2
    refine ⟨none, 0, 0, by rw [HX.out]; rfl, ?_, Below.refl _ _⟩
    rw [HB.out]; exact own8_nil _ _ _
  have hn40 : n ≤ 40 := by omega
  clear hn
  go_enter Try.func12, Try.ntmps12
  go_wp2
  go_loopw [14] (fun i W => ∃ j : Nat, j ≤ n ∧ i = .int .i64 j ∧ Below w.heap.size w W ∧ Hid ((ts.take j).all mayT = true)) (fun i _ => n - (intOf i).toNat)
  case atStart => exact ⟨0, Nat.zero_le _, rfl, Below.refl _ _, rfl⟩
  case round =>
    obtain ⟨j, hj, rfl, hB, HT⟩ := hrel
    by_cases hlt : j < n
    · have hlt' : (j : Int) < (n : Int) := by omega
      obtain ⟨⟨pk, ps, pi, pc, pa, pl, pr, pt, ph⟩, b, off, he, hok, rfl, h9⟩ := (HR.out.later hB).at hlt
      obtain ⟨d0, d1, d2, d3, d4, d5, d6, d7, d8⟩ := h9
      simp only at d0 d1 d2 d3 d4 d5 d6 d7 d8
      have ha0 : 0 ≤ pa := hok.a0
      have ha1 : pa < 4294967296 := hok.a1
      cases hm : mayT ⟨pk, ps, pi, pc, pa, pl, pr, pt, ph⟩
      · have HX : Hid (encX ts = 1) := encX_arg (by rw [HL.out]; exact hn40) (all_not he hm)
        have HB : Hid (encB ts = []) := encB_bad (by rw [HX.out]; decide)
        clear hok he
        go_wp2_with (go_at_call 19; refine (mayT_any _ _ _ _ _ _ _ _ _ _ ha0 ha1 hm).mono ?_; rintro e W1 ⟨rfl, hb⟩)
        go_ret2
        refine ⟨none, 0, 0, by rw [HX.out]; rfl, ?_, stp1 hB hb⟩
        rw [HB.out]; exact own8_nil _ _ _
      · have HT' : Hid ((ts.take (j + 1)).all mayT = true) := by unfold Hid; rw [all_take he, HT.out, hm]; rfl
        clear hok he
        go_wp2_with (go_at_call 19; refine (mayT_any _ _ _ _ _ _ _ _ _ _ ha0 ha1 hm).mono ?_; rintro e W1 ⟨rfl, hb⟩)
        go_roundw
        case rel => exact ⟨j + 1, by omega, by go_num, stp1 hB hb, HT'⟩
        case measure => simp [intOf]; omega
    · obtain rfl : j = n := by omega
      have HE : Hid (ts.take j = ts) := List.take_of_length_le (by rw [HL.out]; exact Nat.le_refl _)
      have hall : ts.all mayT = true := by have := HT.out; rw [HE.out] at this; exact this
      have HA : Hid (ts.all mayT = true) := hall
      have HX : Hid (encX ts = 0) := encX_mk (by rw [HL.out]; exact hn40) hall
      have HB : Hid (encB ts = pack (body kn0 ts)) := encB_good HX.out
      have HBB : Hid (Bytes (body kn0 ts)) := body_bytes HO0.out hall
      obtain ⟨W0, hW0⟩ : ∃ W0, W0 = wr := ⟨_, rfl⟩
      rw [← hW0] at hB ⊢
      clear hW0 hall HT HE
      go_wp2
      have HWN : Hid (_) := WF.new W0
      go_loopw [24] (fun i W => ∃ (j' : Nat) (ad : Option Addr) (m cp : Nat) (kt : Bool) (kr ka : Int), j' ≤ j ∧ m ≤ 32 * j' ∧ i = .int .i64 j' ∧ Hid (knN kn0 (ts.take j') = ⟨kt, kr, ka⟩) ∧ Hid (WF W W0.heap.size kt kr ka ad m cp) ∧ Hid (Own8 W (W0.heap.size + 1) 5 (.slice ad m cp) m (body kn0 (ts.take j'))) ∧ Below w.heap.size w W) (fun i _ => j - (intOf i).toNat)
      case atStart => exact ⟨0, none, 0, 0, false, 0, 0, Nat.zero_le _, Nat.zero_le _, rfl, rfl, HWN, own8_nil _ _ _, hB.alloc hB.size _⟩
      case round =>
        clear HWN
        obtain ⟨j', ad, m, cp, kt, kr, ka, hj', hmj, rfl, HK, HW, HO, hB2⟩ := hrel
        by_cases hlt2 : j' < j
        · have hlt' : (j' : Int) < (j : Int) := by omega
          obtain ⟨⟨pk, ps, pi, pc, pa, pl, pr, pt, ph⟩, b, off, he, hok, rfl, h9⟩ := (HR.out.later hB2).at hlt2
          obtain ⟨d0, d1, d2, d3, d4, d5, d6, d7, d8⟩ := h9
          simp only at d0 d1 d2 d3 d4 d5 d6 d7 d8
          have hmay := all_at he HA.out
          have hpl : pl ≤ 32 := (mayT_all hmay).2.2.2.1
          obtain ⟨hbd, hkn⟩ := body_take he HK.out
          obtain ⟨U, hU⟩ : ∃ U, Go.Proofs.Ytakikkigkmcffaa.wr ⟨kt, kr, ka⟩ ⟨pk, ps, pi, pc, pa, pl, pr, pt, ph⟩ = U := ⟨_, rfl⟩
          have hUl : U.length ≤ 32 := by rw [← hU]; exact wr_len hpl
          obtain ⟨⟨kt', kr', ka'⟩, hK'⟩ : ∃ K', kn ⟨kt, kr, ka⟩ ⟨pk, ps, pi, pc, pa, pl, pr, pt, ph⟩ = K' := ⟨_, rfl⟩
          rw [hU] at hbd
          rw [hK'] at hkn
          have HKO : Hid (0 ≤ ka ∧ ka < 4294967296) := by
            have := knN_ok (ts := ts.take j') kn0_ok (HO0.out.take j')
            rw [HK.out] at this
            exact ⟨this.a0, this.a1⟩
          have HOK : Hid (Tlv.Ok ⟨pk, ps, pi, pc, pa, pl, pr, pt, ph⟩) := hok
          have HM : Hid (mayT ⟨pk, ps, pi, pc, pa, pl, pr, pt, ph⟩ = true) := hmay
          have HU : Hid (Go.Proofs.Ytakikkigkmcffaa.wr ⟨kt, kr, ka⟩ ⟨pk, ps, pi, pc, pa, pl, pr, pt, ph⟩ = U) := hU
          have HK2 : Hid (kn ⟨kt, kr, ka⟩ ⟨pk, ps, pi, pc, pa, pl, pr, pt, ph⟩ = ⟨kt', kr', ka'⟩) := hK'
          have HBD : Hid (body kn0 (ts.take (j' + 1)) = body kn0 (ts.take j') ++ U) := hbd
          have HKN : Hid (knN kn0 (ts.take (j' + 1)) = ⟨kt', kr', ka'⟩) := hkn
          have hz : w.heap.size ≤ W0.heap.size := hB.size
          obtain ⟨q, hq⟩ : ∃ q, m + U.length = q := ⟨_, rfl⟩
          have HQ : Hid (m + U.length = q) := hq
          have hq2 : q ≤ 32 * (j' + 1) := by omega
          clear hok hmay hU hK' hbd hkn he hUl hq
          go_wp2_with (go_at_call 20; refine (write_any W0.heap.size kt kr ka ad m cp _ _ _ _ _ _ _ _ _ _ _ (HW.out.later (below1 _ _)) (HO.out.later (below1 _ _)) (by omega) HOK.out HM.out HKO.out.1 HKO.out.2 HK2.out HU.out HQ.out).mono ?_; rintro e W2 ⟨rfl, ad', cp', hW', own', hb'⟩)
          go_roundw
          case rel =>
            refine ⟨j' + 1, ad', q, cp', kt', kr', ka', by omega, hq2, by go_num, HKN, hW', ?_, ((hB2.alloc hB2.size _).trans (hb'.mono hz))⟩
            unfold Hid; rw [HBD.out]; exact own'
          case measure => simp [intOf]; omega
        · obtain rfl : j' = j := by omega
          have HE : Hid (ts.take j' = ts) := List.take_of_length_le (by rw [HL.out]; exact Nat.le_refl _)
          have HO2 : Hid (Own8 wr (W0.heap.size + 1) 5 (.slice ad m cp) m (body kn0 ts)) := by have := HO.out; rw [HE.out] at this; exact this
          have HLN : Hid ((body kn0 ts).length = m) := HO2.out.len
          have HPK : Hid (([42, 2] ++ b2 (m : Int)) ++ body kn0 ts = encB ts) := by unfold Hid; rw [HB.out]; unfold pack; rw [HLN.out]
          have hm1 : m ≤ 1280 := by omega
          obtain ⟨i0, i1, i2, i3, jf, jz⟩ := HW.out
          go_wp2
          go_region_held3 (fun w' => w'.cell? ⟨W0.heap.size, 3, none⟩ = some (.slice ad m cp)) (first | exact i4 | exact cell_later hbh i3 | go_keep)
            (first
              | (go_at_call 21; refine (head_any _ _ (by omega) (by omega)).mono ?_; rintro e Wh ⟨ah, ch, rfl, ownh, hbh⟩)
              | (refine step_app8 _ (by rfl) _ _ 25 5 (by rfl) wr.heap.size Try.underlying25 info5 _ 4 ([42, 2] ++ b2 (m : Int)) (by rfl) ownh _ m cp (body kn0 ts) (by rfl) (((HO2.out.row HBB.out (by omega)).later (Below.refl _ _).drew).later hbh) (4 + m) (by rfl) (encB ts) HPK.out (by omega) hbh.size ?_; intro a7 c7 W7 own7 hb7; have hB7 := hbh.trans hb7; have i4 : W7.cell? ⟨W0.heap.size, 3, none⟩ = some (.slice ad m cp) := (hB7.cell (p := ⟨W0.heap.size, 3, none⟩) jz).trans i3))
          all_goals
            go_wp2
            go_ret2
            exact ⟨a7, 4 + m, c7, by rw [HX.out]; rfl, own7.base hB2.size, hB2.drew.trans (hB7.mono hB2.size)⟩
end Go.Proofs.Ytakikkigkmcffaa
