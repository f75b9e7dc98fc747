/- The contract of the document's Encode. -/
import Derived.Test.YtakikkigkmcffaaCon8
import Derived.Test.YtakikkigkmcffaaCM1
import Derived.Test.YtakikkigkmcffaaCP1
import Derived.Test.YtakikkigkmcffaaCU1
namespace Go.Proofs.Ytakikkigkmcffaa
open Go.RowKit

theorem all_take {ts : List Tlv} {k : Nat} {p : Tlv} (he : ts[k]? = some p) : (ts.take (k + 1)).all mayT = ((ts.take k).all mayT && mayT p) := by
  have hk : k < ts.length := (List.getElem?_eq_some_iff.1 he).1
  rw [List.take_succ_eq_append_getElem hk, List.all_append]
  have := (List.getElem?_eq_some_iff.1 he).2
  simp [this]
theorem all_not {ts : List Tlv} {k : Nat} {p : Tlv} (he : ts[k]? = some p) (hm : mayT p = false) : ts.all mayT = false := by
  rw [Bool.eq_false_iff]
  intro h
  have := List.all_eq_true.1 h p (List.mem_of_getElem? he)
  rw [hm] at this; cases this
theorem body_take {ts : List Tlv} {k : Nat} {p : Tlv} {K : Kn} (he : ts[k]? = some p) (hK : knN kn0 (ts.take k) = K) : body kn0 (ts.take (k + 1)) = body kn0 (ts.take k) ++ wr K p ∧ knN kn0 (ts.take (k + 1)) = kn K p := by
  have hk : k < ts.length := (List.getElem?_eq_some_iff.1 he).1
  rw [List.take_succ_eq_append_getElem hk, (List.getElem?_eq_some_iff.1 he).2, body_snoc, knN_snoc, hK]
  exact ⟨rfl, rfl⟩
theorem wr_told {K : Kn} {p : Tlv} (h : p.k = 2) (ht : K.told = true ∧ K.r = p.r) : wr K p = tlvB 8 (upB K.a p) := by unfold wr rtB; rw [if_pos h, if_pos ht]; rfl
theorem wr_new {K : Kn} {p : Tlv} (h : p.k = 2) (ht : ¬ (K.told = true ∧ K.r = p.r)) : wr K p = tlvB 6 (roB p.r) ++ tlvB 8 (upB K.a p) := by unfold wr rtB; rw [if_pos h, if_neg ht]
theorem wr_part {K : Kn} {p : Tlv} (h : p.k ≠ 2) : wr K p = partB p := by unfold wr; rw [if_neg h]
theorem Tlvs.take {ts : List Tlv} (h : Tlvs ts) (k : Nat) : Tlvs (ts.take k) := fun p hp => h p (List.mem_of_mem_take hp)
/-- What Encode answers. -/
def Encoded (w : World) (ts : List Tlv) (e : Ending) (w' : World) : Prop := ∃ ad k cp, e = .returned (.tuple #[.slice ad k cp, .int .i64 (encX ts)]) ∧ Own8 w' w.heap.size 5 (.slice ad k cp) k (encB ts) ∧ Below w.heap.size w w'
set_option maxHeartbeats 4000000 in
theorem refEncode_any (a : Option Addr) (n cap : Nat) (ts : List Tlv) (w : World) (hr : RowT w a n ts) (hn : n ≤ 100) :
    Calls Try.prog 13 #[.slice a n cap] w (Encoded w ts) := by
  have HR : Hid (RowT w a n ts) := hr
  have HL : Hid (ts.length = n) := hr.1
  have HO0 : Hid (Tlvs ts) := hr.2.1
  clear hr
  by_cases h40 : 40 < n
  · have HX : Hid (encX ts = 9) := encX_long (by rw [HL.out]; exact h40)
    have HB : Hid (encB ts = []) := encB_bad (by rw [HX.out]; decide)
    go_enter Try.func13, Try.ntmps13
    go_wp2
    go_ret2
    refine ⟨none, 0, 0, by rw [HX.out]; rfl, ?_, Below.refl _ _⟩
    rw [HB.out]; exact own8_nil _ _ _
  have hn40 : n ≤ 40 := by omega
  clear hn
  go_enter Try.func13, Try.ntmps13
  go_wp2
  go_loopw [4, 5, 6, 7, 8] (fun u rr tt la i W => ∃ (j : Nat) (ad : Option Addr) (m cp : Nat) (kt : Bool) (kr ka : Int), j ≤ n ∧ m ≤ 32 * j ∧ i = .int .i64 j ∧ u = .slice ad m cp ∧ rr = .int .u64 kr ∧ tt = .bool kt ∧ la = .int .u32 ka ∧ Hid (knN kn0 (ts.take j) = ⟨kt, kr, ka⟩) ∧ Hid (Own8 W w.heap.size 5 (.slice ad m cp) m (body kn0 (ts.take j))) ∧ Below w.heap.size w W ∧ Hid ((ts.take j).all mayT = true)) (fun _ _ _ _ i _ => n - (intOf i).toNat)
  case atStart => exact ⟨0, none, 0, 0, false, 0, 0, Nat.zero_le _, Nat.zero_le _, rfl, rfl, rfl, rfl, rfl, rfl, own8_nil _ _ _, Below.refl _ _, rfl⟩
  case round =>
    obtain ⟨j, ad, m, cp, kt, kr, ka, hj, hmj, rfl, rfl, rfl, rfl, rfl, HK, HO, hB, HT⟩ := hrel
    by_cases hlt : j < n
    · have hlt' : (j : Int) < (n : Int) := by omega
      obtain ⟨⟨pk, ps, pi, pc, pa, pl, pr, pt, ph⟩, b, off, he, hok, rfl, h9⟩ := (HR.out.later hB).at hlt
      obtain ⟨d0, d1, d2, d3, d4, d5, d6, d7, d8⟩ := h9
      simp only at d0 d1 d2 d3 d4 d5 d6 d7 d8
      have ha0 : 0 ≤ pa := hok.a0
      have ha1 : pa < 4294967296 := hok.a1
      have hl0 : -9223372036854775808 ≤ pl := hok.l0
      have hl1 : pl ≤ 9223372036854775807 := hok.l1
      have hr0 : 0 ≤ pr := hok.r0
      have hr1 : pr ≤ 18446744073709551615 := hok.r1
      have HKO : Hid (0 ≤ ka ∧ ka < 4294967296) := by
        have := knN_ok (ts := ts.take j) kn0_ok (HO0.out.take j)
        rw [HK.out] at this
        exact ⟨this.a0, this.a1⟩
      have HOK : Hid (Tlv.Ok ⟨pk, ps, pi, pc, pa, pl, pr, pt, ph⟩) := hok
      have ne1 := HO.out.not_new
      cases hm : mayT ⟨pk, ps, pi, pc, pa, pl, pr, pt, ph⟩
      · have HX : Hid (encX ts = 1) := encX_arg (by rw [HL.out]; exact hn40) (all_not he hm)
        have HB : Hid (encB ts = []) := encB_bad (by rw [HX.out]; decide)
        clear hok he
        go_wp2_with (go_at_call 22; refine (refMayT_any _ _ _ _ _ _ _ _ _ _ ha0 ha1 hl0 hl1 hm).mono ?_; rintro e W1 ⟨rfl, hb⟩)
        go_ret2
        refine ⟨none, 0, 0, by rw [HX.out]; rfl, ?_, stp1 hB hb⟩
        rw [HB.out]; exact own8_nil _ _ _
      · have HT' : Hid ((ts.take (j + 1)).all mayT = true) := by unfold Hid; rw [all_take he, HT.out, hm]; rfl
        obtain ⟨hbd, hkn⟩ := body_take he HK.out
        have HM : Hid (mayT ⟨pk, ps, pi, pc, pa, pl, pr, pt, ph⟩ = true) := hm
        have hpl : pl ≤ 32 := (mayT_all hm).2.2.2.1
        clear he hok
        by_cases hk2 : pk = 2
        · subst hk2
          have HKN : Hid (knN kn0 (ts.take (j + 1)) = ⟨true, pr, pa⟩) := by unfold Hid; rw [hkn]; rfl
          have HBU : Hid (Bytes (upB ka ⟨2, ps, pi, pc, pa, pl, pr, pt, ph⟩) ∧ (upB ka ⟨2, ps, pi, pc, pa, pl, pr, pt, ph⟩).length ≤ 18) := ⟨upB_bytes HOK.out hm, upB_le hpl⟩
          have HBV : Hid (Bytes (tlvB 8 (upB ka ⟨2, ps, pi, pc, pa, pl, pr, pt, ph⟩))) := tlvB_bytes (by omega) HBU.out.1 (by have := HBU.out.2; omega)
          by_cases ht : kt = true ∧ kr = pr
          · obtain ⟨rfl, rfl⟩ := ht
            have HF : Hid (body kn0 (ts.take j) ++ tlvB 8 (upB ka ⟨2, ps, pi, pc, pa, pl, kr, pt, ph⟩) = body kn0 (ts.take (j + 1))) := by
              unfold Hid; rw [hbd, wr_told rfl ⟨rfl, rfl⟩]
            generalize hU : upB ka ⟨2, ps, pi, pc, pa, pl, kr, pt, ph⟩ = U at *
            obtain ⟨u, hu⟩ : ∃ u, U.length = u := ⟨_, rfl⟩
            have hu18 : u ≤ 18 := by rw [← hu]; exact HBU.out.2
            have HUL : Hid (U.length = u) := hu
            have HUU : Hid (upB ka ⟨2, ps, pi, pc, pa, pl, kr, pt, ph⟩ = U) := hU
            clear hbd hkn hu hU
            go_wp2_with (first
              | (go_at_call 22; refine (refMayT_any _ _ _ _ _ _ _ _ _ _ ha0 ha1 hl0 hl1 HM.out).mono ?_; rintro e W1 ⟨rfl, hb1⟩; have hB1 := stp1 hB hb1; have own1 := (HO.out.later (below1 _ _)).later hb1; have F1 := (T9.new wr 2 ps pi pc pa pl kr pt ph).later hb1; obtain ⟨q0, q1, q2, q3, q4, q5, q6, q7, q8⟩ := F1.z; have sz1 : wr.heap.size < W1.heap.size := by { have := hb1.size; simp at this; omega })
              | (go_at_call 26; refine (update_any _ _ _ _ _ _ _ _ _ _ _ HOK.out HM.out HKO.out.1 HKO.out.2).mono ?_; rw [HUU.out, HUL.out]; rintro e W6 ⟨a6, c6, rfl, own6, hb6⟩; have hB6 := stp hB1 hb6; have F6 := F1.later hb6)
              | (go_at_call_of 25 (Value.int IntKind.u8 8); refine (refTlv_any _ _ u _ U _ (own6.row HBU.out.1 (by omega)) (by omega)).mono ?_; rintro e W7 ⟨a7, c7, rfl, own7, hb7⟩; have hB7 := stp hB6 hb7; have F7 := F6.later hb7; have sz7 : wr.heap.size < W7.heap.size := by { have h1 := hb6.size; have h2 := hb7.size; omega })
              | (at_builtin; refine wpList_app8f _ wr.heap.size rfl (.tmp 57) (.tmp 61) 25 5 rfl sz7 w.heap.size Try.underlying25 info5 _ m _ rfl ((own1.later hb6).later hb7) ne1 _ (2 + u) c7 (tlvB 8 U) rfl (own7.row HBV.out (by omega)) (m + (2 + u)) rfl _ HF.out (by omega) hB7.size ?_; intro a8 c8 W8 own8 hb8 ne8 far8 sz8; have hB8 := hB7.trans hb8; have F8 := F7.far far8; clear far8; obtain ⟨q0, q1, q2, q3, q4, q5, q6, q7, q8⟩ := F8.z))
            go_roundw
            case rel => exact ⟨j + 1, a8, m + (2 + u), c8, true, kr, pa, by omega, by omega, by go_num, rfl, rfl, rfl, rfl, HKN, own8, hB8, HT'⟩
            case measure => simp [intOf]; omega
          · have HF : Hid ((body kn0 (ts.take j) ++ tlvB 6 (roB pr)) ++ tlvB 8 (upB ka ⟨2, ps, pi, pc, pa, pl, pr, pt, ph⟩) = body kn0 (ts.take (j + 1))) := by
              unfold Hid; rw [hbd, wr_new rfl ht, List.append_assoc]
            have HWR : Hid (12 + (2 + (upB ka ⟨2, ps, pi, pc, pa, pl, pr, pt, ph⟩).length) ≤ 32) := by have := HBU.out.2; unfold Hid; omega
            generalize hU : upB ka ⟨2, ps, pi, pc, pa, pl, pr, pt, ph⟩ = U at *
            obtain ⟨u, hu⟩ : ∃ u, U.length = u := ⟨_, rfl⟩
            have hu18 : u ≤ 18 := by rw [← hu]; exact HBU.out.2
            have HUL : Hid (U.length = u) := hu
            have HUU : Hid (upB ka ⟨2, ps, pi, pc, pa, pl, pr, pt, ph⟩ = U) := hU
            have HRB : Hid (Bytes (roB pr)) := roB_bytes hr0 hr1
            have HR8 : Hid (Bytes (b8 pr)) := b8_bytes hr0 hr1
            have HTB : Hid (Bytes (tlvB 6 (roB pr))) := tlvB_bytes (by omega) HRB.out (by rw [roB_len]; omega)
            have hcase : kt = false ∨ (kt = true ∧ (kr != pr) = true) := by
              cases kt
              · exact .inl rfl
              · exact .inr ⟨rfl, by simpa using ht⟩
            clear hbd hkn hu hU ht
            rcases hcase with rfl | ⟨rfl, hne⟩
            all_goals
              go_wp2_with (first
                | (go_at_call 22; refine (refMayT_any _ _ _ _ _ _ _ _ _ _ ha0 ha1 hl0 hl1 HM.out).mono ?_; rintro e W1 ⟨rfl, hb1⟩; have hB1 := stp1 hB hb1; have own1 := (HO.out.later (below1 _ _)).later hb1; have F1 := (T9.new wr 2 ps pi pc pa pl pr pt ph).later hb1; obtain ⟨q0, q1, q2, q3, q4, q5, q6, q7, q8⟩ := F1.z; have sz1 : wr.heap.size < W1.heap.size := by { have := hb1.size; simp at this; omega })
                | (go_at_call 24; refine (long_any _ _ hr0 hr1).mono ?_; rintro e W2 ⟨a2, c2, rfl, own2, hb2⟩)
                | (at_builtin; refine wpList_app8 _ rfl (.tmp 46) (.tmp 49) 25 5 rfl W1.heap.size Try.underlying25 info5 _ 2 [0, 0] rfl ((own8_at W1 W1.heap.size rfl W1.heap.size 5 [0, 0] (Nat.le_refl _) (by simp)).later hb2) _ 8 c2 (b8 pr) rfl (own2.row HR8.out (by omega)) 10 rfl (roB pr) rfl (by omega) (by have := hb2.size; simp at this; omega) ?_; intro a3 c3 W3 own3 hb3; have hB3 : Below W1.heap.size W1 W3 := (Below.out1 hb2).trans hb3)
                | (go_at_call_of 25 (Value.int IntKind.u8 6); refine (refTlv_any _ _ 10 _ (roB pr) _ (own3.row HRB.out (by omega)) (by omega)).mono ?_; rintro e W4 ⟨a4, c4, rfl, own4, hb4⟩; have hB4 := stp hB3 hb4; have F4 := F1.later hB4; have sz4 : wr.heap.size < W4.heap.size := by { have := hB4.size; omega })
                | (at_builtin; refine wpList_app8f _ wr.heap.size rfl (.tmp 51) (.tmp 53) 25 5 rfl sz4 w.heap.size Try.underlying25 info5 _ m _ rfl (own1.later hB4) ne1 _ (2 + 10) c4 (tlvB 6 (roB pr)) rfl (own4.row HTB.out (by omega)) (m + 12) rfl _ rfl (by omega) (Nat.le_trans hB1.size hB4.size) ?_; intro a5 c5 W5 own5 hb5 ne5 far5 sz5; have hB5 := (stp hB1 hB4).trans hb5; have F5 := F4.far far5; clear far5; obtain ⟨q0, q1, q2, q3, q4, q5, q6, q7, q8⟩ := F5.z; have sz5' : wr.heap.size < W5.heap.size := by omega)
                | (go_at_call 26; refine (update_any _ _ _ _ _ _ _ _ _ _ _ HOK.out HM.out HKO.out.1 HKO.out.2).mono ?_; rw [HUU.out, HUL.out]; rintro e W6 ⟨a6, c6, rfl, own6, hb6⟩; have hB6 := stp hB5 hb6; have F6 := F5.later hb6)
                | (go_at_call_of 25 (Value.int IntKind.u8 8); refine (refTlv_any _ _ u _ U _ (own6.row HBU.out.1 (by omega)) (by omega)).mono ?_; rintro e W7 ⟨a7, c7, rfl, own7, hb7⟩; have hB7 := stp hB6 hb7; have F7 := F6.later hb7; have sz7 : wr.heap.size < W7.heap.size := by { have h1 := hb6.size; have h2 := hb7.size; omega })
                | (at_builtin; refine wpList_app8f _ wr.heap.size rfl (.tmp 57) (.tmp 61) 25 5 rfl sz7 w.heap.size Try.underlying25 info5 _ (m + 12) _ rfl ((own5.later hb6).later hb7) ne5 _ (2 + u) c7 (tlvB 8 U) rfl (own7.row HBV.out (by omega)) ((m + 12) + (2 + u)) rfl _ HF.out (by omega) hB7.size ?_; intro a8 c8 W8 own8 hb8 ne8 far8 sz8; have hB8 := hB7.trans hb8; have F8 := F7.far far8; clear far8; obtain ⟨q0, q1, q2, q3, q4, q5, q6, q7, q8⟩ := F8.z))
              go_roundw
              case rel => exact ⟨j + 1, a8, m + 12 + (2 + u), c8, true, pr, pa, by omega, by omega, by go_num, rfl, rfl, rfl, rfl, HKN, own8, hB8, HT'⟩
              case measure => simp [intOf]; omega
        · have e2 : (pk != 2) = true := by simpa using hk2
          have HKN : Hid (knN kn0 (ts.take (j + 1)) = ⟨kt, kr, ka⟩) := by unfold Hid; rw [hkn]; unfold kn; rw [if_neg hk2]
          have HF : Hid (body kn0 (ts.take j) ++ partB ⟨pk, ps, pi, pc, pa, pl, pr, pt, ph⟩ = body kn0 (ts.take (j + 1))) := by
            unfold Hid; rw [hbd, wr_part hk2]
          have HBP : Hid (Bytes (partB ⟨pk, ps, pi, pc, pa, pl, pr, pt, ph⟩)) := partB_bytes HOK.out hm
          have HP32 : Hid ((partB ⟨pk, ps, pi, pc, pa, pl, pr, pt, ph⟩).length ≤ 32) := by have := partB_len (p := ⟨pk, ps, pi, pc, pa, pl, pr, pt, ph⟩) hpl; unfold Hid; omega
          have HPA := fun W => part_any pk ps pi pc pa pl pr pt ph W HOK.out hm hk2
          generalize partB ⟨pk, ps, pi, pc, pa, pl, pr, pt, ph⟩ = U at *
          obtain ⟨u, hu⟩ : ∃ u, U.length = u := ⟨_, rfl⟩
          have hu18 : u ≤ 32 := by rw [← hu]; exact HP32.out
          rw [hu] at HPA
          have HPB : Hid (∀ W, Calls Try.prog 23 #[valT pk ps pi pc pa pl pr pt ph] W (New8 W u U)) := HPA
          clear hbd hkn hu hk2 HPA
          go_wp2_with (first
            | (go_at_call 22; refine (refMayT_any _ _ _ _ _ _ _ _ _ _ ha0 ha1 hl0 hl1 HM.out).mono ?_; rintro e W1 ⟨rfl, hb1⟩; have hB1 := stp1 hB hb1; have own1 := (HO.out.later (below1 _ _)).later hb1; have F1 := (T9.new wr pk ps pi pc pa pl pr pt ph).later hb1; obtain ⟨q0, q1, q2, q3, q4, q5, q6, q7, q8⟩ := F1.z; have sz1 : wr.heap.size < W1.heap.size := by { have := hb1.size; simp at this; omega })
            | (go_at_call 23; refine (HPB.out _).mono ?_; rintro e W2 ⟨a2, c2, rfl, own2, hb2⟩; have hB2 := stp hB1 hb2)
            | (at_builtin; refine wpList_app8 _ rfl (.tmp 33) (.tmp 35) 25 5 rfl w.heap.size Try.underlying25 info5 _ m _ rfl (own1.later hb2) _ u c2 U rfl (own2.row HBP.out (by omega)) (m + u) rfl _ HF.out (by omega) hB2.size ?_; intro a8 c8 W8 own8 hb8; have hB8 := hB2.trans hb8))
          go_roundw
          case rel => exact ⟨j + 1, a8, m + u, c8, kt, kr, ka, by omega, by omega, by go_num, rfl, rfl, rfl, rfl, HKN, own8, hB8, HT'⟩
          case measure => simp [intOf]; omega
    · obtain rfl : j = n := by omega
      have HE : Hid (ts.take j = ts) := List.take_of_length_le (by rw [HL.out]; exact Nat.le_refl _)
      have hall : ts.all mayT = true := by have := HT.out; rw [HE.out] at this; exact this
      have HX : Hid (encX ts = 0) := encX_mk (by rw [HL.out]; exact hn40) hall
      have HB : Hid (encB ts = pack (body kn0 ts)) := encB_good HX.out
      have HO2 : Hid (Own8 wr w.heap.size 5 (.slice ad m cp) m (body kn0 ts)) := by have := HO.out; rw [HE.out] at this; exact this
      have HBB : Hid (Bytes (body kn0 ts)) := body_bytes HO0.out hall
      have HLN : Hid ((body kn0 ts).length = m) := HO2.out.len
      have HPK : Hid (([42, 2] ++ b2 (m : Int)) ++ body kn0 ts = encB ts) := by unfold Hid; rw [HB.out]; unfold pack; rw [HLN.out]
      have hm1 : m ≤ 1280 := by omega
      clear hall
      go_wp2_with (first
        | (go_at_call 27; refine (two_any _ _ (by omega) (by omega)).mono ?_; rintro e w' ⟨rfl, rfl⟩)
        | (at_builtin; refine wpList_app8 _ rfl (.tmp 67) (.tmp 70) 25 5 rfl wr.heap.size Try.underlying25 info5 _ 2 [42, 2] rfl ((own8_at wr wr.heap.size rfl wr.heap.size 5 [42, 2] (Nat.le_refl _) (by simp)).alloc _) _ 2 2 (b2 (m : Int)) rfl (row_b2 _ (by omega) (by omega) _ (by first | rfl | simp)) 4 rfl ([42, 2] ++ b2 (m : Int)) rfl (by omega) (by simp; omega) ?_; intro a6 c6 W6 own6 hb6; have hB6 := (below2 _ _ _).trans hb6)
        | (at_builtin; refine wpList_app8 _ rfl (.tmp 72) (.tmp 73) 25 5 rfl wr.heap.size Try.underlying25 info5 _ 4 ([42, 2] ++ b2 (m : Int)) rfl own6 _ m cp (body kn0 ts) rfl ((HO2.out.row HBB.out (by omega)).later hB6) (4 + m) rfl (encB ts) HPK.out (by omega) hB6.size ?_; intro a7 c7 W7 own7 hb7; have hB7 := hB6.trans hb7))
      go_ret2
      exact ⟨a7, 4 + m, c7, by rw [HX.out]; rfl, own7.base hB.size, hB.trans (hB7.mono hB.size)⟩
end Go.Proofs.Ytakikkigkmcffaa
