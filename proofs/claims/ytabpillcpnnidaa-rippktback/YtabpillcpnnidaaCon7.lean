/- The contract of Encode. -/
import Derived.Test.YtabpillcpnnidaaCon6
namespace Go.Proofs.Ytabpillcpnnidaa
open Go.RowKit

abbrev objP (c : Int) (wh : Bool) (a : Option Addr) (n cap : Nat) : Obj := .cells #[.int .i64 c, .bool wh, .slice a n cap] 24
abbrev hdO (c : Int) : Obj := .cells #[.int .u8 c, .int .u8 2, .int .u8 0, .int .u8 0] 5
theorem hd_bytes {c : Int} (h0 : 0 ≤ c) (h1 : c ≤ 255) : Bytes [c, 2, 0, 0] := by
  intro n hn
  simp only [List.mem_cons, List.not_mem_nil, or_false] at hn
  omega
theorem whole_bytes : Bytes wholeL := by unfold Bytes; decide
/-- The three cells of a packet in block N. -/
def P3 (W : World) (N : Nat) (c : Int) (wh : Bool) (a : Option Addr) (n cap : Nat) : Prop :=
  W.cell? ⟨N, 0, none⟩ = some (.int .i64 c) ∧ W.cell? ⟨N, 1, none⟩ = some (.bool wh) ∧ W.cell? ⟨N, 2, none⟩ = some (.slice a n cap) ∧ N < W.heap.size
theorem P3.later {W W' : World} {N : Nat} {c : Int} {wh : Bool} {a : Option Addr} {n cap : Nat} (h : P3 W N c wh a n cap) (hb : Below W.heap.size W W') : P3 W' N c wh a n cap :=
  ⟨cell_later hb h.1, cell_later hb h.2.1, cell_later hb h.2.2.1, Nat.lt_of_lt_of_le h.2.2.2 hb.size⟩
theorem P3.new (W : World) (c : Int) (wh : Bool) (a : Option Addr) (n cap : Nat) : P3 (W.alloc (objP c wh a n cap)) W.heap.size c wh a n cap :=
  ⟨by simp [go_sem], by simp [go_sem], by simp [go_sem], by simp⟩

theorem encX_long {c : Int} {w : Bool} {es : List Ent} (h : 25 < es.length) : encX c w es = 9 := by unfold encX; rw [if_pos h]
theorem encX_arg {c : Int} {w : Bool} {es : List Ent} (h : es.length ≤ 25) (hm : mayP c w es = false) : encX c w es = 1 := by unfold encX; rw [if_neg (by omega), hm, if_neg (by simp)]
theorem encX_ok {c : Int} {w : Bool} {es : List Ent} (h : es.length ≤ 25) (hm : mayP c w es = true) : encX c w es = 0 := by unfold encX; rw [if_neg (by omega), hm, if_pos rfl]
theorem take_flat {es : List Ent} {k : Nat} {e : Ent} (he : es[k]? = some e) (r : List Int) : (r ++ (es.take k).flatMap encE) ++ encE e = r ++ (es.take (k + 1)).flatMap encE := by
  have hk : k < es.length := (List.getElem?_eq_some_iff.1 he).1
  rw [List.take_succ_eq_append_getElem hk, List.flatMap_append, (List.getElem?_eq_some_iff.1 he).2]
  simp
theorem all_at {es : List Ent} {k : Nat} {e : Ent} (he : es[k]? = some e) (h : es.all mayE = true) : mayE e = true := List.all_eq_true.1 h e (List.mem_of_getElem? he)

set_option maxHeartbeats 1000000 in
theorem encode_any (c : Int) (wh : Bool) (a : Option Addr) (n cap : Nat) (es : List Ent) (w : World) (hr : RowE w a n es) (hn : n ≤ 100) :
    Calls Try.prog 11 #[.agg #[.int .i64 c, .bool wh, .slice a n cap]] w fun e w' => ∃ ad k cp, e = .returned (.tuple #[.slice ad k cp, .int .i64 (encX c wh es)]) ∧ Own8 w' w.heap.size 5 (.slice ad k cp) k (encB c wh es) ∧ Below w.heap.size w w' := by
  have HR : Hid (RowE w a n es) := hr
  have HL : Hid (es.length = n) := hr.1
  clear hr
  by_cases h25 : 25 < n
  · have HX : Hid (encX c wh es = 9) := encX_long (by rw [HL.out]; exact h25)
    have HB : Hid (encB c wh es = []) := encB_bad (by rw [HX.out]; decide)
    go_enter Try.func11, Try.ntmps11
    go_wp2
    go_ret2
    refine ⟨none, 0, 0, by rw [HX.out]; rfl, ?_, below1 _ _⟩
    rw [HB.out]; exact own8_nil _ _ _
  have hn25 : n ≤ 25 := by omega
  clear hn
  cases hm : mayP c wh es
  · have HX : Hid (encX c wh es = 1) := encX_arg (by rw [HL.out]; exact hn25) hm
    have HB : Hid (encB c wh es = []) := encB_bad (by rw [HX.out]; decide)
    go_enter Try.func11, Try.ntmps11
    go_wp2_with (go_at_call 16; refine (may16_any _ _ _ _ _ es _ (HR.out.later (below1 _ _)) hn25 hm).mono ?_; rintro e w' ⟨rfl, hb⟩)
    go_ret2
    refine ⟨none, 0, 0, by rw [HX.out]; rfl, ?_, Below.out1 hb⟩
    rw [HB.out]; exact own8_nil _ _ _
  have HX : Hid (encX c wh es = 0) := encX_ok (by rw [HL.out]; exact hn25) hm
  obtain ⟨-, hc, hwz, hall⟩ := encX_zero HX.out
  have hc0 : 0 ≤ c := by omega
  have hc1 : c ≤ 255 := by omega
  cases wh
  · have HA : Hid (es.all mayE = true) := hall
    have HB : Hid (encB c false es = [c, 2, 0, 0] ++ es.flatMap encE) := encB_plain HX.out
    clear hall hwz hc
    go_enter Try.func11, Try.ntmps11
    go_wp2_with (first
      | (go_at_call 16; refine (may16_any _ _ _ _ _ es _ (HR.out.later (below1 _ _)) hn25 hm).mono ?_; rintro e W1 ⟨rfl, hb⟩; obtain ⟨d0, d1, d2, z⟩ := (P3.new w c false a n cap).later hb; have hB := Below.out1 hb; clear hb)
      | (go_at_call 17; refine (head_any _ _ hc0 hc1).mono ?_; rintro e w' ⟨rfl, rfl⟩; obtain ⟨g0, g1, g2, zz⟩ := P3.later ⟨d0, d1, d2, z⟩ (below1 W1 (hdO c))))
    have HO := own8_new W1 w.heap.size 5 [c, 2, 0, 0] hB.size (by simp)
    go_loopw [4, 25] (fun u i W => ∃ k : Nat, ∃ ad cp, k ≤ n ∧ i = .int .i64 k ∧ u = .slice ad (4 + 20 * k) cp ∧ Hid (Own8 W w.heap.size 5 (.slice ad (4 + 20 * k) cp) (4 + 20 * k) ([c, 2, 0, 0] ++ (es.take k).flatMap encE)) ∧ Below w.heap.size w W) (fun _ i _ => n - (intOf i).toNat)
    case atStart => exact ⟨0, _, _, Nat.zero_le _, rfl, rfl, by unfold Hid; simpa using HO, hB.alloc hB.size _⟩
    case round =>
      clear d0 d1 d2 z g0 g1 g2 zz HO hB
      obtain ⟨k, ad, cp, hk, rfl, rfl, HO, hB⟩ := hrel
      by_cases hlt : k < n
      · have hlt' : (k : Int) < (n : Int) := by omega
        obtain ⟨⟨ea, el, et, ex, em⟩, b, off, he, hok, rfl, h5⟩ := (HR.out.later hB).at hlt
        obtain ⟨d0, d1, d2, d3, d4⟩ := h5
        simp only at d0 d1 d2 d3 d4
        have hme := all_at he HA.out
        have HF : Hid (([c, 2, 0, 0] ++ (es.take k).flatMap encE) ++ encE ⟨ea, el, et, ex, em⟩ = [c, 2, 0, 0] ++ (es.take (k + 1)).flatMap encE) := take_flat he _
        clear he
        go_wp2_with (first
          | (go_at_call 19; refine (encodeEntry_any _ _ _ _ _ _ hok hme).mono ?_; rintro e W2 ⟨a2, c2, rfl, R2, hb⟩; have hB2 := stp1 hB hb)
          | (at_builtin; refine wpList_app8 _ rfl (.tmp 29) (.tmp 31) 26 5 rfl w.heap.size Try.underlying26 info5 _ (4 + 20 * k) _ rfl ((HO.out.later (below1 _ _)).later hb) _ 20 c2 _ rfl R2 (4 + 20 * (k + 1)) (by omega) _ HF.out (by omega) hB2.size ?_; intro a3 c3 W3 own3 hb3; have hB3 := hB2.trans hb3))
        go_roundw
        case rel => exact ⟨k + 1, a3, c3, by omega, by go_num, rfl, own3, hB3⟩
        case measure => simp [intOf]; omega
      · obtain rfl : k = n := by omega
        have HE : Hid (es.take k = es) := List.take_of_length_le (by rw [HL.out]; exact Nat.le_refl _)
        go_wp2
        go_ret2
        refine ⟨ad, 4 + 20 * k, cp, by rw [HX.out]; rfl, ?_, hB⟩
        rw [HB.out]
        have := HO.out
        rw [HE.out] at this
        exact this
  · obtain ⟨rfl, rfl⟩ := hwz rfl
    have HB : Hid (encB 1 true [] = [1, 2, 0, 0] ++ wholeL) := encB_whole HX.out
    clear hall hwz hc
    go_enter Try.func11, Try.ntmps11
    go_wp2_with (first
      | (go_at_call 16; refine (may16_any _ _ _ _ _ [] _ (HR.out.later (below1 _ _)) hn25 hm).mono ?_; rintro e W1 ⟨rfl, hb⟩; obtain ⟨d0, d1, d2, z⟩ := (P3.new w 1 true a n cap).later hb; have hB := Below.out1 hb; clear hb)
      | (go_at_call 17; refine (head_any _ _ hc0 hc1).mono ?_; rintro e w' ⟨rfl, rfl⟩; obtain ⟨g0, g1, g2, zz⟩ := P3.later ⟨d0, d1, d2, z⟩ (below1 W1 (hdO 1)))
      | (go_at_call 18; refine (wholeEntry_any _).mono ?_; rintro e W2 ⟨a2, c2, rfl, own2, hb⟩; have hB2 := stp1 hB hb)
      | (at_builtin; refine wpList_app8 _ rfl (.tmp 19) (.tmp 20) 26 5 rfl w.heap.size Try.underlying26 info5 _ 4 _ rfl ((own8_new W1 w.heap.size 5 [1, 2, 0, 0] hB.size (by simp)).later hb) _ 20 c2 _ rfl (own2.row whole_bytes (by omega)) 24 rfl _ rfl (by omega) hB2.size ?_; intro a3 c3 W3 own3 hb3; have hB3 := hB2.trans hb3))
    go_ret2
    refine ⟨_, 24, _, by rw [HX.out]; rfl, ?_, hB3⟩
    rw [HB.out]
    exact own3
end Go.Proofs.Ytabpillcpnnidaa
