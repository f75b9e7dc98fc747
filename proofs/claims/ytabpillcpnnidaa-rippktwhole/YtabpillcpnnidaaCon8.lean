/- The contract of the document's Encode. -/
import Derived.Test.YtabpillcpnnidaaMat6
namespace Go.Proofs.Ytabpillcpnnidaa
open Go.RowKit

theorem mayP_all {c : Int} {w : Bool} {es : List Ent} (h : mayP c w es = true) : (c = 1 ∨ c = 2) ∧ (w = true → c = 1 ∧ es = []) ∧ es.all mayE = true := by
  by_cases h25 : es.length ≤ 25
  · have := encX_zero (encX_ok h25 h); exact ⟨this.2.1, this.2.2.1, this.2.2.2⟩
  · simp only [mayP, Bool.and_eq_true, Bool.or_eq_true, beq_iff_eq, Bool.not_eq_true', Bool.and_eq_false_iff, Bool.or_eq_false_iff, bne_eq_false_iff_eq, decide_eq_false_iff_not] at h
    refine ⟨h.1.1, fun hw => ?_, h.2⟩
    rcases h.1.2 with h1 | h1
    · rw [hw] at h1; cases h1
    · exact ⟨h1.1, List.eq_nil_of_length_eq_zero (by omega)⟩

theorem out8 {w W : World} {o : Obj} (h : Below (w.heap.size + 1) (w.alloc o) W) : Below w.heap.size w W := (below1 w o).trans (h.mono (by omega))
theorem boxP {w W : World} {c : Int} {wh : Bool} {a : Option Addr} {n cap : Nat} (h : Below (w.heap.size + 1) (w.alloc (objP c wh a n cap)) W) : P3 W w.heap.size c wh a n cap :=
  (P3.new w c wh a n cap).later (by simpa using h)

theorem E5.z {W : World} {N : Nat} {a l t x m : Int} (h : E5 W N 0 ⟨a, l, t, x, m⟩) : W.cell? ⟨N, 0, none⟩ = some (.int .u32 a) ∧ W.cell? ⟨N, 1, none⟩ = some (.int .i64 l) ∧ W.cell? ⟨N, 2, none⟩ = some (.int .u16 t) ∧ W.cell? ⟨N, 3, none⟩ = some (.int .u32 x) ∧ W.cell? ⟨N, 4, none⟩ = some (.int .i64 m) := h
theorem flat_end (L : List Int) (a l t x m : Int) : L ++ [0, 2] ++ b2 t ++ b4 a ++ b4 (maskV l) ++ b4 x ++ b4 m = L ++ encE ⟨a, l, t, x, m⟩ := by simp [encE, List.append_assoc]
set_option maxHeartbeats 2000000 in
theorem refEncode_run (c : Int) (a : Option Addr) (n cap : Nat) (es : List Ent) (w : World) (hr : RowE w a n es) (hn : n ≤ 25) (hc : c = 1 ∨ c = 2) :
    Calls Try.prog 12 #[.agg #[.int .i64 c, .bool false, .slice a n cap]] w fun e w' => ∃ ad k cp, e = .returned (.tuple #[.slice ad k cp, .int .i64 (encX c false es)]) ∧ Own8 w' w.heap.size 5 (.slice ad k cp) k (encB c false es) ∧ Below w.heap.size w w' := by
  have HR : Hid (RowE w a n es) := hr
  have HL : Hid (es.length = n) := hr.1
  have hc0 : 0 ≤ c := by omega
  have hc1 : c ≤ 255 := by omega
  have HC : Hid (mayP c false es = es.all mayE) := by
    unfold Hid mayP; rcases hc with rfl | rfl <;> simp
  clear hr
  have key : (c != 1) = false ∨ ((c != 1) = true ∧ (c != 2) = false) := by rcases hc with rfl | rfl <;> simp
  clear hc
  rcases key with e1 | ⟨e1, e2⟩
  all_goals
    go_enter Try.func12, Try.ntmps12
    go_wp2
    have HO := own8_at (w.alloc (objP c false a n cap)) (w.heap.size + 1) (by simp) (w.heap.size + 1) 5 [c, 2, 0, 0] (Nat.le_refl _) (by simp)
    go_loopw [4, 5] (fun u i W => ∃ k : Nat, ∃ ad cp, k ≤ n ∧ i = .int .i64 k ∧ u = .slice ad (4 + 20 * k) cp ∧ Hid (Own8 W (w.heap.size + 1) 5 (.slice ad (4 + 20 * k) cp) (4 + 20 * k) ([c, 2, 0, 0] ++ (es.take k).flatMap encE)) ∧ Below (w.heap.size + 1) (w.alloc (objP c false a n cap)) W ∧ Hid ((es.take k).all mayE = true)) (fun _ i _ => n - (intOf i).toNat)
    case atStart => exact ⟨0, _, _, Nat.zero_le _, rfl, rfl, by unfold Hid; simpa using HO, (Below.refl _ _).alloc (by simp) _, rfl⟩
    case round =>
      clear HO
      obtain ⟨k, ad, cp, hk, rfl, rfl, HO, hB, HT⟩ := hrel
      obtain ⟨g0, g1, g2, z⟩ := boxP hB
      by_cases hlt : k < n
      · have hlt' : (k : Int) < (n : Int) := by omega
        obtain ⟨⟨ea, el, et, ex, em⟩, b, off, he, hok, rfl, h5⟩ := (HR.out.later (out8 hB)).at hlt
        obtain ⟨d0, d1, d2, d3, d4⟩ := h5
        simp only at d0 d1 d2 d3 d4
        have ha0 : 0 ≤ ea := hok.a0
        have ha1 : ea < 4294967296 := hok.a1
        have hl0 : -9223372036854775808 ≤ el := hok.l0
        have hl1 : el ≤ 9223372036854775807 := hok.l1
        cases hm : mayE ⟨ea, el, et, ex, em⟩
        · have HF : Hid (encX c false es = 1) := encX_arg (by rw [HL.out]; exact hn) (by rw [HC.out]; exact all_not he hm)
          have HB : Hid (encB c false es = []) := encB_bad (by rw [HF.out]; decide)
          clear hok he
          go_wp2_with (go_at_call 21; refine (refEntry_any _ _ _ _ _ _ ha0 ha1 hl0 hl1 hm).mono ?_; rintro e w' ⟨rfl, hb⟩)
          go_ret2
          refine ⟨none, 0, 0, by rw [HF.out]; rfl, ?_, stp1 (out8 hB) hb⟩
          rw [HB.out]; exact own8_nil _ _ _
        · have HT' : Hid ((es.take (k + 1)).all mayE = true) := by unfold Hid; rw [all_take he, HT.out, hm]; rfl
          have HF : Hid (([c, 2, 0, 0] ++ (es.take k).flatMap encE) ++ encE ⟨ea, el, et, ex, em⟩ = [c, 2, 0, 0] ++ (es.take (k + 1)).flatMap encE) := take_flat he _
          clear he
          have ne1 := HO.out.not_new
          have ht0 : 0 ≤ et := hok.t0
          have ht1 : et ≤ 65535 := hok.t1
          have hx0 : 0 ≤ ex := hok.x0
          have hx1 : ex ≤ 4294967295 := hok.x1
          have HM : Hid (0 ≤ maskV el ∧ maskV el ≤ 4294967295) := by have := maskV_bd el; exact ⟨this.1, by omega⟩
          obtain ⟨-, hv0, hv1, hm0, hm1⟩ := mayE_all hm
          simp only at hv0 hv1 hm0 hm1
          clear hok
          go_wp2_with (first
            | (go_at_call 21; refine (refEntry_any _ _ _ _ _ _ ha0 ha1 hl0 hl1 hm).mono ?_; rintro e W1 ⟨rfl, hb⟩; have hB1 := (hB.alloc (by omega) _).trans (hb.mono (by simp; omega)); have own1 := (HO.out.later (below1 _ _)).later hb; have F1 := (E5.new wr ea el et ex em).later hb; obtain ⟨q0, q1, q2, q3, q4⟩ := F1.z; have sz1 := hb.size; simp at sz1)
            | (go_at_call 23; refine (refMask_any _ _ hl0 hl1).mono ?_; rintro e w' ⟨rfl, rfl⟩)
            | (go_at_call_of 22 (Value.int IntKind.i64 2); refine (refPut2 _ _ ht0 ht1).mono ?_; rintro e w' ⟨rfl, rfl⟩)
            | (go_at_call_of 22 (Value.int IntKind.i64 4); refine (refPut4 _ _ (by first | omega | exact HM.out.1) (by first | omega | exact HM.out.2)).mono ?_; rintro e w' ⟨rfl, rfl⟩)
            | (at_builtin; refine wpList_app8f _ wr.heap.size rfl (.tmp 60) (.tmp 61) 26 5 rfl (by simp; omega) (w.heap.size + 1) Try.underlying26 info5 _ (4 + 20 * k) _ rfl (own1.alloc _) ne1 _ 2 2 [0, 2] rfl (row8_at _ _ rfl [0, 2] 5 2 rfl bytes02 (by simp)) (4 + 20 * k + 2) (by omega) _ rfl (by omega) (by simp; omega) ?_; intro a2 c2 W2 own2 hb2 ne2 far2 sz2; have hB2 := (hB1.alloc (by omega) _).trans hb2; simp at sz2; have F2 := (F1.later (below1 _ _)).far far2; clear far2; obtain ⟨q0, q1, q2, q3, q4⟩ := F2.z)
            | (at_builtin; refine wpList_app8f _ wr.heap.size rfl (.tmp 63) (.tmp 67) 26 5 rfl (by simp; omega) (w.heap.size + 1) Try.underlying26 info5 _ (4 + 20 * k + 2) _ rfl (own2.alloc _) ne2 _ 2 2 (b2 et) rfl (row8_at _ _ rfl (b2 et) 5 2 rfl (b2_bytes ht0 ht1) (by simp [b2])) (4 + 20 * k + 4) (by omega) _ rfl (by omega) (by simp; omega) ?_; intro a3 c3 W3 own3 hb3 ne3 far3 sz3; have hB3 := (hB2.alloc (by omega) _).trans hb3; simp at sz3; have F3 := (F2.later (below1 _ _)).far far3; clear far3; obtain ⟨q0, q1, q2, q3, q4⟩ := F3.z)
            | (at_builtin; refine wpList_app8f _ wr.heap.size rfl (.tmp 69) (.tmp 73) 26 5 rfl (by simp; omega) (w.heap.size + 1) Try.underlying26 info5 _ (4 + 20 * k + 4) _ rfl (own3.alloc _) ne3 _ 4 4 (b4 ea) rfl (row8_at _ _ rfl (b4 ea) 5 4 rfl (b4_bytes ha0 (by omega)) (by simp [b4])) (4 + 20 * k + 8) (by omega) _ rfl (by omega) (by simp; omega) ?_; intro a4 c4 W4 own4 hb4 ne4 far4 sz4; have hB4 := (hB3.alloc (by omega) _).trans hb4; simp at sz4; have F4 := (F3.later (below1 _ _)).far far4; clear far4; obtain ⟨q0, q1, q2, q3, q4⟩ := F4.z)
            | (at_builtin; refine wpList_app8f _ wr.heap.size rfl (.tmp 75) (.tmp 80) 26 5 rfl (by simp; omega) (w.heap.size + 1) Try.underlying26 info5 _ (4 + 20 * k + 8) _ rfl (own4.alloc _) ne4 _ 4 4 (b4 (maskV el)) rfl (row8_at _ _ rfl (b4 (maskV el)) 5 4 rfl (b4_bytes HM.out.1 HM.out.2) (by simp [b4])) (4 + 20 * k + 12) (by omega) _ rfl (by omega) (by simp; omega) ?_; intro a5 c5 W5 own5 hb5 ne5 far5 sz5; have hB5 := (hB4.alloc (by omega) _).trans hb5; simp at sz5; have F5 := (F4.later (below1 _ _)).far far5; clear far5; obtain ⟨q0, q1, q2, q3, q4⟩ := F5.z)
            | (at_builtin; refine wpList_app8f _ wr.heap.size rfl (.tmp 82) (.tmp 85) 26 5 rfl (by simp; omega) (w.heap.size + 1) Try.underlying26 info5 _ (4 + 20 * k + 12) _ rfl (own5.alloc _) ne5 _ 4 4 (b4 ex) rfl (row8_at _ _ rfl (b4 ex) 5 4 rfl (b4_bytes hx0 hx1) (by simp [b4])) (4 + 20 * k + 16) (by omega) _ rfl (by omega) (by simp; omega) ?_; intro a6 c6 W6 own6 hb6 ne6 far6 sz6; have hB6 := (hB5.alloc (by omega) _).trans hb6; simp at sz6; have F6 := (F5.later (below1 _ _)).far far6; clear far6; obtain ⟨q0, q1, q2, q3, q4⟩ := F6.z)
            | (at_builtin; refine wpList_app8f _ wr.heap.size rfl (.tmp 87) (.tmp 91) 26 5 rfl (by simp; omega) (w.heap.size + 1) Try.underlying26 info5 _ (4 + 20 * k + 16) _ rfl (own6.alloc _) ne6 _ 4 4 (b4 em) rfl (row8_at _ _ rfl (b4 em) 5 4 rfl (b4_bytes (by omega) (by omega)) (by simp [b4])) (4 + 20 * (k + 1)) (by omega) _ ((flat_end _ _ _ _ _ _).trans HF.out) (by omega) (by simp; omega) ?_; intro a7 c7 W7 own7 hb7 ne7 far7 sz7; have hB7 := (hB6.alloc (by omega) _).trans hb7; simp at sz7; have F7 := (F6.later (below1 _ _)).far far7; clear far7; obtain ⟨q0, q1, q2, q3, q4⟩ := F7.z))
          go_roundw
          case rel => exact ⟨k + 1, a7, c7, by omega, by go_num, rfl, own7, hB7, HT'⟩
          case measure => simp [intOf]; omega
      · obtain rfl : k = n := by omega
        have HE : Hid (es.take k = es) := List.take_of_length_le (by rw [HL.out]; exact Nat.le_refl _)
        have HX : Hid (encX c false es = 0) := encX_ok (by rw [HL.out]; exact hn) (by rw [HC.out, ← HE.out]; exact HT.out)
        go_wp2
        go_ret2
        refine ⟨ad, 4 + 20 * k, cp, by rw [HX.out]; rfl, ?_, out8 hB⟩
        rw [encB_plain HX.out]
        have := HO.out
        rw [HE.out] at this
        exact this.base (by omega)
end Go.Proofs.Ytabpillcpnnidaa
