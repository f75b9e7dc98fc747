/- The document's Encode, for every packet; awake. -/
import Derived.Test.YtabpillcpnnidaaCon8
namespace Go.Proofs.Ytabpillcpnnidaa
open Go.RowKit

set_option maxHeartbeats 1000000 in
theorem refEncode_any (c : Int) (wh : Bool) (a : Option Addr) (n cap : Nat) (es : List Ent) (w : World) (hr : RowE w a n es) (hn : n ≤ 100) :
    Calls Try.prog 12 #[.agg #[.int .i64 c, .bool wh, .slice a n cap]] w fun e w' => ∃ ad k cp, e = .returned (.tuple #[.slice ad k cp, .int .i64 (encX c wh es)]) ∧ Own8 w' w.heap.size 5 (.slice ad k cp) k (encB c wh es) ∧ Below w.heap.size w w' := by
  have HL : Hid (es.length = n) := hr.1
  by_cases h25 : 25 < n
  · have HX : Hid (encX c wh es = 9) := encX_long (by rw [HL.out]; exact h25)
    have HB : Hid (encB c wh es = []) := encB_bad (by rw [HX.out]; decide)
    go_enter Try.func12, Try.ntmps12
    go_wp2
    go_ret2
    refine ⟨none, 0, 0, by rw [HX.out]; rfl, ?_, below1 _ _⟩
    rw [HB.out]; exact own8_nil _ _ _
  have hn25 : n ≤ 25 := by omega
  clear hn
  by_cases hc : c = 1 ∨ c = 2
  · cases hw : wh
    · exact refEncode_run c a n cap es w hr hn25 hc
    · clear hr
      by_cases hw' : c = 1 ∧ n = 0
      · obtain ⟨rfl, rfl⟩ := hw'
        obtain rfl : es = [] := List.eq_nil_of_length_eq_zero HL.out
        have HX : Hid (encX 1 true [] = 0) := rfl
        have HB : Hid (encB 1 true [] = [1, 2, 0, 0] ++ wholeL) := encB_whole HX.out
        clear HL h25 hn25 hc
        go_enter Try.func12, Try.ntmps12
        go_wp2_with (first
          | (go_at_call 20; refine (refWhole_any _).mono ?_; rintro e w' ⟨rfl, rfl⟩)
          | (at_builtin; refine wpList_app8 _ rfl (.tmp 41) (.tmp 42) 26 5 rfl (w.heap.size + 1) Try.underlying26 info5 _ 4 _ rfl ((own8_at (w.alloc (objP 1 true a 0 cap)) (w.heap.size + 1) (by simp) (w.heap.size + 1) 5 [1, 2, 0, 0] (Nat.le_refl _) (by simp)).alloc _) _ 20 20 wholeL rfl (row8_at _ _ (by simp) wholeL 5 20 rfl whole_bytes (by decide)) 24 rfl _ rfl (by omega) (by simp <;> omega) ?_; intro a3 c3 W3 own3 hb3; have hB3 := out8 ((((Below.refl (w.heap.size + 1) (w.alloc (objP 1 true a 0 cap))).alloc (by simp) (hdO 1)).alloc (by simp <;> omega) _).trans hb3)))
        go_ret2
        refine ⟨_, 24, _, by rw [HX.out]; rfl, ?_, hB3⟩
        rw [HB.out]
        exact own3.base (by omega)
      · have HP : Hid (mayP c true es = false) := mayP_whole (by
          simp only [Bool.true_and, Bool.or_eq_true, bne_iff_ne, decide_eq_true_eq]
          rcases hc with rfl | rfl
          · right; rw [HL.out]; omega
          · left; decide)
        have HX : Hid (encX c true es = 1) := encX_arg (by rw [HL.out]; exact hn25) HP.out
        have HB : Hid (encB c true es = []) := encB_bad (by rw [HX.out]; decide)
        rcases hc with rfl | rfl
        · have h0 : 0 < n := by omega
          clear hw'
          go_enter Try.func12, Try.ntmps12
          go_wp2
          go_ret2
          refine ⟨none, 0, 0, by rw [HX.out]; rfl, ?_, below1 _ _⟩
          rw [HB.out]; exact own8_nil _ _ _
        · clear hw'
          go_enter Try.func12, Try.ntmps12
          go_wp2
          go_ret2
          refine ⟨none, 0, 0, by rw [HX.out]; rfl, ?_, below1 _ _⟩
          rw [HB.out]; exact own8_nil _ _ _
  · clear hr
    have HP : Hid (mayP c wh es = false) := mayP_cmd (by unfold cmdB; simp; omega)
    have HX : Hid (encX c wh es = 1) := encX_arg (by rw [HL.out]; exact hn25) HP.out
    have HB : Hid (encB c wh es = []) := encB_bad (by rw [HX.out]; decide)
    have e1 : (c != 1) = true := by rw [bne_iff_ne]; omega
    have e2 : (c != 2) = true := by rw [bne_iff_ne]; omega
    clear hc
    go_enter Try.func12, Try.ntmps12
    go_wp2
    go_ret2
    refine ⟨none, 0, 0, by rw [HX.out]; rfl, ?_, below1 _ _⟩
    rw [HB.out]; exact own8_nil _ _ _

theorem rowE_none (W : World) : RowE W none 0 [] := ⟨rfl, (fun _ h => by cases h), fun i e h => by simp at h⟩
theorem encW : encX 1 true [] = 0 ∧ encB 1 true [] = [1, 2, 0, 0] ++ wholeL := ⟨rfl, encB_whole rfl⟩
theorem encW_bytes : Bytes ([1, 2, 0, 0] ++ wholeL) := by unfold Bytes; decide
/-- The cells of a row, one by one. -/
theorem Row8.at {w : World} {a : Option Addr} {n : Nat} {l : List Int} (h : Row8 w a n l) (hn : 0 < n) : ∃ b off, a = some ⟨b, off, none⟩ ∧ ∀ i, i < n → w.cell? ⟨b, off + i, none⟩ = some (.int .u8 (l[i]?.getD 0)) := by
  obtain ⟨b, off, rfl, _⟩ := h.2.2.2 0 hn
  refine ⟨b, off, rfl, fun i hi => ?_⟩
  obtain ⟨b', off', e, hc⟩ := h.2.2.2 i hi
  simp only [Option.some.injEq, Addr.mk.injEq, and_true] at e
  obtain ⟨rfl, rfl⟩ := e
  exact hc

set_option maxHeartbeats 1000000 in
theorem awake_any (w : World) : Calls Try.prog 10 #[] w fun e w' => e = .returned (.bool true) ∧ Below w.heap.size w w' := by
  go_enter Try.func10, Try.ntmps10
  go_wp2_with (go_at_call 11; refine (encode_any _ _ _ _ _ [] _ (rowE_none _) (by omega)).mono ?_; rintro e w' ⟨ad, k, cp, rfl, own, hb⟩; rw [encW.2] at own; have hk : 24 = k := by { have := own.1; simpa [wholeL] using this }; subst hk; obtain ⟨b, off, rfl, hc⟩ := (own.row encW_bytes (by omega)).at (by omega); rw [encW.1]; have c0 := hc 0 (by omega); have c1 := hc 1 (by omega); have c23 := hc 23 (by omega); rw [show ([1, 2, 0, 0] ++ wholeL)[0]?.getD 0 = 1 from rfl, Nat.add_zero] at c0; rw [show ([1, 2, 0, 0] ++ wholeL)[1]?.getD 0 = 2 from rfl] at c1; rw [show ([1, 2, 0, 0] ++ wholeL)[23]?.getD 0 = 16 from rfl] at c23; clear hc)
  go_ret
  exact ⟨rfl, hb⟩
end Go.Proofs.Ytabpillcpnnidaa
