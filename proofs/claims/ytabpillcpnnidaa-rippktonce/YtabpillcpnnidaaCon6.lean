/- Slices of entries; the contract of may. -/
import Derived.Test.YtabpillcpnnidaaCon5
namespace Go.Proofs.Ytabpillcpnnidaa
open Go.RowKit

/-- The five cells of an entry, from offset o of block b on. -/
def E5 (W : World) (b o : Nat) (e : Ent) : Prop :=
  W.cell? ⟨b, o, none⟩ = some (.int .u32 e.a) ∧ W.cell? ⟨b, o + 1, none⟩ = some (.int .i64 e.l) ∧ W.cell? ⟨b, o + 2, none⟩ = some (.int .u16 e.t) ∧ W.cell? ⟨b, o + 3, none⟩ = some (.int .u32 e.x) ∧ W.cell? ⟨b, o + 4, none⟩ = some (.int .i64 e.m)
/-- What is known of a slice of entries: they are those of es. -/
def RowE (W : World) (a : Option Addr) (n : Nat) (es : List Ent) : Prop :=
  es.length = n ∧ Ents es ∧ ∀ i e, es[i]? = some e → ∃ b off, a = some ⟨b, off, none⟩ ∧ E5 W b (off + i * 5) e
theorem E5.later {W W' : World} {b o : Nat} {e : Ent} (h : E5 W b o e) (hb : Below W.heap.size W W') : E5 W' b o e :=
  ⟨cell_later hb h.1, cell_later hb h.2.1, cell_later hb h.2.2.1, cell_later hb h.2.2.2.1, cell_later hb h.2.2.2.2⟩
theorem RowE.later {W W' : World} {a : Option Addr} {n : Nat} {es : List Ent} (h : RowE W a n es) (hb : Below W.heap.size W W') : RowE W' a n es :=
  ⟨h.1, h.2.1, fun i e he => by obtain ⟨b, off, e1, h5⟩ := h.2.2 i e he; exact ⟨b, off, e1, h5.later hb⟩⟩
theorem RowE.at {W : World} {a : Option Addr} {n : Nat} {es : List Ent} (h : RowE W a n es) {k : Nat} (hk : k < n) : ∃ e b off, es[k]? = some e ∧ e.Ok ∧ a = some ⟨b, off, none⟩ ∧ E5 W b (off + k * 5) e := by
  have hl : k < es.length := by rw [h.1]; exact hk
  obtain ⟨b, off, e1, h5⟩ := h.2.2 k es[k] (List.getElem?_eq_getElem hl)
  exact ⟨es[k], b, off, List.getElem?_eq_getElem hl, h.2.1 _ (List.getElem_mem hl), e1, h5⟩
theorem all_take {es : List Ent} {k : Nat} {e : Ent} (he : es[k]? = some e) : (es.take (k + 1)).all mayE = ((es.take k).all mayE && mayE e) := by
  have hk : k < es.length := (List.getElem?_eq_some_iff.1 he).1
  rw [List.take_succ_eq_append_getElem hk, List.all_append]
  have := (List.getElem?_eq_some_iff.1 he).2
  simp [this]
theorem all_not {es : List Ent} {k : Nat} {e : Ent} (he : es[k]? = some e) (hm : mayE e = false) : es.all mayE = false := by
  rw [Bool.eq_false_iff]
  intro h
  have := List.all_eq_true.1 h e (List.mem_of_getElem? he)
  rw [hm] at this; cases this

theorem mayP_cmd {c : Int} {w : Bool} {es : List Ent} (h : cmdB c = false) : mayP c w es = false := by
  unfold mayP; unfold cmdB at h; rw [h]; rfl
theorem mayP_run {c : Int} {w : Bool} {es : List Ent} (h : cmdB c = true) (hw : (w && (c != 1 || decide (0 < es.length))) = false) : mayP c w es = es.all mayE := by
  unfold mayP; unfold cmdB at h; rw [h, hw]; rfl
theorem mayP_whole {c : Int} {w : Bool} {es : List Ent} (hw : (w && (c != 1 || decide (0 < es.length))) = true) : mayP c w es = false := by
  unfold mayP; rw [hw]; simp

set_option maxHeartbeats 1000000 in
theorem may16_any (c : Int) (wh : Bool) (a : Option Addr) (n cap : Nat) (es : List Ent) (w : World) (hr : RowE w a n es) (hn : n ≤ 25) {v : Bool} (hv : mayP c wh es = v) :
    Calls Try.prog 16 #[.agg #[.int .i64 c, .bool wh, .slice a n cap]] w fun e w' => e = .returned (.bool v) ∧ Below w.heap.size w w' := by
  subst hv
  have HR : Hid (RowE w a n es) := hr
  have HL : Hid (es.length = n) := hr.1
  clear hr
  cases hc : cmdB c
  · have HP : Hid (mayP c wh es = false) := mayP_cmd hc
    go_enter Try.func16, Try.ntmps16
    go_wp2_with (go_at_call 28; refine (isCommand_any _ _ hc).mono ?_; rintro e w' ⟨rfl, rfl⟩)
    go_ret
    exact ⟨ret_bool HP.out.symm, below1 _ _⟩
  · cases hw : (wh && (c != 1 || decide (0 < es.length)))
    · have HP : Hid (mayP c wh es = es.all mayE) := mayP_run hc hw
      rw [HL.out] at hw
      have key : (wh = false ∨ (wh = true ∧ (c != 1) = false ∧ ¬ 0 < n)) := by
        cases wh
        · exact .inl rfl
        · simp at hw; exact .inr ⟨rfl, by simp [hw.1], by omega⟩
      clear hw
      rcases key with rfl | ⟨rfl, hc1, hn0⟩
      · go_enter Try.func16, Try.ntmps16
        go_wp2_with (go_at_call 28; refine (isCommand_any _ _ hc).mono ?_; rintro e w' ⟨rfl, rfl⟩)
        go_loopw [27] (fun i W => ∃ k : Nat, k ≤ n ∧ i = .int .i64 k ∧ Below w.heap.size w W ∧ Hid ((es.take k).all mayE = true)) (fun i _ => n - (intOf i).toNat)
        case atStart => exact ⟨0, Nat.zero_le _, rfl, below1 _ _, rfl⟩
        case round =>
          obtain ⟨k, hk, rfl, hB, HT⟩ := hrel
          by_cases hlt : k < n
          · have hlt' : (k : Int) < (n : Int) := by omega
            obtain ⟨⟨ea, el, et, ex, em⟩, b, off, he, hok, rfl, h5⟩ := (HR.out.later hB).at hlt
            obtain ⟨d0, d1, d2, d3, d4⟩ := h5
            simp only at d0 d1 d2 d3 d4
            have ha0 : 0 ≤ ea := hok.a0
            have ha1 : ea < 4294967296 := hok.a1
            cases hm : mayE ⟨ea, el, et, ex, em⟩
            · have HF : Hid (es.all mayE = false) := all_not he hm
              clear hok he
              go_wp2_with (go_at_call 29; refine (mayEntry_any _ _ _ _ _ _ ha0 ha1 hm).mono ?_; rintro e w' ⟨rfl, hb⟩)
              go_ret
              exact ⟨ret_bool (by rw [HP.out, HF.out]), stp1 hB hb⟩
            · have HF : Hid ((es.take (k + 1)).all mayE = true) := by unfold Hid; rw [all_take he, HT.out, hm]; rfl
              clear hok he
              go_wp2_with (go_at_call 29; refine (mayEntry_any _ _ _ _ _ _ ha0 ha1 hm).mono ?_; rintro e w' ⟨rfl, hb⟩)
              go_roundw
              case rel => exact ⟨k + 1, by omega, by go_num, stp1 hB hb, HF⟩
              case measure => simp [intOf]; omega
          · obtain rfl : k = n := by omega
            have HE : Hid (es.all mayE = true) := by unfold Hid; rw [← HT.out, List.take_of_length_le (by rw [HL.out]; exact Nat.le_refl _)]
            go_wp2
            go_ret
            exact ⟨ret_bool (by rw [HP.out, HE.out]), hB⟩
      · go_enter Try.func16, Try.ntmps16
        go_wp2_with (go_at_call 28; refine (isCommand_any _ _ hc).mono ?_; rintro e w' ⟨rfl, rfl⟩)
        go_loopw [27] (fun i W => ∃ k : Nat, k ≤ n ∧ i = .int .i64 k ∧ Below w.heap.size w W ∧ Hid ((es.take k).all mayE = true)) (fun i _ => n - (intOf i).toNat)
        case atStart => exact ⟨0, Nat.zero_le _, rfl, below1 _ _, rfl⟩
        case round =>
          obtain ⟨k, hk, rfl, hB, HT⟩ := hrel
          obtain rfl : k = n := by omega
          have HE : Hid (es.all mayE = true) := by unfold Hid; rw [← HT.out, List.take_of_length_le (by rw [HL.out]; exact Nat.le_refl _)]
          go_wp2
          go_ret
          exact ⟨ret_bool (by rw [HP.out, HE.out]), hB⟩
    · have HP : Hid (mayP c wh es = false) := mayP_whole hw
      rw [HL.out] at hw
      simp only [Bool.and_eq_true, Bool.or_eq_true, decide_eq_true_eq] at hw
      obtain ⟨rfl, hw⟩ := hw
      cases hc1 : (c != 1)
      · have h0 : 0 < n := by rcases hw with h | h; rw [hc1] at h; cases h; exact h
        clear hw
        go_enter Try.func16, Try.ntmps16
        go_wp2_with (go_at_call 28; refine (isCommand_any _ _ hc).mono ?_; rintro e w' ⟨rfl, rfl⟩)
        go_ret
        exact ⟨ret_bool HP.out.symm, below1 _ _⟩
      · clear hw
        go_enter Try.func16, Try.ntmps16
        go_wp2_with (go_at_call 28; refine (isCommand_any _ _ hc).mono ?_; rintro e w' ⟨rfl, rfl⟩)
        go_ret
        exact ⟨ret_bool HP.out.symm, below1 _ _⟩
end Go.Proofs.Ytabpillcpnnidaa
