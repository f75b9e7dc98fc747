/- Contracts of readHello, readIhu, getTag, the document's num2 and num8. -/
import Derived.Test.YtakikkigkmcffaaCD1
namespace Go.Proofs.Ytakikkigkmcffaa
open Go.RowKit

set_option maxHeartbeats 400000 in
theorem readHello_any (a : Option Addr) (n cap : Nat) (l : List Int) (w : World) (hr : Row8 w a n l) (hn : n ≤ 3000) {x y : Int} (hx : g16 l 2 = x) (hy : g16 l 4 = y) {v : Bool} (hv : pairB l = v) :
    Calls Try.prog 60 #[.slice a n cap] w fun e w' => e = .returned (.tuple #[valT 0 x y 0 0 0 0 0 0, .bool v]) ∧ Below w.heap.size w w' := by
  have HR : Hid (Row8 w a n l) := hr
  have bx := g16_bd hr.2.2.1 2
  have by' := g16_bd hr.2.2.1 4
  rw [hx] at bx
  rw [hy] at by'
  have HX : Hid (g16 l 2 = x) := hx
  have HY : Hid (g16 l 4 = y) := hy
  obtain ⟨y0, y1⟩ := by'
  clear hr hx hy
  go_enter Try.func60, Try.ntmps60
  go_wp2_with (go_at_call 68; refine (readPair_any _ _ _ l _ (HR.out.later (below1 _ _)) hn HX.out HY.out hv).mono ?_; rintro e w' ⟨rfl, rfl⟩)
  exact bodyPost_ret (v := .tuple #[valT 0 x y 0 0 0 0 0 0, .bool v]) (by simp [results, Try.results60, go_sem]) rfl ⟨rfl, below1 _ _⟩
set_option maxHeartbeats 400000 in
theorem readIhu_any (a : Option Addr) (n cap : Nat) (l : List Int) (w : World) (hr : Row8 w a n l) (hn : n ≤ 3000) {x y : Int} (hx : g16 l 2 = x) (hy : g16 l 4 = y) {v : Bool} (hv : pairB l = v) :
    Calls Try.prog 61 #[.slice a n cap] w fun e w' => e = .returned (.tuple #[valT 1 0 y x 0 0 0 0 0, .bool v]) ∧ Below w.heap.size w w' := by
  have HR : Hid (Row8 w a n l) := hr
  have bx := g16_bd hr.2.2.1 2
  have by' := g16_bd hr.2.2.1 4
  rw [hx] at bx
  rw [hy] at by'
  have HX : Hid (g16 l 2 = x) := hx
  have HY : Hid (g16 l 4 = y) := hy
  obtain ⟨y0, y1⟩ := by'
  obtain ⟨x0, x1⟩ := bx
  clear hr hx hy
  go_enter Try.func61, Try.ntmps61
  go_wp2_with (go_at_call 68; refine (readPair_any _ _ _ l _ (HR.out.later (below1 _ _)) hn HX.out HY.out hv).mono ?_; rintro e w' ⟨rfl, rfl⟩)
  exact bodyPost_ret (v := .tuple #[valT 1 0 y x 0 0 0 0 0, .bool v]) (by simp [results, Try.results61, go_sem]) rfl ⟨rfl, below1 _ _⟩
theorem tag_len {l : List Int} (h0 : l.length ≠ 0) (h4 : l.length ≠ 4) : tagOk l = false := by unfold tagOk; simp [h0, h4]
theorem tag_0 {l : List Int} (h0 : l.length ≠ 0) (h : (at8 l 0 == 200) = false) : tagOk l = false := by unfold tagOk; simp [h0, h]
theorem tag_1 {l : List Int} (h0 : l.length ≠ 0) (h : (at8 l 1 == 2) = false) : tagOk l = false := by unfold tagOk; simp [h0, h]
theorem tag_yes {l : List Int} (h4 : l.length = 4) (h : (at8 l 0 == 200) = true) (h1 : (at8 l 1 == 2) = true) : tagOk l = (getV l 2 2 != 0) ∧ tagV l = getV l 2 2 := by
  unfold tagOk tagV; simp [h4, h, h1]
set_option maxHeartbeats 400000 in
theorem getTag_any (a : Option Addr) (n cap : Nat) (l : List Int) (w : World) (hr : Row8 w a n l) (hn : n ≤ 3000) {v : Bool} (hv : tagOk l = v) :
    Calls Try.prog 71 #[.slice a n cap] w fun e w' => ∃ x, e = .returned (.tuple #[.int .u16 x, .bool v]) ∧ (v = true → x = tagV l) ∧ w' = w := by
  subst hv
  have HR : Hid (Row8 w a n l) := hr
  have HL : Hid (l.length = n) := hr.1
  by_cases h0 : n = 0
  · subst h0
    have HV : Hid (tagOk l = true ∧ tagV l = 0) := by unfold Hid tagOk tagV; simp [HL.out]
    clear hr
    go_enter Try.func71, Try.ntmps71
    go_wp2
    go_ret2
    exact ⟨0, by rw [HV.out.1]; rfl, fun _ => HV.out.2.symm, rfl⟩
  have e0 : ((n : Int) == 0) = false := by rw [beq_eq_false_iff_ne]; omega
  by_cases h4 : n = 4
  · subst h4
    obtain ⟨b, off, rfl, hc⟩ := hr.at (by omega)
    have d0 := hc 0 (by omega)
    have d1 := hc 1 (by omega)
    rw [Nat.add_zero] at d0
    have E0 : Hid (at8 l 0 = l[0]?.getD 0) := rfl
    have E1 : Hid (at8 l 1 = l[1]?.getD 0) := rfl
    generalize l[0]?.getD 0 = x at d0 E0
    generalize l[1]?.getD 0 = y at d1 E1
    have HX : Hid (g16 l 2 = getV l 2 2) := g16_is (by rw [HL.out]; omega)
    obtain ⟨z, hz⟩ : ∃ z, getV l 2 2 = z := ⟨_, rfl⟩
    rw [hz] at HX
    have HZ : Hid (getV l 2 2 = z) := hz
    clear hr hc hz
    by_cases hx : x = 200
    · subst hx
      by_cases hy : y = 2
      · subst hy
        have HV : Hid (tagOk l = (z != 0) ∧ tagV l = z) := by unfold Hid; rw [← HZ.out]; exact tag_yes HL.out (by rw [E0.out]; rfl) (by rw [E1.out]; rfl)
        go_enter Try.func71, Try.ntmps71
        go_wp2_with (go_at_call 49; refine (get16_any _ _ _ l _ HR.out hn 2 HX.out).mono ?_; rintro e w' ⟨rfl, rfl⟩)
        go_ret2
        exact ⟨z, by rw [HV.out.1]; rfl, fun _ => HV.out.2.symm, rfl⟩
      · have e1 : (y != 2) = true := by simpa using hy
        have HV : Hid (tagOk l = false) := tag_1 (by rw [HL.out]; decide) (by rw [E1.out]; simpa using hy)
        clear hy
        go_enter Try.func71, Try.ntmps71
        go_wp2
        go_ret2
        exact ⟨0, by rw [HV.out]; rfl, fun h => (by rw [HV.out] at h; cases h), rfl⟩
    · have e1 : (x != 200) = true := by simpa using hx
      have HV : Hid (tagOk l = false) := tag_0 (by rw [HL.out]; decide) (by rw [E0.out]; simpa using hx)
      clear hx
      go_enter Try.func71, Try.ntmps71
      go_wp2
      go_ret2
      exact ⟨0, by rw [HV.out]; rfl, fun h => (by rw [HV.out] at h; cases h), rfl⟩
  · have e4 : ((n : Int) != 4) = true := by rw [bne_iff_ne]; omega
    have HV : Hid (tagOk l = false) := tag_len (by rw [HL.out]; exact h0) (by rw [HL.out]; exact h4)
    clear hr h4 h0
    go_enter Try.func71, Try.ntmps71
    go_wp2
    go_ret2
    exact ⟨0, by rw [HV.out]; rfl, fun h => (by rw [HV.out] at h; cases h), rfl⟩
section
variable (a : Option Addr) (n cap : Nat) (l : List Int) (w : World) (hr : Row8 w a n l) (hn : n ≤ 3000)
include hr hn
theorem num2_any (p : Nat) (h : p + 2 ≤ n) {v : Int} (hv : getV l p 2 = v) : Calls Try.prog 32 #[.slice a n cap, .int .i64 p] w fun e w' => e = .returned (.int .i64 v) ∧ w' = w := by
  have b := getV_h hr.2.2.1 p
  rw [hv] at b
  obtain ⟨b0, b1⟩ := b
  have HR : Hid (Row8 w a n l) := hr
  have HV : Hid (getV l p 2 = v) := hv
  clear hr hv
  go_enter Try.func32, Try.ntmps32
  go_wp2_with (go_at_call 51; refine (refGet_yes _ _ _ l p 2 _ HR.out hn (by omega) h).mono ?_; rintro e w' ⟨rfl, rfl⟩; rw [HV.out])
  go_ret
  exact ⟨rfl, rfl⟩
set_option maxHeartbeats 400000 in
theorem num8_any (p : Nat) (h : p + 8 ≤ n) {v : Int} (hv : v8 l p = v) : Calls Try.prog 66 #[.slice a n cap, .int .i64 p] w fun e w' => e = .returned (.int .u64 v) ∧ w' = w := by
  subst hv
  have b1 := getV_u hr.2.2.1 p
  have b2 := getV_u hr.2.2.1 (p + 4)
  have HR : Hid (Row8 w a n l) := hr
  have HV : Hid (v8 l p = getV l p 4 * 4294967296 + getV l (p + 4) 4) := rfl
  obtain ⟨x, hx⟩ : ∃ x, getV l p 4 = x := ⟨_, rfl⟩
  obtain ⟨y, hy⟩ : ∃ y, getV l (p + 4) 4 = y := ⟨_, rfl⟩
  rw [hx] at b1 HV
  rw [hy] at b2 HV
  have HX : Hid (getV l p 4 = x) := hx
  have HY : Hid (getV l (p + 4) 4 = y) := hy
  obtain ⟨x0, x1⟩ := b1
  obtain ⟨y0, y1⟩ := b2
  clear hr hx hy
  have hp4 : ((p : Int) + 4) = ((p + 4 : Nat) : Int) := by omega
  have HP4 : Hid (((p : Int) + 4) = ((p + 4 : Nat) : Int)) := hp4
  clear hp4
  go_enter Try.func66, Try.ntmps66
  go_wp2_with (first
    | (go_at_call_of 51 (Value.int IntKind.i64 (p : Int)); refine (refGet_yes _ _ _ l p 4 _ HR.out hn (by omega) (by omega)).mono ?_; rintro e w' ⟨rfl, rfl⟩; rw [HX.out])
    | (go_at_call 51; refine (refGet_yes _ _ _ l (p + 4) 4 _ HR.out hn (by omega) (by omega)).mono ?_; rintro e w' ⟨rfl, rfl⟩; rw [HY.out]))
  go_ret
  exact ⟨ret_int HV.out.symm, rfl⟩
end
end Go.Proofs.Ytakikkigkmcffaa
