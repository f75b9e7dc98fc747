/- Contracts of the small functions of packets: isCommand, mayEntry, head, wholeEntry, Equal and the document's. -/
import Derived.Test.YtabpillcpnnidaaCon2
import Derived.Test.YtabpillcpnnidaaMat4
import Derived.Lib.QuietBelow
namespace Go.Proofs.Ytabpillcpnnidaa
open Go.RowKit

def cmdB (c : Int) : Bool := c == 1 || c == 2
theorem isCommand_any (c : Int) (w : World) {v : Bool} (hv : cmdB c = v) :
    Calls Try.prog 28 #[.int .i64 c] w fun e w' => e = .returned (.bool v) ∧ w' = w := by
  subst hv
  cases h1 : (c == 1)
  all_goals
    have HM : Hid (cmdB c = (c == 1 || c == 2)) := rfl
    rw [h1] at HM
    go_enter Try.func28, Try.ntmps28
    go_wp2
    go_ret
    exact ⟨ret_bool (by rw [HM.out]; rfl), rfl⟩

/-- An entry as a value. -/
def Ent.v (e : Ent) : Value := .agg #[.int .u32 e.a, .int .i64 e.l, .int .u16 e.t, .int .u32 e.x, .int .i64 e.m]

theorem mayEntry_any (a l t x m : Int) (w : World) (ha0 : 0 ≤ a) (ha1 : a < 4294967296) {v : Bool} (hv : mayE ⟨a, l, t, x, m⟩ = v) :
    Calls Try.prog 29 #[.agg #[.int .u32 a, .int .i64 l, .int .u16 t, .int .u32 x, .int .i64 m]] w fun e w' => e = .returned (.bool v) ∧ Below w.heap.size w w' := by
  subst hv
  have HM : Hid (mayE ⟨a, l, t, x, m⟩ = (mayB a l && decide (1 ≤ m) && decide (m ≤ 16))) := rfl
  cases hm : mayB a l
  · rw [hm] at HM
    go_enter Try.func29, Try.ntmps29
    go_wp2_with (go_at_call 39; refine (may_any _ _ _ ha0 ha1 hm).mono ?_; rintro e w' ⟨rfl, hb⟩)
    go_ret
    exact ⟨ret_bool HM.out.symm, Below.out1 hb⟩
  · rw [hm] at HM
    by_cases h1 : 1 ≤ m
    · have hd : decide (1 ≤ m) = true := by simp [h1]
      rw [hd] at HM
      go_enter Try.func29, Try.ntmps29
      go_wp2_with (go_at_call 39; refine (may_any _ _ _ ha0 ha1 hm).mono ?_; rintro e w' ⟨rfl, hb⟩; obtain ⟨hc, hf⟩ := bcell hb)
      go_ret
      exact ⟨ret_bool (by rw [HM.out]; rfl), Below.out1 hb⟩
    · have hd : decide (1 ≤ m) = false := by simpa using h1
      rw [hd] at HM
      go_enter Try.func29, Try.ntmps29
      go_wp2_with (go_at_call 39; refine (may_any _ _ _ ha0 ha1 hm).mono ?_; rintro e w' ⟨rfl, hb⟩; obtain ⟨hc, hf⟩ := bcell hb)
      go_ret
      exact ⟨ret_bool (by rw [HM.out]; rfl), Below.out1 hb⟩

theorem refEntry_any (a l t x m : Int) (w : World) (ha0 : 0 ≤ a) (ha1 : a < 4294967296) (hl0 : -9223372036854775808 ≤ l) (hl1 : l ≤ 9223372036854775807) {v : Bool} (hv : mayE ⟨a, l, t, x, m⟩ = v) :
    Calls Try.prog 21 #[.agg #[.int .u32 a, .int .i64 l, .int .u16 t, .int .u32 x, .int .i64 m]] w fun e w' => e = .returned (.bool v) ∧ Below w.heap.size w w' := by
  subst hv
  have HM : Hid (mayE ⟨a, l, t, x, m⟩ = (mayB a l && decide (1 ≤ m) && decide (m ≤ 16))) := rfl
  cases hm : mayB a l
  · rw [hm] at HM
    go_enter Try.func21, Try.ntmps21
    go_wp2_with (go_at_call 33; refine (refMay_any _ _ _ ha0 ha1 hl0 hl1 hm).mono ?_; rintro e w' ⟨rfl, hb⟩)
    go_ret
    exact ⟨ret_bool HM.out.symm, Below.out1 hb⟩
  · rw [hm] at HM
    by_cases h1 : 1 ≤ m
    · have hd : decide (1 ≤ m) = true := by simp [h1]
      rw [hd] at HM
      go_enter Try.func21, Try.ntmps21
      go_wp2_with (go_at_call 33; refine (refMay_any _ _ _ ha0 ha1 hl0 hl1 hm).mono ?_; rintro e w' ⟨rfl, hb⟩; obtain ⟨hc, hf⟩ := bcell hb)
      go_ret
      exact ⟨ret_bool (by rw [HM.out]; rfl), Below.out1 hb⟩
    · have hd : decide (1 ≤ m) = false := by simpa using h1
      rw [hd] at HM
      go_enter Try.func21, Try.ntmps21
      go_wp2_with (go_at_call 33; refine (refMay_any _ _ _ ha0 ha1 hl0 hl1 hm).mono ?_; rintro e w' ⟨rfl, hb⟩; obtain ⟨hc, hf⟩ := bcell hb)
      go_ret
      exact ⟨ret_bool (by rw [HM.out]; rfl), Below.out1 hb⟩

theorem head_any (c : Int) (w : World) (h0 : 0 ≤ c) (h1 : c ≤ 255) :
    Calls Try.prog 17 #[.int .i64 c] w fun e w' => e = .returned (.slice (some ⟨w.heap.size, 0, none⟩) 4 4) ∧ w' = w.alloc (.cells #[.int .u8 c, .int .u8 2, .int .u8 0, .int .u8 0] 5) := by
  go_enter Try.func17, Try.ntmps17
  go_wp2
  go_ret
  exact ⟨rfl, rfl⟩

theorem u8_inj {l m : List Int} (hl : Bytes l) (hm : Bytes m) (h : l.map (fun n => UInt8.ofNat n.toNat) = m.map (fun n => UInt8.ofNat n.toNat)) : l = m := by
  induction l generalizing m with
  | nil => cases m with
    | nil => rfl
    | cons y m => simp at h
  | cons x l ih => cases m with
    | nil => simp at h
    | cons y m =>
      simp only [List.map_cons, List.cons.injEq] at h
      have h1 := congrArg UInt8.toNat h.1
      have hx := hl x List.mem_cons_self
      have hy := hm y List.mem_cons_self
      simp only [UInt8.toNat_ofNat'] at h1
      rw [ih (fun n hn => hl n (List.mem_cons_of_mem _ hn)) (fun n hn => hm n (List.mem_cons_of_mem _ hn)) h.2]
      have : x = y := by omega
      rw [this]
theorem strOf_eq {l m : List Int} (hl : Bytes l) (hm : Bytes m) : ((strOfNums l).toList == (strOfNums m).toList) = decide (l = m) := by
  rw [Bool.eq_iff_iff, beq_iff_eq, decide_eq_true_eq]
  constructor
  · intro h
    rw [ByteArray.toList_eq, ByteArray.toList_eq] at h
    exact u8_inj hl hm h
  · rintro rfl; rfl

theorem equal_any (a b : Option Addr) (n m c d : Nat) (l k : List Int) (w : World) (hl : Row8 w a n l) (hk : Row8 w b m k) {v : Bool} (hv : decide (l = k) = v) :
    Calls Try.prog 25 #[.slice a n c, .slice b m d] w fun e w' => e = .returned (.bool v) ∧ w' = w := by
  subst hv
  have e1 := conv_any c hl
  have e2 := conv_any d hk
  have HE : Hid (((strOfNums l).toList == (strOfNums k).toList) = decide (l = k)) := strOf_eq hl.2.2.1 hk.2.2.1
  go_enter Try.func25, Try.ntmps25
  go_wp2
  go_ret
  exact ⟨ret_bool HE.out, rfl⟩
end Go.Proofs.Ytabpillcpnnidaa
