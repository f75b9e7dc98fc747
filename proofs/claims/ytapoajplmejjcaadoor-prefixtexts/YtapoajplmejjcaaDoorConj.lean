/- The contracts of the document's digits and Show. -/
import Derived.Test.YtapoajplmejjcaaDoorConi
import Derived.Test.YtapoajplmejjcaaDoorMatg
import Derived.Laws.BytesArg
namespace Go.Proofs.YtapoajplmejjcaaDoor
open Go.RowKit

theorem wrap_in {x : Int} (h0 : -9223372036854775808 ≤ x) (h1 : x ≤ 9223372036854775807) : IntKind.i64.wrap x = x := by
  simp [IntKind.wrap, IntKind.bits, IntKind.signed]
  omega
def oneB (d : Nat) : ByteArray := ⟨[UInt8.ofNat (48 + d)].toArray⟩
theorem oneB_size (d : Nat) : (oneB d).size = 1 := rfl

theorem conv_one (W : World) (b : Nat) (x : Int) (d : Nat) (hx : x = 48 + (d : Int)) (hd : d < 10) (h : W.cell? ⟨b, 0, none⟩ = some (.int .u8 x)) :
    Sem.run Tryd.prog (convert 48 9 (.slice (some ⟨b, 0, none⟩) 1 1)) W = .ok (.string (oneB d)) W := by
  have e := run_convert_bytes_arg (P := Tryd.prog) W 48 5 Tryd.underlying48 Tryd.underlying5 b 0 1 1 [x] rfl (fun i hi => by
    obtain rfl : i = 0 := by omega
    simpa using h) 9 Tryd.underlying9
  rw [show strOfNums [x] = oneB d from ?_] at e
  · exact e
  · subst hx
    have e2 : (48 + (d : Int)).toNat = 48 + d := by omega
    simp only [strOfNums, oneB, List.map_cons, List.map_nil, e2]

theorem one_cell (W : World) (x : Value) : (W.alloc (.cells #[x] 5)).cell? ⟨W.heap.size, 0, none⟩ = some x := by simp [go_sem]
theorem one_later {w w2 : World} {x : Value} (hb : Below (w.alloc (.cells #[x] 5)).drew.heap.size (w.alloc (.cells #[x] 5)).drew w2) : w2.cell? ⟨w.heap.size, 0, none⟩ = some x := by
  rw [hb.cell (by simp)]; simp [go_sem]

set_option maxHeartbeats 1000000 in
theorem digits_small (n : Nat) (w : World) (hn : n < 10) :
    Calls Tryd.prog 33 #[.int .i64 n] w fun e w' => e = .returned (.string (oneB n)) ∧ Below w.heap.size w w' := by
  have e1 := conv_one (w.alloc (.cells #[.int .u8 (48 + (n : Int))] 5)) w.heap.size (48 + (n : Int)) n rfl hn (by simp [go_sem])
  go_enter Tryd.func33, Tryd.ntmps33
  go_wp2
  go_ret
  exact ⟨rfl, below1 _ _⟩
set_option maxHeartbeats 400000 in
theorem digits_big (n : Nat) (w : World) (hn : 10 ≤ n) (hm : n ≤ 1000000000) (T : ByteArray) (hT : T.size ≤ 20)
    (ih : ∀ W, Calls Tryd.prog 33 #[.int .i64 (((n : Nat) : Int) / 10)] W fun e w' => e = .returned (.string T) ∧ Below W.heap.size W w') :
    Calls Tryd.prog 33 #[.int .i64 n] w fun e w' => e = .returned (.string (T ++ oneB (n % 10))) ∧ Below w.heap.size w w' := by
  have IH := (show Hid _ from ih)
  have n1 : ¬ 9223372036854775807 < T.size + (oneB (n % 10)).size := by rw [oneB_size]; omega
  have O : ∀ (W : World) (b : Nat), W.cell? ⟨b, 0, none⟩ = some (.int .u8 (48 + (n : Int) % 10)) → Sem.run Tryd.prog (convert 48 9 (.slice (some ⟨b, 0, none⟩) 1 1)) W = .ok (.string (oneB (n % 10))) W := fun W b h => conv_one W b _ (n % 10) (by omega) (by omega) h
  have HO := (show Hid _ from O)
  have v1 : IntKind.i64.wrap ((n : Int) / 10) = (n : Int) / 10 := wrap_in (by omega) (by omega)
  have v2 : ((n : Int)).tmod 10 = (n : Int) % 10 := Int.tmod_eq_emod_of_nonneg (by omega)
  have v3 : IntKind.i64.wrap (48 + (n : Int) % 10) = 48 + (n : Int) % 10 := wrap_in (by omega) (by omega)
  have v4 : IntKind.u8.wrap (48 + (n : Int) % 10) = 48 + (n : Int) % 10 := by rw [IntKind.wrap_u8']; omega
  have eC := O ((w.alloc (.cells #[.int .u8 (48 + (n : Int) % 10)] 5)).drew) w.heap.size (by simp [go_sem])
  clear ih O
  go_enter Tryd.func33, Tryd.ntmps33
  go_wp2
  go_region_with ((go_at_call 33; refine (IH.out _).mono ?_; rintro e w2 ⟨rfl, hb⟩; first
      | (have eB := HO.out w2 w.heap.size (one_later hb))
      | (have eA := HO.out (w2.alloc (.cells #[.int .u8 (48 + (n : Int) % 10)] 5)) w2.heap.size (one_cell w2 _))))
  all_goals
    go_wp2
    go_ret
    first
      | exact ⟨rfl, (below1 w _).drew.trans (hb.mono (by simp))⟩
      | exact ⟨rfl, stp ((Below.refl _ w).drew.trans hb) (below1 _ _)⟩

theorem dec_oneB (n : Nat) (h : n < 10) : (⟨(Lib.decDigits n).toArray⟩ : ByteArray) = oneB n := by rw [Lib.decDigits_one h]; rfl
theorem dec_nd (n : Nat) (h : n ≤ 1000000000) : (Lib.decDigits n).length ≤ 20 := by
  have := Lib.itoa_length_le (n : Int) (by omega) (by omega)
  by_cases hn : n = 0
  · subst hn; rw [Lib.decDigits_one (by omega)]; simp
  · have h2 := Lib.itoa_length_le (-(n : Int)) (by omega) (by omega)
    have e : Lib.itoa (-(n : Int)) = 45 :: Lib.decDigits n := by
      unfold Lib.itoa
      rw [if_pos (by omega)]
      simp
    rw [e, List.length_cons] at h2
    omega

theorem digits_nat (n : Nat) : n ≤ 1000000000 → ∀ (w : World), Calls Tryd.prog 33 #[.int .i64 n] w fun e w' => e = .returned (.string ⟨(Lib.decDigits n).toArray⟩) ∧ Below w.heap.size w w' := by
  induction n using Nat.strongRecOn with
  | _ n ih =>
    intro hm w
    by_cases hn : n < 10
    · rw [dec_oneB n hn]
      exact digits_small n w hn
    · have h := ih (n / 10) (by omega) (by omega)
      have hz : (⟨(Lib.decDigits (n / 10)).toArray⟩ : ByteArray).size ≤ 20 := by
        show (Lib.decDigits (n / 10)).toArray.size ≤ 20
        simp only [List.size_toArray]
        exact dec_nd _ (by omega)
      have e : (⟨(Lib.decDigits n).toArray⟩ : ByteArray) = ⟨(Lib.decDigits (n / 10)).toArray⟩ ++ oneB (n % 10) := by
        rw [Lib.decDigits, dif_neg hn]
        unfold oneB
        rw [cat_list]
      rw [e]
      refine digits_big n w (by omega) hm _ hz (fun W => ?_)
      have := h W
      rw [show (((n / 10 : Nat)) : Int) = (n : Int) / 10 by omega] at this
      exact this

set_option maxHeartbeats 1000000 in
theorem digits_neg (n : Int) (w : World) (hn : n < 0) (hm : -1000000000 ≤ n) (T : ByteArray) (hT : T.size ≤ 20)
    (IH : Hid (∀ W, Calls Tryd.prog 33 #[.int .i64 (-n)] W fun e w' => e = .returned (.string T) ∧ Below W.heap.size W w')) :
    Calls Tryd.prog 33 #[.int .i64 n] w fun e w' => e = .returned (.string ((⟨#[45]⟩ : ByteArray) ++ T)) ∧ Below w.heap.size w w' := by
  have n1 : ¬ 9223372036854775807 < 1 + T.size := by omega
  go_enter Tryd.func33, Tryd.ntmps33
  go_wp2_with (go_at_call 33; refine (IH.out _).mono ?_; rintro e w2 ⟨rfl, hb⟩)
  go_ret
  exact ⟨rfl, hb⟩

theorem digits_any (n : Int) (w : World) (h0 : -1000000000 ≤ n) (h1 : n ≤ 1000000000) :
    Calls Tryd.prog 33 #[.int .i64 n] w fun e w' => e = .returned (.string ⟨(Lib.itoa n).toArray⟩) ∧ Below w.heap.size w w' := by
  by_cases hn : n < 0
  · obtain ⟨m, hm⟩ := Int.eq_ofNat_of_zero_le (show 0 ≤ -n by omega)
    have e : Lib.itoa n = 45 :: Lib.decDigits m := by
      unfold Lib.itoa
      rw [if_pos hn, show n.natAbs = m by omega]
    have h := digits_neg n w hn h0 ⟨(Lib.decDigits m).toArray⟩ (by show (Lib.decDigits m).toArray.size ≤ 20; simp only [List.size_toArray]; exact dec_nd _ (by omega)) (fun W => by rw [hm]; exact digits_nat m (by omega) W)
    rw [e]
    rw [show (⟨#[45]⟩ : ByteArray) = ⟨([45] : List UInt8).toArray⟩ from rfl, cat_list] at h
    exact h
  · obtain ⟨m, rfl⟩ := Int.eq_ofNat_of_zero_le (show 0 ≤ n by omega)
    rw [itoa_nat]
    exact digits_nat m (by omega) w
end Go.Proofs.YtapoajplmejjcaaDoor
