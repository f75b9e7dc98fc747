/- awake; the laws BabelpktEncodes, BabelpktSqueezes and BabelpktShort, walked. -/
import Derived.Test.YtakikkigkmcffaaCE2
namespace Go.Proofs.Ytakikkigkmcffaa
open Go.RowKit

def exL : List Int := [42, 2, 0, 8, 4, 6, 0, 0, 0, 5, 1, 144]
def exT : Tlv := ⟨0, 5, 400, 0, 0, 0, 0, 0, 0⟩
theorem exT_ok : exT.Ok := by constructor <;> decide
theorem ex_enc : encX [exT] = 0 ∧ encB [exT] = exL := by
  have h : encX [exT] = 0 := by decide
  refine ⟨h, ?_⟩
  rw [encB_good h]; decide
theorem exL_bytes : Bytes exL := by unfold Bytes exL; decide
theorem ex_str : strOfNums exL = { data := #[42, 2, 0, 8, 4, 6, 0, 0, 0, 5, 1, 144] } := by decide
theorem conv_str {w : World} {a : Option Addr} {len : Nat} (cap : Nat) {l : List Int} (h : Row8 w a len l) : Sem.run Try.prog (convert 25 9 (.slice a len cap)) w = .ok (.string (strOfNums l)) w := conv8 25 5 9 Try.underlying25 Try.underlying5 Try.underlying9 cap h
set_option maxHeartbeats 400000 in
theorem awake_any (w : World) : Calls Try.prog 11 #[] w fun e w' => e = .returned (.bool true) ∧ Below w.heap.size w w' := by
  go_enter Try.func11, Try.ntmps11
  go_wp2_with (go_at_call 12; refine (encode_any _ 1 _ [exT] _ (rowT_one (T9.new w 0 5 400 0 0 0 0 0 0) rfl exT_ok) (by omega)).mono ?_; rintro e W1 ⟨ad, k, cp, rfl, own, hb⟩; rw [ex_enc.2] at own; have hk : 12 = k := own.len; subst hk; have v := conv_str cp (own.row exL_bytes (by omega)); rw [ex_str] at v; rw [ex_enc.1])
  go_ret
  exact ⟨rfl, Below.out1 hb⟩
set_option maxHeartbeats 1000000 in
theorem law_encodes (a : Option Addr) (n cap : Nat) (ts : List Tlv) (x y h : Int) (w : World) (hr : RowT w a n ts) (x0 : 0 ≤ x) (x1 : x ≤ 4294967295) (y0 : 0 ≤ y) (y1 : y ≤ 4294967295) :
    Calls Try.prog 3 #[.slice a n cap, .int .u32 x, .int .u32 y, .int .i64 h] w fun e w' => e = .returned (.bool true) ∧ Below w.heap.size w w' := by
  have HR : Hid (RowT w a n ts) := hr
  have HBy : Hid (Bytes (encB ts)) := encB_bytes hr.2.1
  have HSh : Hid ((encB ts).length ≤ 1284) := encB_short _
  have x2 : x < 4294967296 := by omega
  have y2 : y < 4294967296 := by omega
  obtain ⟨v, hv⟩ : ∃ v, sqI x y h = v := ⟨_, rfl⟩
  have HV : Hid (sqI x y h = v) := hv
  clear hr hv
  by_cases hn : n ≤ 60
  · have hn' : ¬ (60 : Int) < (n : Int) := by omega
    go_enter Try.func3, Try.ntmps3
    go_wp2_with (first
      | (go_at_call 11; refine (awake_any _).mono ?_; rintro e W1 ⟨rfl, hb1⟩)
      | (go_at_call 12; refine (encode_any _ _ _ ts _ (HR.out.later hb1) (by omega)).mono ?_; rintro e W2 ⟨ad2, k2, cp2, rfl, own2, hb2⟩; have hB2 := stp hb1 hb2)
      | (go_at_call 13; refine (refEncode_any _ _ _ ts _ (HR.out.later hB2) (by omega)).mono ?_; rintro e W3 ⟨ad3, k3, cp3, rfl, own3, hb3⟩; have hB3 := stp hB2 hb3; have hk2 : k2 ≤ 100000 := by { have h1 := own2.len; have h2 := HSh.out; omega }; have hk3 : k3 ≤ 100000 := by { have h1 := own3.len; have h2 := HSh.out; omega }; have v2 := conv_str cp2 ((own2.row HBy.out hk2).later hb3); have v3 := conv_str cp3 (own3.row HBy.out hk3); clear hk2 hk3)
      | (go_at_call 14; refine (squeeze_any _ _ _ _ x0 x2 y0 y2 HV.out).mono ?_; rintro e w' ⟨rfl, rfl⟩)
      | (go_at_call 15; refine (refSqueeze_any _ _ _ _ x0 x2 y0 y2 HV.out).mono ?_; rintro e W4 ⟨rfl, hb4⟩; have hB4 := stp hB3 hb4))
    go_ret
    exact ⟨rfl, hB4⟩
  · have hn' : (60 : Int) < (n : Int) := by omega
    go_enter Try.func3, Try.ntmps3
    go_wp2_with (first
      | (go_at_call 11; refine (awake_any _).mono ?_; rintro e W1 ⟨rfl, hb1⟩))
    go_ret
    exact ⟨rfl, hb1⟩
end Go.Proofs.Ytakikkigkmcffaa
