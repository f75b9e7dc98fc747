/- The contract of readPrefix. -/
import Derived.Test.YtakikkigkmcffaaCD2
import Derived.Test.YtakikkigkmcffaaCW5
import Derived.Laws.CopyOwn
namespace Go.Proofs.Ytakikkigkmcffaa
open Go.RowKit

theorem pfx_len {last l : Int} {om : Nat} {b : List Int} (h : 32 < l) : pfxOk last l om b = false := by unfold pfxOk; rw [decide_eq_false (by omega)]; rfl
theorem pfx_om {last l : Int} {om : Nat} {b : List Int} (h : nd l < om) : pfxOk last l om b = false := by unfold pfxOk; rw [decide_eq_false (p := om ≤ nd l) (by omega)]; simp
theorem pfx_short {last l : Int} {om : Nat} {b : List Int} (h : b.length < nd l - om) : pfxOk last l om b = false := by unfold pfxOk; rw [decide_eq_false (p := nd l - om ≤ b.length) (by omega)]; simp
theorem pfx_yes {last l : Int} {om : Nat} {b : List Int} (h1 : l ≤ 32) (h2 : om ≤ nd l) (h3 : nd l - om ≤ b.length) : pfxOk last l om b = mayB (mix last om (b.take (nd l - om))) l := by
  unfold pfxOk; simp [h1, h2, h3]
/-- Where there is no such prefix. -/
def noPfx (l om n : Int) : Prop := 32 < l ∨ (l ≤ 32 ∧ (l + 7) / 8 < om) ∨ (l ≤ 32 ∧ om ≤ (l + 7) / 8 ∧ n < (l + 7) / 8 - om)
set_option maxHeartbeats 400000 in
theorem readPrefix_no (x l om : Int) (a : Option Addr) (n cap : Nat) (w : World) (l0 : 0 ≤ l) (l1 : l ≤ 255) (o0 : 0 ≤ om) (o1 : om ≤ 255) (h : noPfx l om n) :
    Calls Try.prog 70 #[.int .u32 x, .int .i64 l, .int .i64 om, .slice a n cap] w fun e w' => e = .returned (.tuple #[.agg #[.int .u32 0, .int .i64 0], .slice none 0 0, .bool false]) ∧ Below w.heap.size w w' := by
  obtain ⟨d, hd⟩ : ∃ d, nd l = d := ⟨_, rfl⟩
  have HD : Hid (nd l = d) := hd
  have hd2 : (d : Int) = (l + 7) / 8 := by rw [← hd]; unfold nd; omega
  have h' : 32 < l ∨ (l ≤ 32 ∧ (d : Int) < om) ∨ (l ≤ 32 ∧ om ≤ (d : Int) ∧ (n : Int) < (d : Int) - om) := by rw [hd2]; exact h
  have hd3 : d ≤ 40 := by omega
  clear h hd hd2
  rcases h' with h1 | ⟨h1, h2⟩ | ⟨h1, h2, h3⟩
  all_goals
    go_enter Try.func70, Try.ntmps70
    go_wp2_with (go_at_call 38; refine (needs_any _ _ l0 l1 HD.out).mono ?_; rintro e w' ⟨rfl, rfl⟩)
    exact bodyPost_ret (v := .tuple #[.agg #[.int .u32 0, .int .i64 0], .slice none 0 0, .bool false]) (by simp [results, Try.results70, go_sem]) rfl ⟨rfl, below1 _ _⟩
end Go.Proofs.Ytakikkigkmcffaa
