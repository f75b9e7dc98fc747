/- Parts of rows of bytes. -/
import Derived.Test.YtakikkigkmcffaaCon6
namespace Go.Proofs.Ytakikkigkmcffaa
open Go.RowKit

/-- The cells of a row, one by one. -/
theorem Row8.at {w : World} {a : Option Addr} {n : Nat} {l : List Int} (h : Row8 w a n l) (hn : 0 < n) : ∃ b off, a = some ⟨b, off, none⟩ ∧ ∀ i, i < n → w.cell? ⟨b, off + i, none⟩ = some (.int .u8 (l[i]?.getD 0)) := by
  obtain ⟨b, off, rfl, _⟩ := h.2.2.2 0 hn
  refine ⟨b, off, rfl, fun i hi => ?_⟩
  obtain ⟨b', off', e, hc⟩ := h.2.2.2 i hi
  simp only [Option.some.injEq, Addr.mk.injEq, and_true] at e
  obtain ⟨rfl, rfl⟩ := e
  exact hc
theorem Row8.take {w : World} {a : Option Addr} {n : Nat} {l : List Int} (h : Row8 w a n l) (k : Nat) (hk : k ≤ n) : Row8 w a k (l.take k) := by
  refine ⟨by rw [List.length_take, h.1]; omega, by have := h.2.1; omega, fun x hx => h.2.2.1 x (List.mem_of_mem_take hx), fun i hi => ?_⟩
  obtain ⟨b, off, e, hc⟩ := h.2.2.2 i (by omega)
  refine ⟨b, off, e, ?_⟩
  rw [hc, List.getElem?_take_of_lt hi]
theorem Row8.drop {w : World} {b off n : Nat} {l : List Int} (h : Row8 w (some ⟨b, off, none⟩) n l) (k : Nat) (hk : k ≤ n) : Row8 w (some ⟨b, off + k, none⟩) (n - k) (l.drop k) := by
  refine ⟨by rw [List.length_drop, h.1], by have := h.2.1; omega, fun x hx => h.2.2.1 x (List.mem_of_mem_drop hx), fun i hi => ?_⟩
  obtain ⟨b', off', e, hc⟩ := h.2.2.2 (k + i) (by omega)
  simp only [Option.some.injEq, Addr.mk.injEq, and_true] at e
  obtain ⟨rfl, rfl⟩ := e
  refine ⟨b, off + k, rfl, ?_⟩
  rw [List.getElem?_drop, Nat.add_assoc, hc]
/-- What is left behind k bytes. -/
theorem Row8.rest {w : World} {a : Option Addr} {n : Nat} {l : List Int} (h : Row8 w a n l) (k cap : Nat) (hk : k ≤ n) (hc : n ≤ cap) (b off : Nat) (ha : a = some ⟨b, off, none⟩) :
    Row8 w (if cap = k then some ⟨b, off, none⟩ else some ⟨b, off + k, none⟩) (n - k) (l.drop k) := by
  subst ha
  split
  · have hz : n - k = 0 := by omega
    rw [hz]
    refine ⟨by rw [List.length_drop, h.1]; exact hz, by omega, fun x hx => h.2.2.1 x (List.mem_of_mem_drop hx), fun i hi => by omega⟩
  · exact h.drop k hk
theorem Row8.none0 (w : World) (a : Option Addr) : Row8 w a 0 [] := ⟨rfl, by omega, (fun _ h => (by cases h)), fun i hi => by omega⟩
/-- What is left of a row of four bytes in a block. -/
theorem row_ad {W : World} {N : Nat} {a : Int} (h : Row8 W (some ⟨N, 0, none⟩) 4 (b4 a)) {l : Int} {n : Nat} (hn : nd l = n) (h4 : n ≤ 4) : Row8 W (some ⟨N, 0, none⟩) n (adB a l) := by
  have := h.take n h4
  unfold adB; rw [hn]; exact this
end Go.Proofs.Ytakikkigkmcffaa
