/- The contract of the document's Get. -/
import Derived.Test.YtofmgkpghkeegaaJouR
namespace Go.Proofs.Ytofmgkpghkeegaa
open Go.RowKit

theorem last_hit {k y : Int} {L : List Fc} {j : Nat} {p : Fc} (h : L[j]? = some p) (h1 : p.k = k) (h2 : p.y = y) (hn : lastF k y (L.drop (j + 1)) = none) : lastF k y L = some p.n := by
  have hj := (List.getElem?_eq_some_iff.1 h).1
  have e : L = L.take (j + 1) ++ L.drop (j + 1) := (List.take_append_drop _ _).symm
  rw [e, lastF_append, hn, List.take_add_one, h]
  simp only [Option.none_or, Option.toList_some, lastF_snoc, h1, h2, and_self, if_true]
theorem last_miss {k y : Int} {L : List Fc} {j : Nat} {p : Fc} (h : L[j]? = some p) (h1 : ¬ (p.k = k ∧ p.y = y)) (hn : lastF k y (L.drop (j + 1)) = none) : lastF k y (L.drop j) = none := by
  have hj := (List.getElem?_eq_some_iff.1 h).1
  rw [List.drop_eq_getElem_cons hj, (List.getElem?_eq_some_iff.1 h).2, lastF, hn, if_neg h1]
  rfl
set_option maxHeartbeats 1000000 in
theorem refGet_any (N K : Nat) (room k y : Int) (v : Value) (L : List Fc) (w : World) (h : RefJ w N room v L K) (hL : L.length ≤ 3000) :
    Calls Try.prog 20 #[.pointer (some ⟨N, 0, none⟩), .int .i64 k, .int .u32 y] w fun e w' => e = .returned (.tuple #[.int .u32 (numF k y L), .bool (isF k y L)]) ∧ w' = w := by
  obtain ⟨ad, cap, rfl⟩ := h.own.shape
  obtain ⟨nn, hn⟩ : ∃ n, L.length = n := ⟨_, rfl⟩
  rw [hn] at h hL
  have HRow : Hid (RowF w ad nn L) := by unfold Hid; have := h.own; rw [hn] at this; exact this.row h.ok
  have HN : Hid (L.length = nn) := hn
  have c1 := h.c1
  clear h hn
  go_enter Try.func20, Try.ntmps20
  go_wp2
  go_loop [8] (fun i_ => ∃ (j : Nat), j ≤ nn ∧ i_ = .int .i64 ((j : Int) - 1) ∧ Hid (lastF k y (L.drop j) = none)) (fun i_ => (intOf i_ + 1).toNat)
  case atStart => exact ⟨nn, Nat.le_refl _, by go_num, by unfold Hid; rw [← HN.out, List.drop_length]; rfl⟩
  case round =>
    obtain ⟨j, hj, rfl, HJ⟩ := hrel
    cases j with
    | zero =>
      have HE : Hid (numF k y L = 0 ∧ isF k y L = false) := by
        have := HJ.out
        rw [List.drop_zero] at this
        unfold numF isF
        rw [this]
        exact ⟨rfl, rfl⟩
      go_wp2
      go_ret2
      rw [HE.out.1, HE.out.2]
      exact ⟨rfl, rfl⟩
    | succ j =>
      have e : (((j + 1 : Nat)) : Int) - 1 = (j : Int) := by omega
      rw [e]
      have hlt : j < nn := by omega
      have hlt' : (j : Int) < (nn : Int) := by omega
      obtain ⟨⟨pk, py, pn⟩, b, off, he, -, rfl, q0, q1, q2⟩ := HRow.out.at hlt
      simp only at q0 q1 q2
      have HE : Hid (L[j]? = some ⟨pk, py, pn⟩) := he
      have hj0 : ¬ (j : Int) < 0 := by omega
      clear he e
      by_cases h1 : pk = k
      · have h1' : (pk == k) = true := by simpa using h1
        by_cases h2 : py = y
        · have h2' : (py == y) = true := by simpa using h2
          have HR : Hid (numF k y L = pn ∧ isF k y L = true) := by
            have := last_hit HE.out h1 h2 HJ.out
            simp only at this
            unfold numF isF
            rw [this]
            exact ⟨rfl, rfl⟩
          clear h1 h2
          go_wp2
          go_ret2
          rw [HR.out.1, HR.out.2]
          exact ⟨rfl, rfl⟩
        · have h2' : (py == y) = false := by simpa using h2
          have HM : Hid (lastF k y (L.drop j) = none) := last_miss HE.out (fun h => h2 h.2) HJ.out
          clear h1 h2
          go_wp2
          go_round
          case rel => exact ⟨j, by omega, by go_num, HM⟩
          case measure => simp [intOf]
      · have h1' : (pk == k) = false := by simpa using h1
        have HM : Hid (lastF k y (L.drop j) = none) := last_miss HE.out (fun h => h1 h.1) HJ.out
        clear h1
        go_wp2
        go_round
        case rel => exact ⟨j, by omega, by go_num, HM⟩
        case measure => simp [intOf]
end Go.Proofs.Ytofmgkpghkeegaa
