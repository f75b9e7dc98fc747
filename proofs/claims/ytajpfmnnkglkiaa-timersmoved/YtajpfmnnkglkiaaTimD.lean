/- The contract of the document's Due. -/
import Derived.Test.YtajpfmnnkglkiaaTimR
namespace Go.Proofs.Ytajpfmnnkglkiaa
open Go.RowKit

theorem RowT.take {W : World} {ad : Option Addr} {n : Nat} {L : List Tm} (h : RowT W ad n L) (m : Nat) (hm : m ≤ n) : RowT W ad m (L.take m) :=
  ⟨by rw [List.length_take, h.1]; omega, fun p hp => h.2.1 p (List.mem_of_mem_take hp), fun i p hp => by
    have hi : i < m := by
      rcases Nat.lt_or_ge i m with hi | hi
      · exact hi
      · rw [List.getElem?_eq_none (by rw [List.length_take]; omega)] at hp; cases hp
    rw [List.getElem?_take_of_lt hi] at hp
    exact h.2.2 i p hp⟩
theorem RowT.drop {W : World} {b off n : Nat} {L : List Tm} (h : RowT W (some ⟨b, off, none⟩) n L) (k m : Nat) (hk : k + m = n) : RowT W (some ⟨b, off + k * 2, none⟩) m (L.drop k) :=
  ⟨by rw [List.length_drop, h.1]; omega, fun p hp => h.2.1 p (List.mem_of_mem_drop hp), fun i p hp => by
    rw [List.getElem?_drop] at hp
    obtain ⟨b', off', e, q⟩ := h.2.2 (k + i) p hp
    simp only [Option.some.injEq, Addr.mk.injEq, and_true] at e
    obtain ⟨rfl, rfl⟩ := e
    refine ⟨_, _, rfl, ?_⟩
    rw [show off + k * 2 + i * 2 = off + (k + i) * 2 by omega]; exact q⟩
theorem rowT_zero {W : World} {ad : Option Addr} {L : List Tm} (h : L.length = 0) : RowT W ad 0 L := by
  obtain rfl := List.eq_nil_of_length_eq_zero h
  exact ⟨rfl, (fun _ h => by cases h), fun i e h => by simp at h⟩
/-- The first j are due, and the next one, if there is one, is not. -/
theorem due_at {L : List Tm} {now : Int} {j : Nat} (h : ∀ k p, k < j → L[k]? = some p → p.a ≤ now) (hj : j ≤ L.length) (hn : ∀ p, L[j]? = some p → ¬ p.a ≤ now) : dueL now L = L.take j ∧ dueR now L = L.drop j := by
  induction L generalizing j with
  | nil => simp [dueL, dueR]
  | cons x L ih =>
    unfold dueL dueR
    rw [List.takeWhile_cons, List.dropWhile_cons]
    cases j with
    | zero =>
      have := hn x rfl
      simp [this]
    | succ j =>
      have hx := h 0 x (by omega) rfl
      have := ih (j := j) (fun k p hk hp => h (k + 1) p (by omega) (by simpa using hp)) (by simpa using hj) (fun p hp => hn p (by simpa using hp))
      unfold dueL dueR at this
      simp only [hx, decide_true, if_true, this.1, this.2, List.take_succ_cons, List.drop_succ_cons]
      trivial
/-- What the document's Due leaves. -/
def DueM (w : World) (N : Nat) (v : Value) (L : List Tm) (now : Int) (e : Ending) (w' : World) : Prop :=
  ∃ ad k cap v', e = .returned (.slice ad k cap) ∧ OwnT w' w.heap.size (.slice ad k cap) k (dueL now L) ∧ RefM w' N v' (dueR now L) ∧ (∀ g, v'.ownBlock = some g → w.heap.size ≤ g) ∧ Keep (fpM N v) w w'
theorem due_nil_own {w : World} {base n cap : Nat} {ad : Option Addr} {L : List Tm} (h : OwnT w base (.slice ad n cap) n L) : (ad = none ∧ n = 0 ∧ cap = 0) ∨ ∃ g, ad = some ⟨g, 0, none⟩ := by
  rcases h.2 with ⟨e, e'⟩ | ⟨g, c, cur, hv, _⟩
  · simp only [Value.slice.injEq] at e; exact .inl ⟨e.1, e.2.1, e.2.2⟩
  · simp only [Value.slice.injEq] at hv; exact .inr ⟨g, hv.1⟩
set_option maxRecDepth 100000 in
set_option maxHeartbeats 4000000 in
theorem refDue_any (N : Nat) (v : Value) (L : List Tm) (now : Int) (w : World) (h : RefM w N v L) (hL : L.length ≤ 1000) :
    Calls Try.prog 16 #[.pointer (some ⟨N, 0, none⟩), .int .i64 now] w (DueM w N v L now) := by
  obtain ⟨ad, cap, rfl⟩ := h.own.shape
  obtain ⟨nn, hn⟩ : ∃ n, L.length = n := ⟨_, rfl⟩
  have hcap : nn ≤ cap := by have := h.own; rw [hn] at this; exact this.cap_le
  rw [hn] at h hL ⊢
  have HT : Hid (RefM w N (.slice ad nn cap) L) := h
  have HN : Hid (L.length = nn) := hn
  have HRow : Hid (RowT w ad nn L) := by unfold Hid; have := h.own; rw [hn] at this; exact this.row h.ok
  have HP : Hid (Tms L) := h.ok
  have hNw := h.lt
  have hown := h.own
  rw [hn] at hown
  rcases due_nil_own hown with ⟨rfl, rfl, rfl⟩ | ⟨g, rfl⟩
  · obtain rfl : L = [] := List.eq_nil_of_length_eq_zero hn
    clear h hn hown hL hcap
    have HE : Hid (dueL now ([] : List Tm) = [] ∧ dueR now ([] : List Tm) = []) := ⟨rfl, rfl⟩
    obtain ⟨z0, zf, -⟩ := HT.out
    go_enter Try.func16, Try.ntmps16
    go_wp2
    go_loopw [5] (fun i_ W => i_ = .int .i64 0 ∧ W = w) (fun _ _ => 0)
    case atStart => exact ⟨rfl, rfl⟩
    case round =>
      obtain ⟨rfl, rfl⟩ := hrel
      go_wp2_with (first
        | (at_builtin; refine wpList_appT _ rfl (.const (.slice none 0 0)) (.tmp 33) 27 rfl wr.heap.size Try.underlying27 infoT _ 0 [] rfl (ownT_nil _ _) none 0 0 [] rfl (rowT_none _) 0 rfl [] rfl (by omega) (Nat.le_refl _) ?_; intro a2 c2 W2 own2 hb2; have HB2 : Hid (Below wr.heap.size wr W2) := hb2; have HO2 : Hid (OwnT W2 wr.heap.size (.slice a2 0 c2) 0 []) := own2; obtain ⟨z0, zf, -⟩ := HT.out.later HB2.out)
        | (at_builtin; refine wpList_appT _ rfl (.const (.slice none 0 0)) (.tmp 41) 27 rfl W2.heap.size Try.underlying27 infoT _ 0 [] rfl (ownT_nil _ _) none 0 0 [] rfl (rowT_none _) 0 rfl [] rfl (by omega) (Nat.le_refl _) ?_; intro a3 c3 W3 own3 hb3; have HB3 : Hid (Below wr.heap.size wr W3) := stp HB2.out hb3; have HO3 : Hid (OwnT W3 W2.heap.size (.slice a3 0 c3) 0 []) := own3; have HO2' : Hid (OwnT W3 wr.heap.size (.slice a2 0 c2) 0 []) := HO2.out.later hb3; obtain ⟨z0, zf, -⟩ := HT.out.later HB3.out))
      go_ret
      have hs2 := HB2.out.size
      have hlay := HT.out.laid HB3.out (v' := .slice a3 0 c3) (L' := []) (HO3.out.base hs2) (fun p hp => by cases hp)
      refine ⟨a2, 0, c2, .slice a3 0 c3, rfl, ?_, hlay.1, hlay.2.1, hlay.2.2⟩
      refine OwnT.same HO2'.out fun g hg => ?_
      have := HO2'.out.lt g hg
      exact Below.heap_setCell _ _ _ _ (by show g ≠ N; omega)
  · clear h hn hown
    go_enter Try.func16, Try.ntmps16
    go_wp2
    go_loopw [5] (fun i_ W => ∃ (j : Nat), j ≤ nn ∧ i_ = .int .i64 j ∧ Hid (∀ k p, k < j → L[k]? = some p → p.a ≤ now) ∧ Hid (Below w.heap.size w W)) (fun i_ _ => nn - (intOf i_).toNat)
    case atStart => exact ⟨0, Nat.zero_le _, rfl, fun k p hk _ => absurd hk (Nat.not_lt_zero _), Below.refl _ _⟩
    case round =>
      obtain ⟨j, hj, rfl, HJ, HB⟩ := hrel
      obtain ⟨z0, zf, -⟩ := HT.out.later HB.out
      have hj2 : (j : Int) ≤ (cap : Int) := by omega
      have hj3 : (j : Int) ≤ (nn : Int) := by omega
      have hj4 : (nn : Int) ≤ (cap : Int) := by omega
      have HRd : Hid (∀ W, Below w.heap.size w W → RowT W (if cap = j then some ⟨g, 0, none⟩ else some ⟨g, 0 + j * 2, none⟩) (nn - j) (L.drop j)) := fun W hW => by
        by_cases hc : cap = j
        · rw [if_pos hc, show nn - j = 0 by omega]
          exact rowT_zero (by rw [List.length_drop, HN.out]; omega)
        · rw [if_neg hc]
          exact (HRow.out.later hW).drop j (nn - j) (by omega)
      simp only [Nat.zero_add] at HRd
      obtain ⟨ra, hra⟩ : ∃ ra, (if cap = j then some (⟨g, 0, none⟩ : Addr) else some ⟨g, j * 2, none⟩) = ra := ⟨_, rfl⟩
      rw [hra] at HRd
      by_cases hlt : j < nn
      · have hlt' : (j : Int) < (nn : Int) := by omega
        obtain ⟨⟨pi, pa⟩, b, off, he, -, ho, q⟩ := HRow.out.at hlt
        simp only [Option.some.injEq, Addr.mk.injEq, and_true] at ho
        obtain ⟨rfl, rfl⟩ := ho
        obtain ⟨d0, d1⟩ := q.later HB.out
        simp only [Nat.zero_add] at d0 d1
        by_cases hpa : pa ≤ now
        · have HJ' : Hid (∀ k p, k < j + 1 → L[k]? = some p → p.a ≤ now) := fun k p hk hp => by
            by_cases e : k = j
            · subst e
              rw [he] at hp
              simp only [Option.some.injEq] at hp
              subst hp
              exact hpa
            · exact HJ.out k p (by omega) hp
          clear he q hra
          go_wp2
          go_roundw
          case rel => exact ⟨j + 1, by omega, by go_num, HJ', HB⟩
          case measure => simp [intOf]; omega
        · have HE : Hid (dueL now L = L.take j ∧ dueR now L = L.drop j) := due_at HJ.out (by rw [HN.out]; exact hj) fun p hp => by rw [he] at hp; simp only [Option.some.injEq] at hp; subst hp; exact hpa
          rw [if_neg (show ¬ cap = j by omega)] at hra
          subst hra
          clear he q HJ
          go_wp2_with (first
            | (at_builtin; refine wpList_appT _ rfl (.const (.slice none 0 0)) (.tmp 33) 27 rfl w.heap.size Try.underlying27 infoT _ 0 [] rfl (ownT_nil _ _) _ j cap (L.take j) rfl ((HRow.out.later HB.out).take j (by omega)) j (by omega) (L.take j) rfl (by omega) (by exact HB.out.size) ?_; intro a2 c2 W2 own2 hb2; have HB2 : Hid (Below w.heap.size w W2) := HB.out.trans hb2; have HO2 : Hid (OwnT W2 w.heap.size (.slice a2 j c2) j (L.take j)) := own2; obtain ⟨z0, zf, -⟩ := HT.out.later HB2.out)
            | (at_builtin; refine wpList_appT _ rfl (.const (.slice none 0 0)) (.tmp 41) 27 rfl W2.heap.size Try.underlying27 infoT _ 0 [] rfl (ownT_nil _ _) _ (nn - j) (cap - j) (L.drop j) rfl (HRd.out _ HB2.out) (nn - j) (by omega) (L.drop j) rfl (by omega) (by exact Nat.le_refl _) ?_; intro a3 c3 W3 own3 hb3; have HB3 : Hid (Below w.heap.size w W3) := stp HB2.out hb3; have HO3 : Hid (OwnT W3 W2.heap.size (.slice a3 (nn - j) c3) (nn - j) (L.drop j)) := own3; have HO2' : Hid (OwnT W3 w.heap.size (.slice a2 j c2) j (L.take j)) := HO2.out.later hb3; obtain ⟨z0, zf, -⟩ := HT.out.later HB3.out))
          go_ret
          have hs2 := HB2.out.size
          have hlay := HT.out.laid HB3.out (v' := .slice a3 (nn - j) c3) (L' := L.drop j) (by rw [List.length_drop, HN.out]; exact HO3.out.base hs2) (fun p hp => HP.out p (List.mem_of_mem_drop hp))
          refine ⟨a2, j, c2, .slice a3 (nn - j) c3, rfl, ?_, by rw [HE.out.2]; exact hlay.1, hlay.2.1, hlay.2.2⟩
          rw [HE.out.1]
          refine OwnT.same HO2'.out fun g hg => ?_
          have := HO2'.out.lt g hg
          exact Below.heap_setCell _ _ _ _ (by show g ≠ N; omega)
      · have hlt' : ¬ (j : Int) < (nn : Int) := by omega
        have HE : Hid (dueL now L = L.take j ∧ dueR now L = L.drop j) := due_at HJ.out (by rw [HN.out]; exact hj) fun p hp => by rw [List.getElem?_eq_none (by rw [HN.out]; omega)] at hp; cases hp
        clear HJ
        go_wp2_with (first
          | (at_builtin; refine wpList_appT _ rfl (.const (.slice none 0 0)) (.tmp 33) 27 rfl w.heap.size Try.underlying27 infoT _ 0 [] rfl (ownT_nil _ _) _ j cap (L.take j) rfl ((HRow.out.later HB.out).take j (by omega)) j (by omega) (L.take j) rfl (by omega) (by exact HB.out.size) ?_; intro a2 c2 W2 own2 hb2; have HB2 : Hid (Below w.heap.size w W2) := HB.out.trans hb2; have HO2 : Hid (OwnT W2 w.heap.size (.slice a2 j c2) j (L.take j)) := own2; obtain ⟨z0, zf, -⟩ := HT.out.later HB2.out)
          | (at_builtin; refine wpList_appT _ rfl (.const (.slice none 0 0)) (.tmp 41) 27 rfl W2.heap.size Try.underlying27 infoT _ 0 [] rfl (ownT_nil _ _) _ (nn - j) (cap - j) (L.drop j) rfl (HRd.out _ HB2.out) (nn - j) (by omega) (L.drop j) rfl (by omega) (by exact Nat.le_refl _) ?_; intro a3 c3 W3 own3 hb3; have HB3 : Hid (Below w.heap.size w W3) := stp HB2.out hb3; have HO3 : Hid (OwnT W3 W2.heap.size (.slice a3 (nn - j) c3) (nn - j) (L.drop j)) := own3; have HO2' : Hid (OwnT W3 w.heap.size (.slice a2 j c2) j (L.take j)) := HO2.out.later hb3; obtain ⟨z0, zf, -⟩ := HT.out.later HB3.out))
        go_ret
        have hs2 := HB2.out.size
        have hlay := HT.out.laid HB3.out (v' := .slice a3 (nn - j) c3) (L' := L.drop j) (by rw [List.length_drop, HN.out]; exact HO3.out.base hs2) (fun p hp => HP.out p (List.mem_of_mem_drop hp))
        refine ⟨a2, j, c2, .slice a3 (nn - j) c3, rfl, ?_, by rw [HE.out.2]; exact hlay.1, hlay.2.1, hlay.2.2⟩
        rw [HE.out.1]
        refine OwnT.same HO2'.out fun g hg => ?_
        have := HO2'.out.lt g hg
        exact Below.heap_setCell _ _ _ _ (by show g ≠ N; omega)
end Go.Proofs.Ytajpfmnnkglkiaa
