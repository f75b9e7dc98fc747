/- The contract of may. -/
import Derived.Test.YtakikkigkmcffaaCK1
namespace Go.Proofs.Ytakikkigkmcffaa
open Go.RowKit

theorem mayT_eq (p : Tlv) : mayT p = (ownB p && mayB p.a p.l && fitB p.i 65535 && fitB p.c 65535 && fitB p.h 255) := rfl
theorem kp_k {p : Tlv} (h : kindB p.k = true) : (kp p).k = p.k := by
  simp only [kindB, Bool.or_eq_true, beq_iff_eq] at h
  unfold kp
  rcases h with (((h | h) | h) | h) | h <;> simp [h]
theorem nine_ne {k s i c a l r t h k' s' i' c' a' l' r' t' h' : Int} (hne : ¬ (k = k' ∧ s = s' ∧ i = i' ∧ c = c' ∧ a = a' ∧ l = l' ∧ r = r' ∧ t = t' ∧ h = h')) : k ≠ k' ∨ (k = k' ∧ s ≠ s') ∨ (k = k' ∧ s = s' ∧ i ≠ i') ∨ (k = k' ∧ s = s' ∧ i = i' ∧ c ≠ c') ∨ (k = k' ∧ s = s' ∧ i = i' ∧ c = c' ∧ a ≠ a') ∨ (k = k' ∧ s = s' ∧ i = i' ∧ c = c' ∧ a = a' ∧ l ≠ l') ∨ (k = k' ∧ s = s' ∧ i = i' ∧ c = c' ∧ a = a' ∧ l = l' ∧ r ≠ r') ∨ (k = k' ∧ s = s' ∧ i = i' ∧ c = c' ∧ a = a' ∧ l = l' ∧ r = r' ∧ t ≠ t') ∨ (k = k' ∧ s = s' ∧ i = i' ∧ c = c' ∧ a = a' ∧ l = l' ∧ r = r' ∧ t = t' ∧ h ≠ h') := by
  by_cases e0 : k = k'
  case neg => exact (.inl e0)
  by_cases e1 : s = s'
  case neg => exact (.inr (.inl ⟨e0, e1⟩))
  by_cases e2 : i = i'
  case neg => exact (.inr (.inr (.inl ⟨e0, e1, e2⟩)))
  by_cases e3 : c = c'
  case neg => exact (.inr (.inr (.inr (.inl ⟨e0, e1, e2, e3⟩))))
  by_cases e4 : a = a'
  case neg => exact (.inr (.inr (.inr (.inr (.inl ⟨e0, e1, e2, e3, e4⟩)))))
  by_cases e5 : l = l'
  case neg => exact (.inr (.inr (.inr (.inr (.inr (.inl ⟨e0, e1, e2, e3, e4, e5⟩))))))
  by_cases e6 : r = r'
  case neg => exact (.inr (.inr (.inr (.inr (.inr (.inr (.inl ⟨e0, e1, e2, e3, e4, e5, e6⟩)))))))
  by_cases e7 : t = t'
  case neg => exact (.inr (.inr (.inr (.inr (.inr (.inr (.inr (.inl ⟨e0, e1, e2, e3, e4, e5, e6, e7⟩))))))))
  by_cases e8 : h = h'
  case neg => exact (.inr (.inr (.inr (.inr (.inr (.inr (.inr (.inr ⟨e0, e1, e2, e3, e4, e5, e6, e7, e8⟩))))))))
  exact absurd ⟨e0, e1, e2, e3, e4, e5, e6, e7, e8⟩ hne
set_option maxHeartbeats 2000000 in
theorem mayT_any (k s i c a l r t h : Int) (w : World) (ha0 : 0 ≤ a) (ha1 : a < 4294967296) {v : Bool} (hv : mayT ⟨k, s, i, c, a, l, r, t, h⟩ = v) :
    Calls Try.prog 19 #[valT k s i c a l r t h] w fun e w' => e = .returned (.bool v) ∧ Below w.heap.size w w' := by
  subst hv
  have HM : Hid (mayT ⟨k, s, i, c, a, l, r, t, h⟩ = (ownB ⟨k, s, i, c, a, l, r, t, h⟩ && mayB a l && fitB i 65535 && fitB c 65535 && fitB h 255)) := rfl
  cases ho : ownB ⟨k, s, i, c, a, l, r, t, h⟩
  · rw [ho] at HM
    obtain ⟨q, hq⟩ : ∃ q, kp ⟨k, s, i, c, a, l, r, t, h⟩ = q := ⟨_, rfl⟩
    obtain ⟨k', s', i', c', a', l', r', t', h'⟩ := q
    cases hk : kindB k
    · go_enter Try.func19, Try.ntmps19
      go_wp2_with (go_at_call 34; refine (keepOwn_any k s i c a l r t h _ k' s' i' c' a' l' r' t' h' hq hk).mono ?_; rintro e w' ⟨rfl, hb⟩)
      go_ret
      exact ⟨ret_bool HM.out.symm, stp (Below.out1 hb) (below1 _ _)⟩
    · have hne : ¬ (k = k' ∧ s = s' ∧ i = i' ∧ c = c' ∧ a = a' ∧ l = l' ∧ r = r' ∧ t = t' ∧ h = h') := fun e => by
        have := kp_not ho hk
        rw [hq] at this
        exact this (by obtain ⟨rfl, rfl, rfl, rfl, rfl, rfl, rfl, rfl, rfl⟩ := e; rfl)
      have hd := nine_ne hne
      have HQ : Hid (kp ⟨k, s, i, c, a, l, r, t, h⟩ = ⟨k', s', i', c', a', l', r', t', h'⟩) := hq
      clear hne ho hq
      rcases hd with d | ⟨rfl, d⟩ | ⟨rfl, rfl, d⟩ | ⟨rfl, rfl, rfl, d⟩ | ⟨rfl, rfl, rfl, rfl, d⟩ | ⟨rfl, rfl, rfl, rfl, rfl, d⟩ | ⟨rfl, rfl, rfl, rfl, rfl, rfl, d⟩ | ⟨rfl, rfl, rfl, rfl, rfl, rfl, rfl, d⟩ | ⟨rfl, rfl, rfl, rfl, rfl, rfl, rfl, rfl, d⟩
      all_goals
        have e := beq_eq_false_iff_ne.2 d
        clear d
        go_enter Try.func19, Try.ntmps19
        go_wp2_with (go_at_call 34; refine (keepOwn_any _ _ _ _ _ _ _ _ _ _ _ _ _ _ _ _ _ _ _ HQ.out hk).mono ?_; rintro e w' ⟨rfl, hb⟩; obtain ⟨c0, c1, c2, c3, c4, c5, c6, c7, c8⟩ := ((T9.new w _ _ _ _ _ _ _ _ _).later hb).z; have hz : w.heap.size < w'.heap.size := by { have := hb.size; simp at this; omega })
        go_ret
        exact ⟨ret_bool HM.out.symm, stp (Below.out1 hb) (below1 _ _)⟩
  · rw [ho] at HM
    obtain ⟨hq, hk⟩ := kp_own ho
    simp only at hk
    have HQ : Hid (kp ⟨k, s, i, c, a, l, r, t, h⟩ = ⟨k, s, i, c, a, l, r, t, h⟩) := hq
    clear hq ho
    cases hm : mayB a l
    · rw [hm] at HM
      go_enter Try.func19, Try.ntmps19
      go_wp2_with (first
        | (go_at_call 34; refine (keepOwn_any _ _ _ _ _ _ _ _ _ _ _ _ _ _ _ _ _ _ _ HQ.out hk).mono ?_; rintro e w1 ⟨rfl, hb⟩; have hB := stp (Below.out1 hb) (below1 _ (objT k s i c a l r t h)); have F := ((T9.new w k s i c a l r t h).later hb).later (below1 _ (objT k s i c a l r t h)); obtain ⟨c0, c1, c2, c3, c4, c5, c6, c7, c8⟩ := ((T9.new w k s i c a l r t h).later hb).z; have hz : w.heap.size < w1.heap.size := by { have := hb.size; simp at this; omega })
        | (go_at_call 35; refine (may_any _ _ _ ha0 ha1 hm).mono ?_; rintro e w2 ⟨rfl, hb2⟩; obtain ⟨c0, c1, c2, c3, c4, c5, c6, c7, c8⟩ := (F.later hb2).z; have hB := stp hB hb2))
      go_ret
      exact ⟨ret_bool HM.out.symm, hB⟩
    rw [hm] at HM
    cases hi : fitB i 65535
    · rw [hi] at HM
      go_enter Try.func19, Try.ntmps19
      go_wp2_with (first
        | (go_at_call 34; refine (keepOwn_any _ _ _ _ _ _ _ _ _ _ _ _ _ _ _ _ _ _ _ HQ.out hk).mono ?_; rintro e w1 ⟨rfl, hb⟩; have hB := stp (Below.out1 hb) (below1 _ (objT k s i c a l r t h)); have F := ((T9.new w k s i c a l r t h).later hb).later (below1 _ (objT k s i c a l r t h)); obtain ⟨c0, c1, c2, c3, c4, c5, c6, c7, c8⟩ := ((T9.new w k s i c a l r t h).later hb).z; have hz : w.heap.size < w1.heap.size := by { have := hb.size; simp at this; omega })
        | (go_at_call 35; refine (may_any _ _ _ ha0 ha1 hm).mono ?_; rintro e w2 ⟨rfl, hb2⟩; obtain ⟨c0, c1, c2, c3, c4, c5, c6, c7, c8⟩ := (F.later hb2).z; have hB := stp hB hb2)
        | (go_at_call_of 36 (Value.int IntKind.i64 i); refine (fits_any i 65535 _ hi).mono ?_; rintro e w' ⟨rfl, rfl⟩))
      go_ret
      exact ⟨ret_bool HM.out.symm, hB⟩
    rw [hi] at HM
    cases hc : fitB c 65535
    · rw [hc] at HM
      go_enter Try.func19, Try.ntmps19
      go_wp2_with (first
        | (go_at_call 34; refine (keepOwn_any _ _ _ _ _ _ _ _ _ _ _ _ _ _ _ _ _ _ _ HQ.out hk).mono ?_; rintro e w1 ⟨rfl, hb⟩; have hB := stp (Below.out1 hb) (below1 _ (objT k s i c a l r t h)); have F := ((T9.new w k s i c a l r t h).later hb).later (below1 _ (objT k s i c a l r t h)); obtain ⟨c0, c1, c2, c3, c4, c5, c6, c7, c8⟩ := ((T9.new w k s i c a l r t h).later hb).z; have hz : w.heap.size < w1.heap.size := by { have := hb.size; simp at this; omega })
        | (go_at_call 35; refine (may_any _ _ _ ha0 ha1 hm).mono ?_; rintro e w2 ⟨rfl, hb2⟩; obtain ⟨c0, c1, c2, c3, c4, c5, c6, c7, c8⟩ := (F.later hb2).z; have hB := stp hB hb2)
        | (go_at_call_of 36 (Value.int IntKind.i64 i); refine (fits_any i 65535 _ hi).mono ?_; rintro e w' ⟨rfl, rfl⟩)
        | (go_at_call_of 36 (Value.int IntKind.i64 c); refine (fits_any c 65535 _ hc).mono ?_; rintro e w' ⟨rfl, rfl⟩))
      go_ret
      exact ⟨ret_bool HM.out.symm, hB⟩
    rw [hc] at HM
    cases hh : fitB h 255
    all_goals
      rw [hh] at HM
      go_enter Try.func19, Try.ntmps19
      go_wp2_with (first
        | (go_at_call 34; refine (keepOwn_any _ _ _ _ _ _ _ _ _ _ _ _ _ _ _ _ _ _ _ HQ.out hk).mono ?_; rintro e w1 ⟨rfl, hb⟩; have hB := stp (Below.out1 hb) (below1 _ (objT k s i c a l r t h)); have F := ((T9.new w k s i c a l r t h).later hb).later (below1 _ (objT k s i c a l r t h)); obtain ⟨c0, c1, c2, c3, c4, c5, c6, c7, c8⟩ := ((T9.new w k s i c a l r t h).later hb).z; have hz : w.heap.size < w1.heap.size := by { have := hb.size; simp at this; omega })
        | (go_at_call 35; refine (may_any _ _ _ ha0 ha1 hm).mono ?_; rintro e w2 ⟨rfl, hb2⟩; obtain ⟨c0, c1, c2, c3, c4, c5, c6, c7, c8⟩ := (F.later hb2).z; have hB := stp hB hb2)
        | (go_at_call_of 36 (Value.int IntKind.i64 i); refine (fits_any i 65535 _ hi).mono ?_; rintro e w' ⟨rfl, rfl⟩)
        | (go_at_call_of 36 (Value.int IntKind.i64 c); refine (fits_any c 65535 _ hc).mono ?_; rintro e w' ⟨rfl, rfl⟩)
        | (go_at_call_of 36 (Value.int IntKind.i64 h); refine (fits_any h 255 _ hh).mono ?_; rintro e w' ⟨rfl, rfl⟩))
      go_ret
      exact ⟨ret_bool HM.out.symm, hB⟩
end Go.Proofs.Ytakikkigkmcffaa
