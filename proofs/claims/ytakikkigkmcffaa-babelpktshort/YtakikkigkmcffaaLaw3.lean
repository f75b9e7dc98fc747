/- The law BabelpktShort, walked. -/
import Derived.Test.YtakikkigkmcffaaLaw1
namespace Go.Proofs.Ytakikkigkmcffaa
open Go.RowKit

theorem T9.set0 {W : World} {N : Nat} {k s i c a l r t h : Int} (k' : Int) (hh : T9 W N 0 ⟨k, s, i, c, a, l, r, t, h⟩) : T9 (W.setCell ⟨N, 0, none⟩ (.int .i64 k')) N 0 ⟨k', s, i, c, a, l, r, t, h⟩ := by
  obtain ⟨c0, c1, c2, c3, c4, c5, c6, c7, c8⟩ := hh.z
  refine ⟨?_, ?_, ?_, ?_, ?_, ?_, ?_, ?_, ?_⟩ <;> simp [go_sem, c0, c1, c2, c3, c4, c5, c6, c7, c8]
theorem T9.newAt (W : World) (N : Nat) (hN : N = W.heap.size) (k s i c a l r t h : Int) : T9 (W.alloc (objT k s i c a l r t h)) N 0 ⟨k, s, i, c, a, l, r, t, h⟩ := by subst hN; exact T9.new W k s i c a l r t h
theorem rowT_two {W : World} {N M : Nat} {p q : Tlv} (h : T9 W M 0 p) (h' : T9 W M 9 q) (hm : M = N) (hk : p.Ok) (hk' : q.Ok) : RowT W (some ⟨N, 0, none⟩) 2 [p, q] := by
  subst hm
  refine ⟨rfl, fun x hx => ?_, fun i x hx => ?_⟩
  · simp at hx; rcases hx with rfl | rfl
    · exact hk
    · exact hk'
  · match i, hx with
    | 0, hx => simp at hx; subst hx; exact ⟨M, 0, rfl, by simpa using h⟩
    | 1, hx => simp at hx; subst hx; exact ⟨M, 0, rfl, by simpa using h'⟩
abbrev objT2 (k s i c a l r t h k' s' i' c' a' l' r' t' h' : Int) : Obj := .cells #[.int .i64 k, .int .u16 s, .int .i64 i, .int .i64 c, .int .u32 a, .int .i64 l, .int .u64 r, .int .u16 t, .int .i64 h, .int .i64 k', .int .u16 s', .int .i64 i', .int .i64 c', .int .u32 a', .int .i64 l', .int .u64 r', .int .u16 t', .int .i64 h'] 44
theorem T9.new2 (W : World) (k s i c a l r t h k' s' i' c' a' l' r' t' h' : Int) : T9 (W.alloc (objT2 k s i c a l r t h k' s' i' c' a' l' r' t' h')) W.heap.size 0 ⟨k, s, i, c, a, l, r, t, h⟩ ∧ T9 (W.alloc (objT2 k s i c a l r t h k' s' i' c' a' l' r' t' h')) W.heap.size 9 ⟨k', s', i', c', a', l', r', t', h'⟩ := by
  refine ⟨⟨?_, ?_, ?_, ?_, ?_, ?_, ?_, ?_, ?_⟩, ⟨?_, ?_, ?_, ?_, ?_, ?_, ?_, ?_, ?_⟩⟩ <;> simp [go_sem]
theorem ok_kind {k s i c a l r t h : Int} (hk : Tlv.Ok ⟨k, s, i, c, a, l, r, t, h⟩) : Tlv.Ok ⟨2, s, i, c, a, l, r, t, h⟩ := ⟨by simp, by simp, hk.s0, hk.s1, hk.i0, hk.i1, hk.c0, hk.c1, hk.a0, hk.a1, hk.l0, hk.l1, hk.r0, hk.r1, hk.t0, hk.t1, hk.h0, hk.h1⟩
theorem ok_cost {k s i c a l r t h : Int} (hk : Tlv.Ok ⟨k, s, i, c, a, l, r, t, h⟩) {c' : Int} (c0 : -9223372036854775808 ≤ c') (c1 : c' ≤ 9223372036854775807) : Tlv.Ok ⟨2, s, i, c', a, l, r, t, h⟩ := ⟨by simp, by simp, hk.s0, hk.s1, hk.i0, hk.i1, c0, c1, hk.a0, hk.a1, hk.l0, hk.l1, hk.r0, hk.r1, hk.t0, hk.t1, hk.h0, hk.h1⟩
set_option maxHeartbeats 2000000 in
theorem law_short (k s i c a l r t h cost : Int) (w : World) (hk : Tlv.Ok ⟨k, s, i, c, a, l, r, t, h⟩) (c0 : -9223372036854775808 ≤ cost) (c1 : cost ≤ 9223372036854775807) :
    Calls Try.prog 10 #[valT k s i c a l r t h, .int .i64 cost] w fun e w' => e = .returned (.bool true) ∧ Below w.heap.size w w' := by
  have HP : Hid (Tlv.Ok ⟨2, s, i, c, a, l, r, t, h⟩) := ok_kind hk
  have HQ : Hid (Tlv.Ok ⟨2, s, i, cost, a, l, r, t, h⟩) := ok_cost hk c0 c1
  obtain ⟨e, he⟩ : ∃ e, encX [⟨2, s, i, c, a, l, r, t, h⟩] = e := ⟨_, rfl⟩
  obtain ⟨f, hf⟩ : ∃ f, encX [⟨2, s, i, c, a, l, r, t, h⟩, ⟨2, s, i, cost, a, l, r, t, h⟩] = f := ⟨_, rfl⟩
  have HE : Hid (encX [⟨2, s, i, c, a, l, r, t, h⟩] = e) := he
  have HF : Hid (encX [⟨2, s, i, c, a, l, r, t, h⟩, ⟨2, s, i, cost, a, l, r, t, h⟩] = f) := hf
  have HS1 : Hid ((encB [⟨2, s, i, c, a, l, r, t, h⟩]).length ≤ 1284) := encB_short _
  have HS2 : Hid ((encB [⟨2, s, i, c, a, l, r, t, h⟩, ⟨2, s, i, cost, a, l, r, t, h⟩]).length ≤ 1284) := encB_short _
  have HLen : Hid (e = 0 → f = 0 → (encB [⟨2, s, i, c, a, l, r, t, h⟩, ⟨2, s, i, cost, a, l, r, t, h⟩]).length = (encB [⟨2, s, i, c, a, l, r, t, h⟩]).length + 12 + (tagB t).length) := fun h1 h2 => by
    have hm := (encX_zero (he.trans h1)).2
    simp only [List.all_cons, List.all_nil, Bool.and_true] at hm
    exact short_len (p := ⟨2, s, i, c, a, l, r, t, h⟩) (q := ⟨2, s, i, cost, a, l, r, t, h⟩) rfl rfl (mayT_all hm).2.2.2.1 rfl rfl rfl rfl (he.trans h1) (hf.trans h2)
  have HTG : Hid (((tagB t).length : Int) = if t = 0 then 0 else 4) := tagB_is t
  obtain ⟨m1, hm1⟩ : ∃ m, (encB [⟨2, s, i, c, a, l, r, t, h⟩]).length = m := ⟨_, rfl⟩
  obtain ⟨m2, hm2⟩ : ∃ m, (encB [⟨2, s, i, c, a, l, r, t, h⟩, ⟨2, s, i, cost, a, l, r, t, h⟩]).length = m := ⟨_, rfl⟩
  rw [hm1] at HS1 HLen
  rw [hm2] at HS2 HLen
  have g1 := HS1.out
  have g2 := HS2.out
  have HM1 : Hid ((encB [⟨2, s, i, c, a, l, r, t, h⟩]).length = m1) := hm1
  have HM2 : Hid ((encB [⟨2, s, i, c, a, l, r, t, h⟩, ⟨2, s, i, cost, a, l, r, t, h⟩]).length = m2) := hm2
  have hz : w.heap.size < w.heap.size + 1 := by omega
  clear hk he hf hm1 hm2 HS1 HS2
  have hcase : (e != 0) = true ∨ (e = 0 ∧ (f != 0) = true) ∨ (e = 0 ∧ f = 0 ∧ t = 0 ∧ (m2 : Int) = (m1 : Int) + 12) ∨ (e = 0 ∧ f = 0 ∧ (t != 0) = true ∧ (m2 : Int) = (m1 : Int) + 12 + 4) := by
    by_cases e0 : e = 0
    · by_cases f0 : f = 0
      · have h1 := HLen.out e0 f0
        have h2 := HTG.out
        by_cases t0 : t = 0
        · rw [if_pos t0] at h2; exact .inr (.inr (.inl ⟨e0, f0, t0, by omega⟩))
        · rw [if_neg t0] at h2; exact .inr (.inr (.inr ⟨e0, f0, by simpa using t0, by omega⟩))
      · exact .inr (.inl ⟨e0, by simpa using f0⟩)
    · exact .inl (by simpa using e0)
  clear HLen HTG
  rcases hcase with e0 | ⟨rfl, f0⟩ | ⟨rfl, rfl, rfl, hmm⟩ | ⟨rfl, rfl, t0, hmm⟩
  · go_enter Try.func10, Try.ntmps10
    go_wp2_with (first
      | (go_at_call 11; refine (awake_any _).mono ?_; rintro e W1 ⟨rfl, hb1⟩; obtain ⟨hc, hf⟩ := bcell hb1; have F1 := (T9.new w k s i c a l r t h).later hb1; obtain ⟨q0, q1, q2, q3, q4, q5, q6, q7, q8⟩ := F1.z; have hB1 := Below.out1 hb1; have sz1 : w.heap.size < W1.heap.size := by { have := hb1.size; simp at this; omega })
      | (go_at_call_of 12 (Value.slice (some { block := W1.heap.size + 1, off := 0 }) 1 1); refine (encode_any _ 1 _ [⟨2, s, i, c, a, l, r, t, h⟩] _ (rowT_one (T9.new _ 2 s i c a l r t h) (by first | rfl | simp) HP.out) (by omega)).mono ?_; rintro e W2 ⟨ad2, k2, cp2, rfl, own2, hb2⟩; rw [HE.out]; have hk2 : m1 = k2 := by { have := own2.len; rw [HM1.out] at this; exact this }; subst hk2; have F2 : T9 W2 w.heap.size 0 ⟨2, s, i, c, a, l, r, t, h⟩ := (((F1.set0 2).later (below1 _ _)).later (below1 _ _)).later hb2; have X2 : T9 W2 W1.heap.size 0 ⟨2, s, i, cost, a, l, r, t, h⟩ := ((T9.newAt (W1.setCell ⟨w.heap.size, 0, none⟩ (.int .i64 2)) W1.heap.size (by simp) 2 s i cost a l r t h).later (below1 _ _)).later hb2; obtain ⟨q0, q1, q2, q3, q4, q5, q6, q7, q8⟩ := F2.z; obtain ⟨y0, y1, y2, y3, y4, y5, y6, y7, y8⟩ := X2.z; have hB2 : Below w.heap.size w W2 := ((hB1.setCell (Nat.le_refl _) _).alloc (by simp; omega) _).alloc (by simp; omega) _ |>.trans (hb2.mono (by simp; omega)); have sz2 : w.heap.size < W2.heap.size := by { have := hb2.size; simp at this; omega })
      | (go_at_call 12; refine (encode_any _ 2 _ [⟨2, s, i, c, a, l, r, t, h⟩, ⟨2, s, i, cost, a, l, r, t, h⟩] _ (rowT_two (T9.new2 W2 2 s i c a l r t h 2 s i cost a l r t h).1 (T9.new2 W2 2 s i c a l r t h 2 s i cost a l r t h).2 (by first | rfl | simp) HP.out HQ.out) (by omega)).mono ?_; rintro e W3 ⟨ad3, k3, cp3, rfl, own3, hb3⟩; rw [HF.out]; have hk3 : m2 = k3 := by { have := own3.len; rw [HM2.out] at this; exact this }; subst hk3; have F3 := (F2.later (below1 _ _)).later hb3; obtain ⟨q0, q1, q2, q3, q4, q5, q6, q7, q8⟩ := F3.z; have hB3 := stp1 hB2 hb3))
    go_ret
    exact ⟨rfl, hB3⟩
  · go_enter Try.func10, Try.ntmps10
    go_wp2_with (first
      | (go_at_call 11; refine (awake_any _).mono ?_; rintro e W1 ⟨rfl, hb1⟩; obtain ⟨hc, hf⟩ := bcell hb1; have F1 := (T9.new w k s i c a l r t h).later hb1; obtain ⟨q0, q1, q2, q3, q4, q5, q6, q7, q8⟩ := F1.z; have hB1 := Below.out1 hb1; have sz1 : w.heap.size < W1.heap.size := by { have := hb1.size; simp at this; omega })
      | (go_at_call_of 12 (Value.slice (some { block := W1.heap.size + 1, off := 0 }) 1 1); refine (encode_any _ 1 _ [⟨2, s, i, c, a, l, r, t, h⟩] _ (rowT_one (T9.new _ 2 s i c a l r t h) (by first | rfl | simp) HP.out) (by omega)).mono ?_; rintro e W2 ⟨ad2, k2, cp2, rfl, own2, hb2⟩; rw [HE.out]; have hk2 : m1 = k2 := by { have := own2.len; rw [HM1.out] at this; exact this }; subst hk2; have F2 : T9 W2 w.heap.size 0 ⟨2, s, i, c, a, l, r, t, h⟩ := (((F1.set0 2).later (below1 _ _)).later (below1 _ _)).later hb2; have X2 : T9 W2 W1.heap.size 0 ⟨2, s, i, cost, a, l, r, t, h⟩ := ((T9.newAt (W1.setCell ⟨w.heap.size, 0, none⟩ (.int .i64 2)) W1.heap.size (by simp) 2 s i cost a l r t h).later (below1 _ _)).later hb2; obtain ⟨q0, q1, q2, q3, q4, q5, q6, q7, q8⟩ := F2.z; obtain ⟨y0, y1, y2, y3, y4, y5, y6, y7, y8⟩ := X2.z; have hB2 : Below w.heap.size w W2 := ((hB1.setCell (Nat.le_refl _) _).alloc (by simp; omega) _).alloc (by simp; omega) _ |>.trans (hb2.mono (by simp; omega)); have sz2 : w.heap.size < W2.heap.size := by { have := hb2.size; simp at this; omega })
      | (go_at_call 12; refine (encode_any _ 2 _ [⟨2, s, i, c, a, l, r, t, h⟩, ⟨2, s, i, cost, a, l, r, t, h⟩] _ (rowT_two (T9.new2 W2 2 s i c a l r t h 2 s i cost a l r t h).1 (T9.new2 W2 2 s i c a l r t h 2 s i cost a l r t h).2 (by first | rfl | simp) HP.out HQ.out) (by omega)).mono ?_; rintro e W3 ⟨ad3, k3, cp3, rfl, own3, hb3⟩; rw [HF.out]; have hk3 : m2 = k3 := by { have := own3.len; rw [HM2.out] at this; exact this }; subst hk3; have F3 := (F2.later (below1 _ _)).later hb3; obtain ⟨q0, q1, q2, q3, q4, q5, q6, q7, q8⟩ := F3.z; have hB3 := stp1 hB2 hb3))
    go_ret
    exact ⟨rfl, hB3⟩
  · go_enter Try.func10, Try.ntmps10
    go_wp2_with (first
      | (go_at_call 11; refine (awake_any _).mono ?_; rintro e W1 ⟨rfl, hb1⟩; obtain ⟨hc, hf⟩ := bcell hb1; have F1 := (T9.new w k s i c a l r 0 h).later hb1; obtain ⟨q0, q1, q2, q3, q4, q5, q6, q7, q8⟩ := F1.z; have hB1 := Below.out1 hb1; have sz1 : w.heap.size < W1.heap.size := by { have := hb1.size; simp at this; omega })
      | (go_at_call_of 12 (Value.slice (some { block := W1.heap.size + 1, off := 0 }) 1 1); refine (encode_any _ 1 _ [⟨2, s, i, c, a, l, r, 0, h⟩] _ (rowT_one (T9.new _ 2 s i c a l r 0 h) (by first | rfl | simp) HP.out) (by omega)).mono ?_; rintro e W2 ⟨ad2, k2, cp2, rfl, own2, hb2⟩; rw [HE.out]; have hk2 : m1 = k2 := by { have := own2.len; rw [HM1.out] at this; exact this }; subst hk2; have F2 : T9 W2 w.heap.size 0 ⟨2, s, i, c, a, l, r, 0, h⟩ := (((F1.set0 2).later (below1 _ _)).later (below1 _ _)).later hb2; have X2 : T9 W2 W1.heap.size 0 ⟨2, s, i, cost, a, l, r, 0, h⟩ := ((T9.newAt (W1.setCell ⟨w.heap.size, 0, none⟩ (.int .i64 2)) W1.heap.size (by simp) 2 s i cost a l r 0 h).later (below1 _ _)).later hb2; obtain ⟨q0, q1, q2, q3, q4, q5, q6, q7, q8⟩ := F2.z; obtain ⟨y0, y1, y2, y3, y4, y5, y6, y7, y8⟩ := X2.z; have hB2 : Below w.heap.size w W2 := ((hB1.setCell (Nat.le_refl _) _).alloc (by simp; omega) _).alloc (by simp; omega) _ |>.trans (hb2.mono (by simp; omega)); have sz2 : w.heap.size < W2.heap.size := by { have := hb2.size; simp at this; omega })
      | (go_at_call 12; refine (encode_any _ 2 _ [⟨2, s, i, c, a, l, r, 0, h⟩, ⟨2, s, i, cost, a, l, r, 0, h⟩] _ (rowT_two (T9.new2 W2 2 s i c a l r 0 h 2 s i cost a l r 0 h).1 (T9.new2 W2 2 s i c a l r 0 h 2 s i cost a l r 0 h).2 (by first | rfl | simp) HP.out HQ.out) (by omega)).mono ?_; rintro e W3 ⟨ad3, k3, cp3, rfl, own3, hb3⟩; rw [HF.out]; have hk3 : m2 = k3 := by { have := own3.len; rw [HM2.out] at this; exact this }; subst hk3; have F3 := (F2.later (below1 _ _)).later hb3; obtain ⟨q0, q1, q2, q3, q4, q5, q6, q7, q8⟩ := F3.z; have hB3 := stp1 hB2 hb3))
    go_ret
    exact ⟨rfl, hB3⟩
  · go_enter Try.func10, Try.ntmps10
    go_wp2_with (first
      | (go_at_call 11; refine (awake_any _).mono ?_; rintro e W1 ⟨rfl, hb1⟩; obtain ⟨hc, hf⟩ := bcell hb1; have F1 := (T9.new w k s i c a l r t h).later hb1; obtain ⟨q0, q1, q2, q3, q4, q5, q6, q7, q8⟩ := F1.z; have hB1 := Below.out1 hb1; have sz1 : w.heap.size < W1.heap.size := by { have := hb1.size; simp at this; omega })
      | (go_at_call_of 12 (Value.slice (some { block := W1.heap.size + 1, off := 0 }) 1 1); refine (encode_any _ 1 _ [⟨2, s, i, c, a, l, r, t, h⟩] _ (rowT_one (T9.new _ 2 s i c a l r t h) (by first | rfl | simp) HP.out) (by omega)).mono ?_; rintro e W2 ⟨ad2, k2, cp2, rfl, own2, hb2⟩; rw [HE.out]; have hk2 : m1 = k2 := by { have := own2.len; rw [HM1.out] at this; exact this }; subst hk2; have F2 : T9 W2 w.heap.size 0 ⟨2, s, i, c, a, l, r, t, h⟩ := (((F1.set0 2).later (below1 _ _)).later (below1 _ _)).later hb2; have X2 : T9 W2 W1.heap.size 0 ⟨2, s, i, cost, a, l, r, t, h⟩ := ((T9.newAt (W1.setCell ⟨w.heap.size, 0, none⟩ (.int .i64 2)) W1.heap.size (by simp) 2 s i cost a l r t h).later (below1 _ _)).later hb2; obtain ⟨q0, q1, q2, q3, q4, q5, q6, q7, q8⟩ := F2.z; obtain ⟨y0, y1, y2, y3, y4, y5, y6, y7, y8⟩ := X2.z; have hB2 : Below w.heap.size w W2 := ((hB1.setCell (Nat.le_refl _) _).alloc (by simp; omega) _).alloc (by simp; omega) _ |>.trans (hb2.mono (by simp; omega)); have sz2 : w.heap.size < W2.heap.size := by { have := hb2.size; simp at this; omega })
      | (go_at_call 12; refine (encode_any _ 2 _ [⟨2, s, i, c, a, l, r, t, h⟩, ⟨2, s, i, cost, a, l, r, t, h⟩] _ (rowT_two (T9.new2 W2 2 s i c a l r t h 2 s i cost a l r t h).1 (T9.new2 W2 2 s i c a l r t h 2 s i cost a l r t h).2 (by first | rfl | simp) HP.out HQ.out) (by omega)).mono ?_; rintro e W3 ⟨ad3, k3, cp3, rfl, own3, hb3⟩; rw [HF.out]; have hk3 : m2 = k3 := by { have := own3.len; rw [HM2.out] at this; exact this }; subst hk3; have F3 := (F2.later (below1 _ _)).later hb3; obtain ⟨q0, q1, q2, q3, q4, q5, q6, q7, q8⟩ := F3.z; have hB3 := stp1 hB2 hb3))
    go_ret
    exact ⟨rfl, hB3⟩
end Go.Proofs.Ytakikkigkmcffaa
