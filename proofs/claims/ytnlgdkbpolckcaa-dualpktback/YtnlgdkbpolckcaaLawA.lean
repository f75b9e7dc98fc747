/- The law DualpktApart, walked. -/
import Derived.Test.YtnlgdkbpolckcaaLawE
namespace Go.Proofs.Ytnlgdkbpolckcaa
open Go.RowKit

set_option maxHeartbeats 2000000 in
theorem law_apart (c : Int) (i : Bool) (s k : Int) (ad : Option Addr) (n cap : Nat) (es : List Ent) (c' : Int) (i' : Bool) (s' k' : Int) (ad' : Option Addr) (n' cap' : Nat) (es' : List Ent) (w : World) (hr : RowE w ad n es) (hp : Pk.Ok ⟨c, i, s, k, es⟩) (hr' : RowE w ad' n' es') (hp' : Pk.Ok ⟨c', i', s', k', es'⟩) :
    Calls Try.prog 8 #[valP c i s k ad n cap, valP c' i' s' k' ad' n' cap'] w fun e w' => e = .returned (.bool true) ∧ Below w.heap.size w w' := by
  have HR : Hid (RowE w ad n es) := hr
  have HR' : Hid (RowE w ad' n' es') := hr'
  have HL : Hid (es.length = n) := hr.1
  have HBy : Hid (Bytes (encB ⟨c, i, s, k, es⟩)) := encB_bytes hp
  have HBy' : Hid (Bytes (encB ⟨c', i', s', k', es'⟩)) := encB_bytes hp'
  have HSh : Hid ((encB ⟨c, i, s, k, es⟩).length ≤ 816) := encB_short _
  have HSh' : Hid ((encB ⟨c', i', s', k', es'⟩).length ≤ 816) := encB_short _
  have HP : Hid (Pk.Ok ⟨c, i, s, k, es⟩) := hp
  have HP' : Hid (Pk.Ok ⟨c', i', s', k', es'⟩) := hp'
  have s0 : 0 ≤ s := hp.s0
  have s1 : s ≤ 4294967295 := hp.s1
  have k0 : 0 ≤ k := hp.k0
  have k1 : k ≤ 4294967295 := hp.k1
  have s0' : 0 ≤ s' := hp'.s0
  have s1' : s' ≤ 4294967295 := hp'.s1
  have k0' : 0 ≤ k' := hp'.k0
  have k1' : k' ≤ 4294967295 := hp'.k1
  clear hr hp hr' hp'
  have two : ∀ {W1 : World}, Below ((w.alloc (objP c i s k ad n cap)).alloc (objP c' i' s' k' ad' n' cap')).heap.size ((w.alloc (objP c i s k ad n cap)).alloc (objP c' i' s' k' ad' n' cap')) W1 → P5 W1 w.heap.size c i s k ad n cap ∧ P5 W1 (w.heap.size + 1) c' i' s' k' ad' n' cap' := fun hb => by
    refine ⟨((P5.new w c i s k ad n cap).later (below1 _ _)).later hb, ?_⟩
    have := (P5.new (w.alloc (objP c i s k ad n cap)) c' i' s' k' ad' n' cap').later hb
    simpa using this
  have HTwo : Hid (_) := @two
  clear two
  by_cases h1 : (40 : Int) < (n : Int)
  · go_enter Try.func8, Try.ntmps8
    go_wp2_with (go_at_call 9; refine (awake_any _).mono ?_; rintro e W1 ⟨rfl, hb1⟩; obtain ⟨⟨g0, g1, g2, g3, g4, gz⟩, ⟨f0, f1, f2, f3, f4, fz⟩⟩ := HTwo.out hb1)
    go_ret
    exact ⟨rfl, (below2 _ _ _).trans (hb1.mono (by simp; omega))⟩
  by_cases h2 : (40 : Int) < (n' : Int)
  · go_enter Try.func8, Try.ntmps8
    go_wp2_with (go_at_call 9; refine (awake_any _).mono ?_; rintro e W1 ⟨rfl, hb1⟩; obtain ⟨⟨g0, g1, g2, g3, g4, gz⟩, ⟨f0, f1, f2, f3, f4, fz⟩⟩ := HTwo.out hb1)
    go_ret
    exact ⟨rfl, (below2 _ _ _).trans (hb1.mono (by simp; omega))⟩
  obtain ⟨x, hx⟩ : ∃ x, encX ⟨c, i, s, k, es⟩ = x := ⟨_, rfl⟩
  obtain ⟨y, hy⟩ : ∃ y, encX ⟨c', i', s', k', es'⟩ = y := ⟨_, rfl⟩
  have HX : Hid (encX ⟨c, i, s, k, es⟩ = x) := hx
  have HY : Hid (encX ⟨c', i', s', k', es'⟩ = y) := hy
  have key : (x != 0) = true ∨ (x != 0) = false ∧ ((y != 0) = true ∨ (y != 0) = false) := by cases (x != 0) <;> cases (y != 0) <;> simp
  obtain ⟨v, hv⟩ : ∃ v, decide ((⟨c, i, s, k, es⟩ : Pk) = ⟨c', i', s', k', es'⟩) = v := ⟨_, rfl⟩
  have HV : Hid (decide ((⟨c, i, s, k, es⟩ : Pk) = ⟨c', i', s', k', es'⟩) = v) := hv
  obtain ⟨t1, ht1⟩ : ∃ t, strOfNums (encB ⟨c, i, s, k, es⟩) = t := ⟨_, rfl⟩
  obtain ⟨t2, ht2⟩ : ∃ t, strOfNums (encB ⟨c', i', s', k', es'⟩) = t := ⟨_, rfl⟩
  have HT1 : Hid (strOfNums (encB ⟨c, i, s, k, es⟩) = t1) := ht1
  have HT2 : Hid (strOfNums (encB ⟨c', i', s', k', es'⟩) = t2) := ht2
  have HEq : Hid ((x != 0) = false → (y != 0) = false → (t1.toList == t2.toList) = v) := fun hx0 hy0 => by
    have ex : encX ⟨c, i, s, k, es⟩ = 0 := by rw [hx]; simpa using hx0
    have ey : encX ⟨c', i', s', k', es'⟩ = 0 := by rw [hy]; simpa using hy0
    have hij := encB_inj HP.out HP'.out ex ey
    rw [← hv, ← ht1, ← ht2, Bool.eq_iff_iff]
    simp only [beq_iff_eq, decide_eq_true_eq]
    rw [← hij]
    constructor
    · intro h; exact str_inj HBy.out HBy'.out (by rw [ByteArray.toList_eq, ByteArray.toList_eq] at h; exact ByteArray.ext (Array.ext' h))
    · intro h; rw [h]
  have HLen : Hid ((x != 0) = false → (encB ⟨c, i, s, k, es⟩).length = 16 + 20 * n) := fun hx0 => by
    rw [encB_len (by rw [hx]; simpa using hx0)]; simp only; rw [HL.out]
  obtain ⟨q, hq⟩ : ∃ q, 16 + 20 * n = q := ⟨_, rfl⟩
  obtain ⟨q2, hq2⟩ : ∃ q2, 20 * n = q2 := ⟨_, rfl⟩
  have wq2 : IntKind.i64.wrap (20 * (n : Int)) = (q2 : Int) := by rw [wrap_in (by omega) (by omega)]; omega
  have wq : IntKind.i64.wrap (16 + (q2 : Int)) = (q : Int) := by rw [wrap_in (by omega) (by omega)]; omega
  have HQ : Hid (16 + 20 * n = q) := hq
  clear hx hy hv ht1 ht2 hq hq2
  rcases key with kx | ⟨kx, ky | ky⟩
  case inr.inr =>
    have HV' : Hid ((t1.toList == t2.toList) = v) := HEq.out kx ky
    have hv' := HV'.out
    clear HEq
    go_enter Try.func8, Try.ntmps8
    go_wp2_with (first
      | (go_at_call 9; refine (awake_any _).mono ?_; rintro e W1 ⟨rfl, hb1⟩; obtain ⟨⟨g0, g1, g2, g3, g4, gz⟩, ⟨f0, f1, f2, f3, f4, fz⟩⟩ := HTwo.out hb1; have hB1 := (below2 w (objP c i s k ad n cap) (objP c' i' s' k' ad' n' cap')).trans (hb1.mono (by simp; omega)); have HB1 : Hid (_) := hb1)
      | (go_at_call_of 10 (Value.agg #[Value.int IntKind.i64 c, Value.bool i, Value.int IntKind.u32 s, Value.int IntKind.u32 k, Value.slice ad n cap]); refine (encode_any c i s k ad n cap es _ (HR.out.later hB1) (by omega) s0 s1 k0 k1).mono ?_; rintro e W2 ⟨a2, m2, p2, rfl, own2, hb2⟩; rw [HX.out]; obtain ⟨⟨g0, g1, g2, g3, g4, gz⟩, ⟨f0, f1, f2, f3, f4, fz⟩⟩ := HTwo.out (stp HB1.out hb2); have hB2 := stp hB1 hb2)
      | (go_at_call 10; refine (encode_any c' i' s' k' ad' n' cap' es' _ (HR'.out.later hB2) (by omega) s0' s1' k0' k1').mono ?_; rintro e W3 ⟨a3, m3, p3, rfl, own3, hb3⟩; rw [HY.out]; obtain ⟨⟨g0, g1, g2, g3, g4, gz⟩, ⟨f0, f1, f2, f3, f4, fz⟩⟩ := HTwo.out (stp (stp HB1.out hb2) hb3); have hB3 := stp hB2 hb3; have hk2 : q = m2 := by { have h1 := own2.len; have h2 := HLen.out kx; have h3 := HQ.out; omega }; subst hk2)
      | (go_at_call 14; refine (refSame_any c c' i i' s s' k k' ad ad' n cap n' cap' es es' _ (HR.out.later hB3) (HR'.out.later hB3) (by omega) (by omega) HV.out).mono ?_; rintro e W4 ⟨rfl, hb4⟩; obtain ⟨⟨g0, g1, g2, g3, g4, gz⟩, ⟨f0, f1, f2, f3, f4, fz⟩⟩ := HTwo.out (stp (stp (stp HB1.out hb2) hb3) hb4); have hB4 := stp hB3 hb4; have hk2 : q ≤ 100000 := by { have h1 := own2.len; have h2 := HSh.out; omega }; have hk3 : m3 ≤ 100000 := by { have h1 := own3.len; have h2 := HSh'.out; omega }; have v2 := conv_str p2 (((own2.row HBy.out hk2).later hb3).later hb4); have v3 := conv_str p3 ((own3.row HBy'.out hk3).later hb4); rw [HT1.out] at v2; rw [HT2.out] at v3; clear hk2 hk3))
    go_ret
    exact ⟨rfl, hB4⟩
  all_goals
    clear HEq
    go_enter Try.func8, Try.ntmps8
    go_wp2_with (first
      | (go_at_call 9; refine (awake_any _).mono ?_; rintro e W1 ⟨rfl, hb1⟩; obtain ⟨⟨g0, g1, g2, g3, g4, gz⟩, ⟨f0, f1, f2, f3, f4, fz⟩⟩ := HTwo.out hb1; have hB1 := (below2 w (objP c i s k ad n cap) (objP c' i' s' k' ad' n' cap')).trans (hb1.mono (by simp; omega)); have HB1 : Hid (_) := hb1)
      | (go_at_call_of 10 (Value.agg #[Value.int IntKind.i64 c, Value.bool i, Value.int IntKind.u32 s, Value.int IntKind.u32 k, Value.slice ad n cap]); refine (encode_any c i s k ad n cap es _ (HR.out.later hB1) (by omega) s0 s1 k0 k1).mono ?_; rintro e W2 ⟨a2, m2, p2, rfl, own2, hb2⟩; rw [HX.out]; obtain ⟨⟨g0, g1, g2, g3, g4, gz⟩, ⟨f0, f1, f2, f3, f4, fz⟩⟩ := HTwo.out (stp HB1.out hb2); have hB2 := stp hB1 hb2)
      | (go_at_call 10; refine (encode_any c' i' s' k' ad' n' cap' es' _ (HR'.out.later hB2) (by omega) s0' s1' k0' k1').mono ?_; rintro e W3 ⟨a3, m3, p3, rfl, own3, hb3⟩; rw [HY.out]; have hB3 := stp hB2 hb3))
    go_ret
    exact ⟨rfl, hB3⟩
end Go.Proofs.Ytnlgdkbpolckcaa
