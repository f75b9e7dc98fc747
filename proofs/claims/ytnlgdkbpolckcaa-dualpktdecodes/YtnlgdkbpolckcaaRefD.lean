/- The document's Encode. -/
import Derived.Test.YtnlgdkbpolckcaaRefC
namespace Go.Proofs.Ytnlgdkbpolckcaa
open Go.RowKit

def EncD (w : World) (p : Pk) (e : Ending) (w' : World) : Prop := ∃ a m cp, e = .returned (.tuple #[.slice a m cp, .int .i64 (encX p)]) ∧ Own8 w' w.heap.size 5 (.slice a m cp) m (encB p) ∧ Below w.heap.size w w'
theorem enc_no {w w' : World} {p : Pk} {x : Int} (hx : encX p = x) (h0 : x ≠ 0) (hb : Below w.heap.size w w') : EncD w p (.returned (.tuple #[.slice none 0 0, .int .i64 x])) w' := by
  subst hx
  exact ⟨none, 0, 0, rfl, by rw [encB_bad h0]; exact own8_nil _ _ _, hb⟩
theorem all_not {es : List Ent} {j : Nat} {e : Ent} (h : es[j]? = some e) (hm : mayE e = false) : ¬ es.all mayE = true := fun ha => by
  rw [may_at ha h] at hm; cases hm
theorem all_next {es : List Ent} {j : Nat} {e : Ent} (h : es[j]? = some e) (hm : mayE e = true) (ha : (es.take j).all mayE = true) : (es.take (j + 1)).all mayE = true := by
  rw [take_next h, List.all_append, ha]; simp [hm]
set_option maxHeartbeats 4000000 in
theorem refEncode_any (c : Int) (i : Bool) (s k : Int) (ad : Option Addr) (n cap : Nat) (es : List Ent) (w : World) (hr : RowE w ad n es) (hn : n ≤ 200) (s0 : 0 ≤ s) (s1 : s ≤ 4294967295) (k0 : 0 ≤ k) (k1 : k ≤ 4294967295) :
    Calls Try.prog 11 #[valP c i s k ad n cap] w (EncD w ⟨c, i, s, k, es⟩) := by
  have HR : Hid (RowE w ad n es) := hr
  have HL : Hid (es.length = n) := hr.1
  have HE : Hid (Ents es) := hr.2.1
  clear hr
  by_cases h40 : 40 < n
  · have HX : Hid (encX ⟨c, i, s, k, es⟩ = 9) := encX_long (by simp only; rw [HL.out]; exact h40)
    have j40 : (40 : Int) < (n : Int) := by omega
    go_enter Try.func11, Try.ntmps11
    go_wp2
    go_ret2
    exact enc_no HX.out (by decide) (below1 _ _)
  have j40 : ¬ (40 : Int) < (n : Int) := by omega
  have hn40 : n ≤ 40 := by omega
  have no : ∀ (_ : codeOk ⟨c, i, s, k, es⟩ = false), encX ⟨c, i, s, k, es⟩ = 1 := fun h => encX_arg (by simp only; rw [HL.out]; omega) (fun hh => by rw [h] at hh; cases hh.1)
  by_cases hc0 : c < 0
  · have HX : Hid (encX ⟨c, i, s, k, es⟩ = 1) := no (by unfold codeOk; simp only; rw [decide_eq_false (by omega)]; rfl)
    clear no
    go_enter Try.func11, Try.ntmps11
    go_wp2
    go_ret2
    exact enc_no HX.out (by decide) (below1 _ _)
  by_cases hc3 : 3 < c
  · have HX : Hid (encX ⟨c, i, s, k, es⟩ = 1) := no (by unfold codeOk; simp only; rw [decide_eq_false (p := c ≤ 3) (by omega)]; simp)
    clear no
    go_enter Try.func11, Try.ntmps11
    go_wp2
    go_ret2
    exact enc_no HX.out (by decide) (below1 _ _)
  have c0 : 0 ≤ c := by omega
  have c3 : c ≤ 3 := by omega
  have key : (c == 0) = false ∨ (c == 0) = true ∧ (¬ (0 : Int) < (n : Int) ∨ (0 : Int) < (n : Int)) := by
    cases h : (c == 0)
    · exact .inl rfl
    · exact .inr ⟨rfl, by omega⟩
  have bad : (c == 0) = true → (0 : Int) < (n : Int) → encX ⟨c, i, s, k, es⟩ = 1 := fun h1 h2 => no (by
    unfold codeOk; simp only
    rw [h1, HL.out, decide_eq_true (p := 0 < n) (by omega)]; simp)
  have HGood : Hid ((c == 0) = false ∨ ¬ (0 : Int) < (n : Int) → codeOk ⟨c, i, s, k, es⟩ = true) := fun h => by
    unfold codeOk; simp only
    rw [decide_eq_true c0, decide_eq_true c3, HL.out]
    rcases h with h | h
    · rw [h]; rfl
    · rw [decide_eq_false (p := 0 < n) (by omega)]; simp
  have HBad : Hid (_) := bad
  clear no bad hc0 hc3
  rcases key with kc | ⟨kc, kn | kn⟩
  case inr.inr =>
    have HX : Hid (encX ⟨c, i, s, k, es⟩ = 1) := HBad.out kc kn
    go_enter Try.func11, Try.ntmps11
    go_wp2
    go_ret2
    exact enc_no HX.out (by decide) (below1 _ _)
  all_goals
    have HCO : Hid (codeOk ⟨c, i, s, k, es⟩ = true) := HGood.out (by first | exact .inl kc | exact .inr kn)
    clear HBad HGood
    go_enter Try.func11, Try.ntmps11
    go_wp2
    go_loopw [4] (fun i_ W => ∃ (j : Nat), j ≤ n ∧ i_ = .int .i64 j ∧ Hid ((es.take j).all mayE = true) ∧ Below (w.heap.size + 1) (w.alloc (objP c i s k ad n cap)) W) (fun i_ _ => n - (intOf i_).toNat)
    case atStart => exact ⟨0, Nat.zero_le _, rfl, rfl, Below.refl _ _⟩
    case round =>
      obtain ⟨j, hj, rfl, HT, hB⟩ := hrel
      have HP := boxP hB
      obtain ⟨g0, g1, g2, g3, g4, gz⟩ := HP
      by_cases hlt : j < n
      · first
          | (exfalso; omega)
          | (have hlt' : (j : Int) < (n : Int) := by omega
             obtain ⟨⟨ea, el, eb, ed, eh, et⟩, b, off, he, hok, rfl, h5⟩ := (HR.out.later (out8 hB)).at hlt
             obtain ⟨d0, d1, d2, d3, d4, d5⟩ := h5
             simp only at d0 d1 d2 d3 d4 d5
             have ea0 : 0 ≤ ea := hok.a0
             have ea1 : ea < 4294967296 := hok.a1
             have el0 : -9223372036854775808 ≤ el := hok.l0
             have el1 : el ≤ 9223372036854775807 := hok.l1
             obtain ⟨v, hv⟩ : ∃ v, mayE ⟨ea, el, eb, ed, eh, et⟩ = v := ⟨_, rfl⟩
             have HV : Hid (mayE ⟨ea, el, eb, ed, eh, et⟩ = v) := hv
             cases v
             · have HX : Hid (encX ⟨c, i, s, k, es⟩ = 1) := encX_arg (by simp only; rw [HL.out]; omega) (fun hh => all_not he hv hh.2)
               clear hok he hv
               go_wp2_with (go_at_call 19; refine (refEntry_any _ _ _ _ _ _ _ ea0 ea1 el0 el1 HV.out).mono ?_; rintro e W1 ⟨rfl, hb1⟩)
               go_ret2
               exact enc_no HX.out (by decide) (stp (out8 hB) hb1)
             · have HT' : Hid ((es.take (j + 1)).all mayE = true) := all_next he hv HT.out
               clear hok he hv
               go_wp2_with (go_at_call 19; refine (refEntry_any _ _ _ _ _ _ _ ea0 ea1 el0 el1 HV.out).mono ?_; rintro e W1 ⟨rfl, hb1⟩; have hB1 := hB.trans (hb1.mono (by omega)); obtain ⟨g0, g1, g2, g3, g4, gz⟩ := boxP hB1)
               go_roundw
               case rel => exact ⟨j + 1, by omega, by go_num, HT', hB1⟩
               case measure => simp [intOf]; omega)
      · have hlt' : ¬ (j : Int) < (n : Int) := by omega
        obtain rfl : j = n := by omega
        have HA : Hid (es.all mayE = true) := by unfold Hid; have := HT.out; rw [show es.take j = es by rw [← HL.out]; exact List.take_length] at this; exact this
        have HX : Hid (encX ⟨c, i, s, k, es⟩ = 0) := encX_mk (by simp only; rw [HL.out]; omega) HCO.out HA.out
        have hbd := sumI_bd (bodyB_bytes (p := ⟨c, i, s, k, es⟩) ⟨by simp only; omega, by simp only; omega, s0, s1, k0, k1, HE.out⟩ HX.out (s := 0) (by decide) (by decide))
        have HBB : Hid (Bytes (bodyB ⟨c, i, s, k, es⟩ 0)) := bodyB_bytes (p := ⟨c, i, s, k, es⟩) ⟨by simp only; omega, by simp only; omega, s0, s1, k0, k1, HE.out⟩ HX.out (by decide) (by decide)
        obtain ⟨sm, hsm⟩ : ∃ sm, sumI (bodyB ⟨c, i, s, k, es⟩ 0) = sm := ⟨_, rfl⟩
        have HSM : Hid (sumI (bodyB ⟨c, i, s, k, es⟩ 0) = sm) := hsm
        rw [hsm] at hbd
        obtain ⟨sm0, sm1⟩ := hbd
        have HEB : Hid (encB ⟨c, i, s, k, es⟩ = bodyB ⟨c, i, s, k, es⟩ sm) := by unfold Hid; rw [encB_good HX.out, hsm]
        have HLen : Hid ((bodyB ⟨c, i, s, k, es⟩ 0).length ≤ 816) := by unfold Hid; rw [bodyB_len, HL.out]; omega
        have HBw : Hid (Below w.heap.size w wr) := out8 hB
        have HPB : Hid (P5 wr w.heap.size c i s k ad j cap) := boxP hB
        have bw := HBw.out.size
        clear hsm
        go_wp2
        go_region_held3 (fun w' => w'.cell? ⟨w.heap.size, 0, none⟩ = some (.int .i64 c) ∧ w'.cell? ⟨w.heap.size, 1, none⟩ = some (.bool i) ∧ w'.cell? ⟨w.heap.size, 2, none⟩ = some (.int .u32 s) ∧ w'.cell? ⟨w.heap.size, 3, none⟩ = some (.int .u32 k) ∧ w'.cell? ⟨w.heap.size, 4, none⟩ = some (.slice ad j cap)) (first | exact ⟨q0, q1, q2, q3, q4⟩ | go_keep)
          ((first
            | (go_at_call_of 20 (Value.int IntKind.u16 0); refine (refBytes_any c i s k ad j cap es 0 _ (HR.out.later HBw.out.drew) hn40 HA.out c0 c3 s0 s1 k0 k1 (by decide) (by decide)).mono ?_; rintro e W1 ⟨a1, m1, p1, rfl, own1, hb1⟩; have HP1 := (HPB.out.later (Below.refl _ _).drew).later hb1; have HP1' := HP1; obtain ⟨q0, q1, q2, q3, q4, qz⟩ := HP1'; have hB1 := stp HBw.out.drew hb1; have hm1 : m1 ≤ 816 := by { have h1 := own1.len; have h2 := HLen.out; omega })
            | (go_at_call 21; refine (refSum_any _ _ _ (bodyB ⟨c, i, s, k, es⟩ 0) _ (own1.row HBB.out (by omega))).mono ?_; rw [HSM.out]; rintro e W_ ⟨rfl, rfl⟩)
            | (go_at_call 20; refine (refBytes_any c i s k ad j cap es sm _ (HR.out.later hB1) hn40 HA.out c0 c3 s0 s1 k0 k1 sm0 sm1).mono ?_; rintro e W2 ⟨a2, m2, p2, rfl, own2, hb2⟩; obtain ⟨q0, q1, q2, q3, q4, qz⟩ := HP1.later hb2; have hB2 := stp hB1 hb2)))
        all_goals
          go_wp2
          go_ret2
          exact ⟨a2, m2, p2, by rw [HX.out]; rfl, by rw [HEB.out]; exact own2.base hB1.size, hB2⟩
end Go.Proofs.Ytnlgdkbpolckcaa
