/- The contract of the document's Facts. -/
import Derived.Test.YtofmgkpghkeegaaJouG
import Derived.Deep.CutBlock
namespace Go.Proofs.Ytofmgkpghkeegaa
open Go.RowKit

theorem RowF.take {W : World} {ad : Option Addr} {n : Nat} {L : List Fc} (h : RowF W ad n L) (m : Nat) (hm : m ≤ n) : RowF W ad m (L.take m) :=
  ⟨by rw [List.length_take, h.1]; omega, fun p hp => h.2.1 p (List.mem_of_mem_take hp), fun i p hp => by
    have hi : i < m := by
      rcases Nat.lt_or_ge i m with hi | hi
      · exact hi
      · rw [List.getElem?_eq_none (by rw [List.length_take]; omega)] at hp; cases hp
    rw [List.getElem?_take_of_lt hi] at hp
    exact h.2.2 i p hp⟩
theorem RowF.drop {W : World} {b off n : Nat} {L : List Fc} (h : RowF W (some ⟨b, off, none⟩) n L) (k m : Nat) (hk : k + m = n) : RowF W (some ⟨b, off + k * 3, none⟩) m (L.drop k) :=
  ⟨by rw [List.length_drop, h.1]; omega, fun p hp => h.2.1 p (List.mem_of_mem_drop hp), fun i p hp => by
    rw [List.getElem?_drop] at hp
    obtain ⟨b', off', e, q⟩ := h.2.2 (k + i) p hp
    simp only [Option.some.injEq, Addr.mk.injEq, and_true] at e
    obtain ⟨rfl, rfl⟩ := e
    refine ⟨_, _, rfl, ?_⟩
    rw [show off + k * 3 + i * 3 = off + (k + i) * 3 by omega]; exact q⟩
theorem rowF_zero {W : World} {ad : Option Addr} {L : List Fc} (h : L.length = 0) : RowF W ad 0 L := by
  obtain rfl := List.eq_nil_of_length_eq_zero h
  exact ⟨rfl, (fun _ h => by cases h), fun i e h => by simp at h⟩
theorem run_eqF (x y : Fc) (v : Bool) (h : decide (x = y) = v) (W : World) : Sem.run Try.prog (binOp .eql 32 (.agg #[.int .i64 x.k, .int .u32 x.y, .int .u32 x.n]) (.agg #[.int .i64 y.k, .int .u32 y.y, .int .u32 y.n])) W = .ok (.bool v) W := by
  obtain ⟨i, a, c⟩ := x
  obtain ⟨j, b, d⟩ := y
  subst h
  by_cases h1 : i = j
  · subst h1
    by_cases h2 : a = b
    · subst h2
      by_cases h3 : c = d
      · subst h3; go_simp
      · have h3' : (c == d) = false := beq_eq_false_iff_ne.2 h3
        go_simp
    · have h2' : (a == b) = false := beq_eq_false_iff_ne.2 h2
      go_simp
  · have h1' : (i == j) = false := beq_eq_false_iff_ne.2 h1
    go_simp
theorem Fcs_facts {L : List Fc} (h : Fcs L) (M : List Fc) (hM : ∀ p ∈ M, p ∈ L) : Fcs (fcts L M) := fun p hp => by
  obtain ⟨h1, f, hf, e1, e2⟩ := fcts_mem.1 hp
  obtain ⟨n, hn⟩ := lastF_some (hM f hf) e1 e2
  have h3 := h _ (lastF_mem hn)
  have : p.n = n := by rw [h1]; unfold numF; rw [hn]; rfl
  exact ⟨h3.k0, h3.k1, h3.y0, h3.y1, by rw [this]; exact h3.n0, by rw [this]; exact h3.n1⟩
theorem ins_same {f : Fc} {L : List Fc} {a : Nat} (ha : atF f L = a) (h : L[a]? = some f) : insF f L = L := by rw [insF_at, ha, if_pos h]
theorem ins_new {f : Fc} {L : List Fc} {a : Nat} (ha : atF f L = a) (h : L[a]? ≠ some f) : insF f L = L.take a ++ [f] ++ L.drop a := by rw [insF_at, ha, if_neg h]
set_option maxRecDepth 100000 in
set_option maxHeartbeats 8000000 in
theorem refFacts_any (N K : Nat) (room : Int) (v : Value) (L : List Fc) (w : World) (h : RefJ w N room v L K) (hL : L.length ≤ 3000) :
    Calls Try.prog 23 #[.pointer (some ⟨N, 0, none⟩)] w fun e w' => ∃ ad k cap, e = .returned (.slice ad k cap) ∧ OwnF w' w.heap.size (.slice ad k cap) k (factsJ L) ∧ Below w.heap.size w w' := by
  obtain ⟨ad, cap, rfl⟩ := h.own.shape
  obtain ⟨nn, hn⟩ : ∃ n, L.length = n := ⟨_, rfl⟩
  rw [hn] at h hL
  have HT : Hid (RefJ w N room (.slice ad nn cap) L K) := h
  have HRow : Hid (RowF w ad nn L) := by unfold Hid; have := h.own; rw [hn] at this; exact this.row h.ok
  have HN : Hid (L.length = nn) := hn
  have HP : Hid (Fcs L) := h.ok
  clear h hn
  go_enter Try.func23, Try.ntmps23
  go_wp2
  go_loopw [3, 4] (fun o_ i_ W => ∃ (j k : Nat) (ao : Option Addr) (co : Nat), j ≤ nn ∧ i_ = .int .i64 j ∧ o_ = .slice ao k co ∧ Hid (OwnF W w.heap.size (.slice ao k co) k (fcts L (L.take j))) ∧ Hid (Below w.heap.size w W)) (fun _ i_ _ => nn - (intOf i_).toNat)
  case atStart => exact ⟨0, 0, none, 0, Nat.zero_le _, rfl, rfl, ownF_nil _ _, Below.refl _ _⟩
  case round =>
    obtain ⟨j, k, ao, co, hj, rfl, rfl, HO, HB⟩ := hrel
    have c1 := (HT.out.later HB.out).c1
    by_cases hlt : j < nn
    · have hlt' : (j : Int) < (nn : Int) := by omega
      obtain ⟨⟨pk, py, pn⟩, b, off, he, hok, rfl, q⟩ := HRow.out.at hlt
      obtain ⟨q0, q1, q2⟩ := q.later HB.out
      simp only at q0 q1 q2
      have HE : Hid (fcts L (L.take (j + 1)) = insF ⟨pk, py, numF pk py L⟩ (fcts L (L.take j))) := fcts_next he
      obtain ⟨u, hu⟩ : ∃ u, numF pk py L = u := ⟨_, rfl⟩
      have HU : Hid (numF pk py L = u) := hu
      have HOKn : Hid (Fc.Ok ⟨pk, py, u⟩) := by
        obtain ⟨n, hn⟩ := lastF_some (List.mem_of_getElem? he) (k := pk) (y := py) rfl rfl
        have := HP.out _ (lastF_mem hn)
        unfold numF at hu
        rw [hn] at hu
        simp only [Option.getD_some] at hu
        subst hu
        exact this
      have hk3 : k ≤ 3000 := by
        have h1 := HO.out.len
        have h2 := fcts_len L (L.take j)
        rw [List.length_take] at h2
        omega
      obtain ⟨out, hout⟩ : ∃ o, fcts L (L.take j) = o := ⟨_, rfl⟩
      have HOut : Hid (fcts L (L.take j) = out) := hout
      have HPo : Hid (Fcs out) := by unfold Hid; rw [← hout]; exact Fcs_facts HP.out _ fun p hp => List.mem_of_mem_take hp
      rw [hout] at HO HE
      rw [hu] at HE
      clear he hok q hu hout
      have hHl := Nat.lt_of_lt_of_le HT.out.lt HB.out.size
      have HL : Hid (L.length ≤ 3000) := by unfold Hid; rw [HN.out]; exact hL
      go_wp2_with (go_at_call 20; refine (refGet_any N K room pk py _ L _ (HT.out.later (stp HB.out (below1 _ _))) HL.out).mono ?_; rw [HU.out]; rintro e w1 ⟨rfl, rfl⟩)
      obtain ⟨W2, hW2⟩ : ∃ W2, W2 = wr.alloc (objF pk py u) := ⟨_, rfl⟩
      obtain ⟨B5, hB5⟩ : ∃ B5, B5 = wr.heap.size := ⟨_, rfl⟩
      have HF5 : Hid (F3 W2 B5 0 ⟨pk, py, u⟩) := by rw [hW2, hB5]; exact F3.new wr pk py u
      have HBW : Hid (Below w.heap.size w W2) := by rw [hW2]; exact stp HB.out (below1 _ _)
      have HO2 : Hid (OwnF W2 w.heap.size (.slice ao k co) k out) := by rw [hW2]; exact HO.out.later (below1 _ _)
      have HRo : Hid (RowF W2 ao k out) := HO2.out.row HPo.out
      have hkc : k ≤ co := HO.out.cap_le
      rw [← hW2, ← hB5]
      clear hW2 hB5 q0 q1 q2 c1 HB hHl
      go_loopw [8] (fun a_ W => ∃ (a : Nat), a ≤ k ∧ a_ = .int .i64 a ∧ Hid (∀ (i : Nat) (q : Fc), i < a → out[i]? = some q → q.lt ⟨pk, py, u⟩) ∧ Hid (Below W2.heap.size W2 W)) (fun a_ _ => k - (intOf a_).toNat)
      case atStart => exact ⟨0, Nat.zero_le _, rfl, fun i q hi => absurd hi (Nat.not_lt_zero _), Below.refl _ _⟩
      case round =>
        obtain ⟨a, hak0, rfl, HA, HB9⟩ := hrel
        obtain ⟨W9, hW9e⟩ : ∃ W, W = wr := ⟨_, rfl⟩
        rw [← hW9e] at HB9 ⊢
        clear hW9e
        have hac : (a : Int) ≤ (co : Int) := by omega
        have hac2 : (a : Int) ≤ (k : Int) := by omega
        have hac3 : (k : Int) ≤ (co : Int) := by omega
        obtain ⟨y0, y1, y2⟩ := (HF5.out.later HB9.out).z
        by_cases hak : a < k
        · have hak' : (a : Int) < (k : Int) := by omega
          obtain ⟨g, rfl⟩ : ∃ g, ao = some ⟨g, 0, none⟩ := by
            rcases HO.out.nil_or with ⟨-, h2, -⟩ | h2
            · omega
            · exact h2
          obtain ⟨⟨qk, qy, qn⟩, b3, o3, hq, -, hao, r0, r1, r2⟩ := (HRo.out.later HB9.out).at hak
          simp only [Option.some.injEq, Addr.mk.injEq, and_true] at hao
          obtain ⟨rfl, rfl⟩ := hao
          simp only [Nat.zero_add] at r0 r1 r2
          have HQ : Hid (out[a]? = some ⟨qk, qy, qn⟩) := hq
          clear hq
          by_cases h1 : qk < pk
          · have HA' : Hid (∀ (i : Nat) (q : Fc), i < a + 1 → out[i]? = some q → q.lt ⟨pk, py, u⟩) := fun i q hi hq => by
              by_cases e : i = a
              · subst e; rw [HQ.out] at hq; simp only [Option.some.injEq] at hq; subst hq; exact .inl h1
              · exact HA.out i q (by omega) hq
            go_wp2
            go_quiet (fail)
            go_wp2
            go_roundw
            case rel => exact ⟨a + 1, by omega, by go_num, HA', below_drewN HB9.out _⟩
            case measure => simp [intOf]; omega
          · have h1' : decide (qk < pk) = false := by simpa using h1
            by_cases h2 : qk = pk
            · have h2' : (qk == pk) = true := by simpa using h2
              by_cases h3 : qy < py
              · have HA' : Hid (∀ (i : Nat) (q : Fc), i < a + 1 → out[i]? = some q → q.lt ⟨pk, py, u⟩) := fun i q hi hq => by
                  by_cases e : i = a
                  · subst e; rw [HQ.out] at hq; simp only [Option.some.injEq] at hq; subst hq; exact .inr ⟨h2, h3⟩
                  · exact HA.out i q (by omega) hq
                clear h1 h2
                go_wp2
                go_quiet (fail)
                go_wp2
                go_roundw
                case rel => exact ⟨a + 1, by omega, by go_num, HA', below_drewN HB9.out _⟩
                case measure => simp [intOf]; omega
              · have h3' : decide (qy < py) = false := by simpa using h3
                have HAt : Hid (atF ⟨pk, py, u⟩ out = a) := (atF_lt HQ.out fun i q hi hq => HA.out i q hi hq).2 fun hl => by unfold Fc.lt at hl; simp only at hl; omega
                by_cases h4 : (⟨qk, qy, qn⟩ : Fc) = ⟨pk, py, u⟩
                · have HI : Hid (insF ⟨pk, py, u⟩ out = out) := ins_same HAt.out (by rw [HQ.out, h4])
                  have heq := run_eqF ⟨qk, qy, qn⟩ ⟨pk, py, u⟩ true (by simpa using h4)
                  simp only at heq
                  clear h1 h2 h3 h4
                  go_wp2
                  go_quiet (fail)
                  obtain ⟨W9', hW9⟩ : ∃ W, W = W9.drewN nq := ⟨_, rfl⟩
                  rw [← hW9]
                  have HB9' : Hid (Below W2.heap.size W2 W9') := by rw [hW9]; exact below_drewN HB9.out _
                  have HO9 : Hid (OwnF W9' w.heap.size (.slice (some ⟨g, 0, none⟩) k co) k out) := HO2.out.later HB9'.out
                  have e3 := HRo.out.later HB9'.out
                  obtain ⟨⟨qk2, qy2, qn2⟩, b2, o2, he2, -, ho2, s0, s1, s2⟩ := e3.at hak
                  rw [HQ.out] at he2
                  simp only [Option.some.injEq, Fc.mk.injEq] at he2
                  obtain ⟨rfl, rfl, rfl⟩ := he2
                  simp only [Option.some.injEq, Addr.mk.injEq, and_true] at ho2
                  obtain ⟨rfl, rfl⟩ := ho2
                  simp only [Nat.zero_add] at s0 s1 s2
                  obtain ⟨z0, z1, z2⟩ := (HF5.out.later HB9'.out).z
                  clear e3
                  clear hW9 HB9
                  go_wp2
                  go_quiet (fail)
                  go_wp2
                  go_roundw
                  case rel => exact ⟨j + 1, k, (some ⟨g, 0, none⟩), co, by omega, by go_num, by first | rfl | go_num, by unfold Hid; rw [HE.out, HI.out]; exact HO9.out.later (below_drewN (Below.refl _ _) _), below_drewN (stp HBW.out HB9'.out) _⟩
                  case measure => simp [intOf]; omega
                · have HI : Hid (insF ⟨pk, py, u⟩ out = out.take a ++ [(⟨pk, py, u⟩ : Fc)] ++ out.drop a) := ins_new HAt.out (by rw [HQ.out]; simpa using h4)
                  have heq := run_eqF ⟨qk, qy, qn⟩ ⟨pk, py, u⟩ false (by simpa using h4)
                  simp only at heq
                  clear h1 h2 h3 h4
                  go_wp2
                  go_quiet (fail)
                  obtain ⟨W9', hW9⟩ : ∃ W, W = W9.drewN nq := ⟨_, rfl⟩
                  rw [← hW9]
                  have HB9' : Hid (Below W2.heap.size W2 W9') := by rw [hW9]; exact below_drewN HB9.out _
                  have HO9 : Hid (OwnF W9' w.heap.size (.slice (some ⟨g, 0, none⟩) k co) k out) := HO2.out.later HB9'.out
                  have e3 := HRo.out.later HB9'.out
                  obtain ⟨⟨qk2, qy2, qn2⟩, b2, o2, he2, -, ho2, s0, s1, s2⟩ := e3.at hak
                  rw [HQ.out] at he2
                  simp only [Option.some.injEq, Fc.mk.injEq] at he2
                  obtain ⟨rfl, rfl, rfl⟩ := he2
                  simp only [Option.some.injEq, Addr.mk.injEq, and_true] at ho2
                  obtain ⟨rfl, rfl⟩ := ho2
                  simp only [Nat.zero_add] at s0 s1 s2
                  obtain ⟨z0, z1, z2⟩ := (HF5.out.later HB9'.out).z
                  clear e3
                  clear hW9 HB9
                  go_wp2
                  go_quiet (fail)
                  obtain ⟨W3, hW3⟩ : ∃ W3, W3 = W9'.drewN nq := ⟨_, rfl⟩
                  rw [← hW3]
                  have HB3 : Hid (Below W2.heap.size W2 W3) := by rw [hW3]; exact below_drewN HB9'.out _
                  have HR3 : Hid (RowF W3 (some ⟨g, 0, none⟩) k out) := HRo.out.later HB3.out
                  have HF3 : Hid (∀ W, Below W3.heap.size W3 W → W.cell? ⟨B5, 0, none⟩ = some (.int .i64 pk) ∧ W.cell? ⟨B5, 1, none⟩ = some (.int .u32 py) ∧ W.cell? ⟨B5, 2, none⟩ = some (.int .u32 u)) := fun W hW => ((HF5.out.later HB3.out).later hW).z
                  clear hW3
                  have HRd : Hid (∀ W, Below W3.heap.size W3 W → RowF W (some ⟨g, a * 3, none⟩) (k - a) (out.drop a)) := fun W hW => by
                    have := (HR3.out.later hW).drop a (k - a) (by omega)
                    simpa using this
                  go_wp2_with (first
                    | (at_builtin; refine wpList_appF _ rfl (.const (.slice none 0 0)) (.tmp 87) 27 rfl W3.heap.size Try.underlying27 infoF _ 0 [] rfl (ownF_nil _ _) _ a co (out.take a) rfl (HR3.out.take a (by omega)) a (by omega) (out.take a) rfl (by omega) (Nat.le_refl _) ?_; intro a2 c2 W4 own4 hb4; have HB4 : Hid (Below W3.heap.size W3 W4) := hb4; have HO4 : Hid (OwnF W4 W3.heap.size (.slice a2 a c2) a (out.take a)) := own4; obtain ⟨z0, z1, z2⟩ := HF3.out _ HB4.out; clear own4 hb4)
                    | (at_builtin; refine wpList_appF _ rfl (.tmp 89) (.tmp 91) 27 rfl W3.heap.size Try.underlying27 infoF _ a (out.take a) rfl (HO4.out.later (below1 _ _)) _ 1 1 [(⟨pk, py, u⟩ : Fc)] rfl (rowF_one (F3.newAt _ _ rfl pk py u) rfl HOKn.out) (a + 1) rfl (out.take a ++ [(⟨pk, py, u⟩ : Fc)]) rfl (by omega) (by have := HB4.out.size; simp; omega) ?_; intro a3 c3 W5 own5 hb5; have HB5 : Hid (Below W3.heap.size W3 W5) := (HB4.out.alloc HB4.out.size _).trans hb5; have HO5 : Hid (OwnF W5 W3.heap.size (.slice a3 (a + 1) c3) (a + 1) (out.take a ++ [(⟨pk, py, u⟩ : Fc)])) := own5; clear own5 hb5)
                    | (at_builtin; refine wpList_appF _ rfl (.tmp 93) (.tmp 96) 27 rfl W3.heap.size Try.underlying27 infoF _ (a + 1) (out.take a ++ [(⟨pk, py, u⟩ : Fc)]) rfl HO5.out _ (k - a) (co - a) (out.drop a) rfl (HRd.out _ HB5.out) (k + 1) (by omega) (out.take a ++ [(⟨pk, py, u⟩ : Fc)] ++ out.drop a) rfl (by omega) HB5.out.size ?_; intro a4 c4 W6 own6 hb6; have HB6 : Hid (Below W3.heap.size W3 W6) := HB5.out.trans hb6; have HO6 : Hid (OwnF W6 W3.heap.size (.slice a4 (k + 1) c4) (k + 1) (out.take a ++ [(⟨pk, py, u⟩ : Fc)] ++ out.drop a)) := own6; clear own6 hb6))
                  go_roundw
                  case rel =>
                    have hs := Nat.le_trans HBW.out.size HB3.out.size
                    exact ⟨j + 1, k + 1, a4, c4, by omega, by go_num, by go_num, by unfold Hid; rw [HE.out, HI.out]; exact HO6.out.base hs, (stp HBW.out HB3.out).trans (HB6.out.mono hs)⟩
                  case measure => simp [intOf]; omega
            · have h2' : (qk == pk) = false := by simpa using h2
              have HAt : Hid (atF ⟨pk, py, u⟩ out = a) := (atF_lt HQ.out fun i q hi hq => HA.out i q hi hq).2 fun hl => by unfold Fc.lt at hl; simp only at hl; omega
              have h4 : (⟨qk, qy, qn⟩ : Fc) ≠ ⟨pk, py, u⟩ := fun e => h2 (congrArg Fc.k e)
              have HI : Hid (insF ⟨pk, py, u⟩ out = out.take a ++ [(⟨pk, py, u⟩ : Fc)] ++ out.drop a) := ins_new HAt.out (by rw [HQ.out]; simpa using h4)
              have heq := run_eqF ⟨qk, qy, qn⟩ ⟨pk, py, u⟩ false (by simpa using h4)
              simp only at heq
              clear h1 h2 h4
              go_wp2
              go_quiet (fail)
              obtain ⟨W9', hW9⟩ : ∃ W, W = W9.drewN nq := ⟨_, rfl⟩
              rw [← hW9]
              have HB9' : Hid (Below W2.heap.size W2 W9') := by rw [hW9]; exact below_drewN HB9.out _
              have HO9 : Hid (OwnF W9' w.heap.size (.slice (some ⟨g, 0, none⟩) k co) k out) := HO2.out.later HB9'.out
              have e3 := HRo.out.later HB9'.out
              obtain ⟨⟨qk2, qy2, qn2⟩, b2, o2, he2, -, ho2, s0, s1, s2⟩ := e3.at hak
              rw [HQ.out] at he2
              simp only [Option.some.injEq, Fc.mk.injEq] at he2
              obtain ⟨rfl, rfl, rfl⟩ := he2
              simp only [Option.some.injEq, Addr.mk.injEq, and_true] at ho2
              obtain ⟨rfl, rfl⟩ := ho2
              simp only [Nat.zero_add] at s0 s1 s2
              obtain ⟨z0, z1, z2⟩ := (HF5.out.later HB9'.out).z
              clear e3
              clear hW9 HB9
              go_wp2
              go_quiet (fail)
              obtain ⟨W3, hW3⟩ : ∃ W3, W3 = W9'.drewN nq := ⟨_, rfl⟩
              rw [← hW3]
              have HB3 : Hid (Below W2.heap.size W2 W3) := by rw [hW3]; exact below_drewN HB9'.out _
              have HR3 : Hid (RowF W3 (some ⟨g, 0, none⟩) k out) := HRo.out.later HB3.out
              have HF3 : Hid (∀ W, Below W3.heap.size W3 W → W.cell? ⟨B5, 0, none⟩ = some (.int .i64 pk) ∧ W.cell? ⟨B5, 1, none⟩ = some (.int .u32 py) ∧ W.cell? ⟨B5, 2, none⟩ = some (.int .u32 u)) := fun W hW => ((HF5.out.later HB3.out).later hW).z
              clear hW3
              have HRd : Hid (∀ W, Below W3.heap.size W3 W → RowF W (some ⟨g, a * 3, none⟩) (k - a) (out.drop a)) := fun W hW => by
                have := (HR3.out.later hW).drop a (k - a) (by omega)
                simpa using this
              go_wp2_with (first
                | (at_builtin; refine wpList_appF _ rfl (.const (.slice none 0 0)) (.tmp 87) 27 rfl W3.heap.size Try.underlying27 infoF _ 0 [] rfl (ownF_nil _ _) _ a co (out.take a) rfl (HR3.out.take a (by omega)) a (by omega) (out.take a) rfl (by omega) (Nat.le_refl _) ?_; intro a2 c2 W4 own4 hb4; have HB4 : Hid (Below W3.heap.size W3 W4) := hb4; have HO4 : Hid (OwnF W4 W3.heap.size (.slice a2 a c2) a (out.take a)) := own4; obtain ⟨z0, z1, z2⟩ := HF3.out _ HB4.out; clear own4 hb4)
                | (at_builtin; refine wpList_appF _ rfl (.tmp 89) (.tmp 91) 27 rfl W3.heap.size Try.underlying27 infoF _ a (out.take a) rfl (HO4.out.later (below1 _ _)) _ 1 1 [(⟨pk, py, u⟩ : Fc)] rfl (rowF_one (F3.newAt _ _ rfl pk py u) rfl HOKn.out) (a + 1) rfl (out.take a ++ [(⟨pk, py, u⟩ : Fc)]) rfl (by omega) (by have := HB4.out.size; simp; omega) ?_; intro a3 c3 W5 own5 hb5; have HB5 : Hid (Below W3.heap.size W3 W5) := (HB4.out.alloc HB4.out.size _).trans hb5; have HO5 : Hid (OwnF W5 W3.heap.size (.slice a3 (a + 1) c3) (a + 1) (out.take a ++ [(⟨pk, py, u⟩ : Fc)])) := own5; clear own5 hb5)
                | (at_builtin; refine wpList_appF _ rfl (.tmp 93) (.tmp 96) 27 rfl W3.heap.size Try.underlying27 infoF _ (a + 1) (out.take a ++ [(⟨pk, py, u⟩ : Fc)]) rfl HO5.out _ (k - a) (co - a) (out.drop a) rfl (HRd.out _ HB5.out) (k + 1) (by omega) (out.take a ++ [(⟨pk, py, u⟩ : Fc)] ++ out.drop a) rfl (by omega) HB5.out.size ?_; intro a4 c4 W6 own6 hb6; have HB6 : Hid (Below W3.heap.size W3 W6) := HB5.out.trans hb6; have HO6 : Hid (OwnF W6 W3.heap.size (.slice a4 (k + 1) c4) (k + 1) (out.take a ++ [(⟨pk, py, u⟩ : Fc)] ++ out.drop a)) := own6; clear own6 hb6))
              go_roundw
              case rel =>
                have hs := Nat.le_trans HBW.out.size HB3.out.size
                exact ⟨j + 1, k + 1, a4, c4, by omega, by go_num, by go_num, by unfold Hid; rw [HE.out, HI.out]; exact HO6.out.base hs, (stp HBW.out HB3.out).trans (HB6.out.mono hs)⟩
              case measure => simp [intOf]; omega
        · have hak' : decide ((a : Int) < (k : Int)) = false := by simp; omega
          obtain rfl : a = k := by omega
          have HAt : Hid (atF ⟨pk, py, u⟩ out = a) := by
            have h1 := atF_all (f := ⟨pk, py, u⟩) (L := out) fun i q hq => HA.out i q (by
              have := (List.getElem?_eq_some_iff.1 hq).1
              rw [HO.out.len] at this; exact this) hq
            unfold Hid
            rw [h1, HO.out.len]
          have HI : Hid (insF ⟨pk, py, u⟩ out = out.take a ++ [(⟨pk, py, u⟩ : Fc)] ++ out.drop a) := ins_new HAt.out (by rw [List.getElem?_eq_none (by rw [HO.out.len]; exact Nat.le_refl _)]; simp)
          rcases HO.out.nil_or with ⟨rfl, h2, h3⟩ | ⟨g, rfl⟩
          · subst h3
            obtain rfl : a = 0 := h2
            go_wp2
            go_quiet (fail)
            obtain ⟨W9', hW9⟩ : ∃ W, W = W9.drewN nq := ⟨_, rfl⟩
            rw [← hW9]
            have HB9' : Hid (Below W2.heap.size W2 W9') := by rw [hW9]; exact below_drewN HB9.out _
            have HO9 : Hid (OwnF W9' w.heap.size (.slice none 0 0) 0 out) := HO2.out.later HB9'.out
            obtain ⟨z0, z1, z2⟩ := (HF5.out.later HB9'.out).z
            clear hW9 HB9
            go_wp2
            go_quiet (fail)
            obtain ⟨W3, hW3⟩ : ∃ W3, W3 = W9'.drewN nq := ⟨_, rfl⟩
            rw [← hW3]
            have HB3 : Hid (Below W2.heap.size W2 W3) := by rw [hW3]; exact below_drewN HB9'.out _
            have HR3 : Hid (RowF W3 none 0 out) := HRo.out.later HB3.out
            have HF3 : Hid (∀ W, Below W3.heap.size W3 W → W.cell? ⟨B5, 0, none⟩ = some (.int .i64 pk) ∧ W.cell? ⟨B5, 1, none⟩ = some (.int .u32 py) ∧ W.cell? ⟨B5, 2, none⟩ = some (.int .u32 u)) := fun W hW => ((HF5.out.later HB3.out).later hW).z
            clear hW3
            have HRd : Hid (∀ W, Below W3.heap.size W3 W → RowF W none 0 (out.drop 0)) := fun W hW => by
              exact rowF_zero (by have := HO.out.len; rw [List.length_drop]; omega)
            go_wp2_with (first
              | (at_builtin; refine wpList_appF _ rfl (.const (.slice none 0 0)) (.tmp 87) 27 rfl W3.heap.size Try.underlying27 infoF _ 0 [] rfl (ownF_nil _ _) _ 0 0 (out.take 0) rfl (HR3.out.take 0 (by omega)) 0 (by omega) (out.take 0) rfl (by omega) (Nat.le_refl _) ?_; intro a2 c2 W4 own4 hb4; have HB4 : Hid (Below W3.heap.size W3 W4) := hb4; have HO4 : Hid (OwnF W4 W3.heap.size (.slice a2 0 c2) 0 (out.take 0)) := own4; obtain ⟨z0, z1, z2⟩ := HF3.out _ HB4.out; clear own4 hb4)
              | (at_builtin; refine wpList_appF _ rfl (.tmp 89) (.tmp 91) 27 rfl W3.heap.size Try.underlying27 infoF _ 0 (out.take 0) rfl (HO4.out.later (below1 _ _)) _ 1 1 [(⟨pk, py, u⟩ : Fc)] rfl (rowF_one (F3.newAt _ _ rfl pk py u) rfl HOKn.out) (0 + 1) rfl (out.take 0 ++ [(⟨pk, py, u⟩ : Fc)]) rfl (by omega) (by have := HB4.out.size; simp; omega) ?_; intro a3 c3 W5 own5 hb5; have HB5 : Hid (Below W3.heap.size W3 W5) := (HB4.out.alloc HB4.out.size _).trans hb5; have HO5 : Hid (OwnF W5 W3.heap.size (.slice a3 (0 + 1) c3) (0 + 1) (out.take 0 ++ [(⟨pk, py, u⟩ : Fc)])) := own5; clear own5 hb5)
              | (at_builtin; refine wpList_appF _ rfl (.tmp 93) (.tmp 96) 27 rfl W3.heap.size Try.underlying27 infoF _ (0 + 1) (out.take 0 ++ [(⟨pk, py, u⟩ : Fc)]) rfl HO5.out none (0 - 0) (0 - 0) (out.drop 0) rfl (HRd.out _ HB5.out) (0 + 1) (by omega) (out.take 0 ++ [(⟨pk, py, u⟩ : Fc)] ++ out.drop 0) rfl (by omega) HB5.out.size ?_; intro a4 c4 W6 own6 hb6; have HB6 : Hid (Below W3.heap.size W3 W6) := HB5.out.trans hb6; have HO6 : Hid (OwnF W6 W3.heap.size (.slice a4 (0 + 1) c4) (0 + 1) (out.take 0 ++ [(⟨pk, py, u⟩ : Fc)] ++ out.drop 0)) := own6; clear own6 hb6))
            go_roundw
            case rel =>
              have hs := Nat.le_trans HBW.out.size HB3.out.size
              exact ⟨j + 1, 0 + 1, a4, c4, by omega, by go_num, by go_num, by unfold Hid; rw [HE.out, HI.out]; exact HO6.out.base hs, (stp HBW.out HB3.out).trans (HB6.out.mono hs)⟩
            case measure => simp [intOf]; omega
          · skip
            go_wp2
            go_quiet (fail)
            obtain ⟨W9', hW9⟩ : ∃ W, W = W9.drewN nq := ⟨_, rfl⟩
            rw [← hW9]
            have HB9' : Hid (Below W2.heap.size W2 W9') := by rw [hW9]; exact below_drewN HB9.out _
            have HO9 : Hid (OwnF W9' w.heap.size (.slice (some ⟨g, 0, none⟩) a co) a out) := HO2.out.later HB9'.out
            obtain ⟨z0, z1, z2⟩ := (HF5.out.later HB9'.out).z
            clear hW9 HB9
            go_wp2
            go_quiet (fail)
            obtain ⟨W3, hW3⟩ : ∃ W3, W3 = W9'.drewN nq := ⟨_, rfl⟩
            rw [← hW3]
            have HB3 : Hid (Below W2.heap.size W2 W3) := by rw [hW3]; exact below_drewN HB9'.out _
            have HR3 : Hid (RowF W3 (some ⟨g, 0, none⟩) a out) := HRo.out.later HB3.out
            have HF3 : Hid (∀ W, Below W3.heap.size W3 W → W.cell? ⟨B5, 0, none⟩ = some (.int .i64 pk) ∧ W.cell? ⟨B5, 1, none⟩ = some (.int .u32 py) ∧ W.cell? ⟨B5, 2, none⟩ = some (.int .u32 u)) := fun W hW => ((HF5.out.later HB3.out).later hW).z
            clear hW3
            have HRd : Hid (∀ W, Below W3.heap.size W3 W → RowF W (if co = a then some ⟨g, 0, none⟩ else some ⟨g, a * 3, none⟩) 0 (out.drop a)) := fun W hW => by
              exact rowF_zero (by have := HO.out.len; rw [List.length_drop]; omega)
            obtain ⟨ra, hra⟩ : ∃ ra, (if co = a then some (⟨g, 0, none⟩ : Addr) else some ⟨g, a * 3, none⟩) = ra := ⟨_, rfl⟩
            rw [hra] at HRd
            go_wp2_with (first
              | (at_builtin; refine wpList_appF _ rfl (.const (.slice none 0 0)) (.tmp 87) 27 rfl W3.heap.size Try.underlying27 infoF _ 0 [] rfl (ownF_nil _ _) _ a co (out.take a) rfl (HR3.out.take a (by omega)) a (by omega) (out.take a) rfl (by omega) (Nat.le_refl _) ?_; intro a2 c2 W4 own4 hb4; have HB4 : Hid (Below W3.heap.size W3 W4) := hb4; have HO4 : Hid (OwnF W4 W3.heap.size (.slice a2 a c2) a (out.take a)) := own4; obtain ⟨z0, z1, z2⟩ := HF3.out _ HB4.out; clear own4 hb4)
              | (at_builtin; refine wpList_appF _ rfl (.tmp 89) (.tmp 91) 27 rfl W3.heap.size Try.underlying27 infoF _ a (out.take a) rfl (HO4.out.later (below1 _ _)) _ 1 1 [(⟨pk, py, u⟩ : Fc)] rfl (rowF_one (F3.newAt _ _ rfl pk py u) rfl HOKn.out) (a + 1) rfl (out.take a ++ [(⟨pk, py, u⟩ : Fc)]) rfl (by omega) (by have := HB4.out.size; simp; omega) ?_; intro a3 c3 W5 own5 hb5; have HB5 : Hid (Below W3.heap.size W3 W5) := (HB4.out.alloc HB4.out.size _).trans hb5; have HO5 : Hid (OwnF W5 W3.heap.size (.slice a3 (a + 1) c3) (a + 1) (out.take a ++ [(⟨pk, py, u⟩ : Fc)])) := own5; clear own5 hb5)
              | (at_builtin; refine wpList_appF _ rfl (.tmp 93) (.tmp 96) 27 rfl W3.heap.size Try.underlying27 infoF _ (a + 1) (out.take a ++ [(⟨pk, py, u⟩ : Fc)]) rfl HO5.out _ 0 _ (out.drop a) rfl (HRd.out _ HB5.out) (a + 1) (by omega) (out.take a ++ [(⟨pk, py, u⟩ : Fc)] ++ out.drop a) rfl (by omega) HB5.out.size ?_; intro a4 c4 W6 own6 hb6; have HB6 : Hid (Below W3.heap.size W3 W6) := HB5.out.trans hb6; have HO6 : Hid (OwnF W6 W3.heap.size (.slice a4 (a + 1) c4) (a + 1) (out.take a ++ [(⟨pk, py, u⟩ : Fc)] ++ out.drop a)) := own6; clear own6 hb6))
            go_roundw
            case rel =>
              have hs := Nat.le_trans HBW.out.size HB3.out.size
              exact ⟨j + 1, a + 1, a4, c4, by omega, by go_num, by go_num, by unfold Hid; rw [HE.out, HI.out]; exact HO6.out.base hs, (stp HBW.out HB3.out).trans (HB6.out.mono hs)⟩
            case measure => simp [intOf]; omega
    · have hlt' : ¬ (j : Int) < (nn : Int) := by omega
      obtain rfl : j = nn := by omega
      have HE : Hid (fcts L (L.take j) = factsJ L) := by unfold Hid; rw [← HN.out]; exact fcts_all L
      rw [HE.out] at HO
      go_wp2
      go_ret
      exact ⟨ao, k, co, rfl, HO.out, HB.out⟩
end Go.Proofs.Ytofmgkpghkeegaa
