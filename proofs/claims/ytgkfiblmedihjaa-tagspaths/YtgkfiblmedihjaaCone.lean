/- The walk of TagsPaths: the list in the other order, and whether a number stands twice. -/
import Derived.Test.YtgkfiblmedihjaaCond
import Derived.BigQuiet
namespace Go.Proofs.Ytgkfiblmedihjaa
open Go.RowKit

theorem drop_rev {l : List Int} {m : Nat} (h : m < l.length) : (l.drop m).reverse = (l.drop (m + 1)).reverse ++ [l[m]?.getD 0] := by
  rw [List.drop_eq_getElem_cons h, List.reverse_cons]
  simp [h]
theorem twice_at {l : List Int} {i k : Nat} (hi : i < l.length) (hk : k < i) (h : l[i]?.getD 0 = l[k]?.getD 0) : ¬ l.Nodup := by
  intro hn
  have hk2 : k < l.length := by omega
  have := (List.pairwise_iff_getElem.1 hn) k i hk2 hi hk
  simp [hi, hk2] at h
  exact this h.symm

set_option maxRecDepth 100000 in
set_option maxHeartbeats 2000000 in
theorem paths_main (a : Option Addr) (len cap : Nat) (l : List Int) (w : World) (h : RowZ w a len l) (hle : len ≤ 100) :
    Calls Try.prog 7 #[.slice a len cap] w fun e w' => e = .returned (.bool true) ∧ Below w.heap.size w w' := by
  have HR : Hid (RowZ w a len l) := h
  have HL : Hid (l.length = len) := h.1
  clear h
  obtain ⟨x, hx⟩ : ∃ x, (ofS l).1 = x := ⟨_, rfl⟩
  obtain ⟨y, hy⟩ : ∃ y, (ofS l).2 = y := ⟨_, rfl⟩
  have HX : Hid ((ofS l).1 = x) := hx
  have HY : Hid ((ofS l).2 = y) := hy
  clear hx hy
  go_enter Try.func7, Try.ntmps7
  go_wp2_with (first
    | (go_at_call 10; refine (awake_any _).mono ?_; rintro e w' ⟨rfl, rfl⟩)
    | (go_at_call 22; refine (of_any _ _ _ l _ (HR.out.later (below_ups w)) HX.out HY.out).mono ?_; rintro e w' ⟨rfl, rfl⟩))
  go_loopw [6, 7, 8] (fun v t i w' => ∃ (m n : Nat) (b : Bool), m ≤ len ∧ n + m = len ∧ i = .int .i64 ((m : Int) - 1) ∧ t = .bool b ∧ Hid (b = true → ¬ l.Nodup) ∧ OwnZ w' w.heap.size 3 v n (l.drop m).reverse ∧ Below w.heap.size w w') (fun _ _ i _ => (intOf i + 1).toNat)
  case atStart => exact ⟨len, 0, false, by omega, by omega, by go_num, rfl, (fun h => by cases h), by rw [List.drop_of_length_le (by rw [HL.out]; exact Nat.le_refl _)]; exact ownZ_nil _ _ _, below_ups w⟩
  case round =>
    obtain ⟨m, n, b, hm, hnm, hi, rfl, htw, hown, hb⟩ := hrel
    have HO : Hid (OwnZ wr w.heap.size 3 u6 n (l.drop m).reverse) := hown
    clear hown
    have hz : w.heap.size ≤ wr.heap.size := hb.size
    rcases m with _ | m
    · have hi' : u8 = .int .i64 (-1) := by rw [hi]; rfl
      clear hi
      subst hi'
      obtain rfl : n = len := by omega
      obtain ⟨a1, c1, hv⟩ := HO.out.shape
      subst hv
      have HO2 : Hid (OwnZ wr w.heap.size 3 (.slice a1 n c1) n l.reverse) := HO.out
      clear HO
      by_cases hy0 : y = 0
      · subst hy0
        have M := made l
        have hxr := ofS_rev HY.out
        rw [HX.out] at hxr
        have HXR : Hid ((ofS l.reverse).1 = x) := hxr
        have HYR : Hid ((ofS l.reverse).2 = 0) := (ofS_rev_ok l).2 HY.out
        obtain rfl : b = false := by
          cases b
          · rfl
          · exact absurd (M.ok.1 HY.out).2 (htw.out rfl)
        have hdp : ((dep x : Int) == (n : Int)) = true := by
          have := M.deep HY.out
          rw [HX.out, HL.out] at this
          rw [beq_iff_eq]; omega
        have hxl : x < 65536 := by rw [← HX.out]; exact M.lt
        clear hxr M
        go_wp2_with (first
          | (go_at_call 22; refine (of_any _ _ _ _ _ (HO2.out.row (by omega)) HXR.out HYR.out).mono ?_; rintro e w' ⟨rfl, rfl⟩)
          | (go_at_call 16; refine (depth_any _ _ hxl).mono ?_; rintro e w' ⟨rfl, rfl⟩))
        go_ret
        exact ⟨rfl, hb⟩
      · obtain ⟨f, hf⟩ : ∃ f, (ofS l.reverse).2 = f := ⟨_, rfl⟩
        have hf0 : f ≠ 0 := by
          intro e
          rw [e] at hf
          exact hy0 (HY.out.symm.trans ((ofS_rev_ok l).1 hf))
        have hf1 : ((f : Int) != 0) = true := by rw [bne_iff_ne]; omega
        have hy1 : ((y : Int) != 0) = true := by rw [bne_iff_ne]; omega
        have HF : Hid ((ofS l.reverse).2 = f) := hf
        clear hf hf0 hy0
        go_wp2_with (go_at_call 22; refine (of_any _ _ _ _ _ (HO2.out.row (by omega)) rfl HF.out).mono ?_; rintro e w' ⟨rfl, rfl⟩)
        go_ret
        exact ⟨rfl, hb⟩
    · have hi' : u8 = .int .i64 (m : Int) := by rw [hi]; congr 1; omega
      clear hi
      subst hi'
      obtain ⟨b1, o1, rfl, hc1⟩ := HR.out.2.2 m (by omega)
      have hcr := cell_later hb hc1
      have HV : Hid ((l.drop m).reverse = (l.drop (m + 1)).reverse ++ [l[m]?.getD 0]) := drop_rev (by rw [HL.out]; omega)
      go_wp2_with (at_builtin; refine wpList_appZ _ rfl (.tmp 33) (.tmp 38) 25 3 rfl w.heap.size Try.underlying25 info3 u6 n (l.drop (m + 1)).reverse rfl (HO.out.later (below1 _ _)) _ 1 (l[m]?.getD 0) rfl (int_cell _ _) (by omega) (by simp; omega) ?_; intro a1 c1 w1 own1 hb1)
      have hB1 : Below w.heap.size w w1 := (hb.alloc hz _).trans hb1
      have hcm := cell_later hB1 hc1
      have HO1 : Hid (OwnZ w1 w.heap.size 3 (.slice a1 (n + 1) c1) (n + 1) (l.drop m).reverse) := by unfold Hid; rw [HV.out]; exact own1
      clear own1 HV HO hcr hb1
      go_loopw [7, 9] (fun t k w' => ∃ (q d : Nat) (c : Bool), q ≤ m ∧ k = .int .i64 q ∧ t = .bool c ∧ Hid (c = true → ¬ l.Nodup) ∧ w' = w1.drewN d) (fun _ k _ => m - (intOf k).toNat)
      case atStart => exact ⟨0, 0, b, by omega, rfl, rfl, htw, rfl⟩
      case round =>
        obtain ⟨q, d, c, hq, rfl, rfl, hc, rfl⟩ := hrel
        by_cases hlt : q < m
        · obtain ⟨b2, o2, e2, hc2⟩ := HR.out.2.2 q (by omega)
          simp only [Option.some.injEq, Addr.mk.injEq] at e2
          obtain ⟨rfl, rfl, _⟩ := e2
          have hcq := cell_later hB1 hc2
          have hml : (m : Int) < (len : Int) := by omega
          have hql : (q : Int) < (len : Int) := by omega
          cases c
          · cases hv : (l[m]?.getD 0 == l[q]?.getD 0)
            · clear hc
              go_wp2
              go_quiet (fail)
              go_wp2
              go_roundw
              case rel => exact ⟨q + 1, _, false, by omega, by go_num, rfl, (fun h => by cases h), rfl⟩
              case measure => simp [intOf]; omega
            · have HN : Hid (true = true → ¬ l.Nodup) := fun _ => twice_at (i := m) (k := q) (by rw [HL.out]; omega) hlt (by simpa using hv)
              clear hc
              go_wp2
              go_quiet (fail)
              go_wp2
              go_roundw
              case rel => exact ⟨q + 1, _, true, by omega, by go_num, rfl, fun _ => HN.out trivial, rfl⟩
              case measure => simp [intOf]; omega
          · go_wp2
            go_quiet (fail)
            go_wp2
            go_roundw
            case rel => exact ⟨q + 1, _, true, by omega, by go_num, rfl, fun _ => hc.out trivial, rfl⟩
            case measure => simp [intOf]; omega
        · obtain rfl : q = m := by omega
          go_wp2
          go_roundw
          case rel => exact ⟨q, n + 1, c, by omega, by omega, by go_num, rfl, hc, HO1.out.later (below_drewN (Below.refl _ _) _), below_drewN hB1 _⟩
          case measure => simp [intOf]
end Go.Proofs.Ytgkfiblmedihjaa
