/- The contract of read. -/
import Derived.BigQuiet
import Derived.Deep.QuietTactic
import Derived.Test.YtakikkigkmcffaaCDH
namespace Go.Proofs.Ytakikkigkmcffaa
open Go.RowKit

/-- One part of the bytes that are left. -/
def one (S : St) (l : List Int) : Option St := if l.length < 2 then none else if l.length < 2 + ln l then none else tk S (at8 l 0) ((l.drop 2).take (ln l))
theorem run_next {S : St} {l : List Int} (h : 0 < l.length) : run S l = match one S l with
    | none => none
    | some S' => run S' (l.drop (2 + ln l)) := by
  rw [run, dif_neg (by omega)]
  unfold one
  by_cases h1 : l.length < 2
  · simp [h1]
  · by_cases h2 : l.length < 2 + ln l
    · simp [h1, h2]
    · simp only [h1, h2, if_false]
      cases tk S (at8 l 0) (List.take (ln l) (List.drop 2 l)) <;> rfl
/-- What read leaves. -/
def ReadI (w : World) (N b : Nat) (l : List Int) : Option St → Ending → World → Prop
  | none, e, w' => e = .returned (.bool false) ∧ Below N w w'
  | some S, e, w' => e = .returned (.bool true) ∧ ∃ o cc ad k cp, RF w' N S.kn (some ⟨b, o, none⟩) (l.length - (2 + ln l)) cc ad k cp ∧ Row8 w' (some ⟨b, o, none⟩) (l.length - (2 + ln l)) (l.drop (2 + ln l)) ∧ l.length - (2 + ln l) ≤ cc ∧ OwnT w' (N + 1) (.slice ad k cp) k S.ps ∧ Below N w w'
theorem Row8.low {W W' : World} {N b off n : Nat} {l : List Int} (h : Row8 W (some ⟨b, off, none⟩) n l) (hb : Below N W W') (hN : b < N) : Row8 W' (some ⟨b, off, none⟩) n l :=
  ⟨h.1, h.2.1, h.2.2.1, fun i hi => by obtain ⟨b', off', e, hc⟩ := h.2.2.2 i hi; simp only [Option.some.injEq, Addr.mk.injEq, and_true] at e; obtain ⟨rfl, rfl⟩ := e; exact ⟨_, _, rfl, (hb.cell (p := ⟨b, off + i, none⟩) hN).trans hc⟩⟩
theorem below_n (N : Nat) (w : World) {n : Nat} : Below N w (w.drewN n) := by
  induction n with
  | zero => exact Below.refl _ _
  | succ n ih => exact ih.drew
/-- Behind readBody. -/
theorem TookI.ret {w w' : World} {N : Nat} {ra : Option Addr} {m cc : Nat} {T : Option St} {e : Ending} (h : TookI w N ra m cc T e w') : e = .returned (.bool T.isSome) := by
  cases T <;> exact h.1
theorem read_fin {w W W' : World} {N b o q m cc r : Nat} {l : List Int} {T : Option St} {e : Ending} (hL : l.length = m) (hq : 2 + ln l = q) (hmq : m - q = r) (hB : Below N w W) (hr : Row8 W (some ⟨b, o, none⟩) (m - q) (l.drop q)) (hb : b < N) (hc : r ≤ cc) (h : TookI W N (some ⟨b, o, none⟩) r cc T e W') : ReadI w N b l T e W' := by
  subst hmq hL hq
  cases T with
  | none => exact ⟨h.1, hB.trans h.2⟩
  | some S =>
    obtain ⟨he, ad, k, cp, hF, hO, hB'⟩ := h
    exact ⟨he, o, cc, ad, k, cp, hF, hr.low hB' hb, hc, hO, hB.trans hB'⟩
set_option maxRecDepth 8000 in
set_option maxHeartbeats 2000000 in
theorem read_any (N b off m cc : Nat) (S : St) (ad : Option Addr) (k cp : Nat) (l : List Int) (w : World) (hF : RF w N S.kn (some ⟨b, off, none⟩) m cc ad k cp) (hO : OwnT w (N + 1) (.slice ad k cp) k S.ps) (hk : k ≤ 5000) (hr : Row8 w (some ⟨b, off, none⟩) m l) (hm : m ≤ 3000) (hc : m ≤ cc) (hbN : b < N) (hK : S.kn.Ok) :
    Calls Try.prog 31 #[.pointer (some ⟨N, 0, none⟩)] w (ReadI w N b l (one S l)) := by
  have HR : Hid (Row8 w (some ⟨b, off, none⟩) m l) := hr
  have HL : Hid (l.length = m) := hr.1
  have HF : Hid (RF w N S.kn (some ⟨b, off, none⟩) m cc ad k cp) := hF
  have HO : Hid (OwnT w (N + 1) (.slice ad k cp) k S.ps) := hO
  have HK : Hid S.kn.Ok := hK
  obtain ⟨f0, f1, f2, f3, f4, ff, fz⟩ := hF
  clear f0 f1 f2 f4 hO hK
  by_cases h2 : m < 2
  · have HT : Hid (one S l = none) := by unfold Hid one; rw [if_pos (by rw [HL.out]; exact h2)]
    have i2 : (m : Int) < 2 := by omega
    clear hr
    go_enter Try.func31, Try.ntmps31
    go_wp2
    go_ret
    rw [HT.out]
    exact ⟨rfl, Below.refl _ _⟩
  obtain ⟨b_, off_, he_, hcell⟩ := hr.at (by omega)
  simp only [Option.some.injEq, Addr.mk.injEq, and_true] at he_
  obtain ⟨rfl, rfl⟩ := he_
  have d0 := hcell 0 (by omega)
  have d1 := hcell 1 (by omega)
  rw [Nat.add_zero] at d0
  have E0 : Hid (at8 l 0 = l[0]?.getD 0) := rfl
  have E1 : Hid (at8 l 1 = l[1]?.getD 0) := rfl
  have y1b := hr.2.2.1.at 1
  generalize l[0]?.getD 0 = kd at d0 E0
  generalize l[1]?.getD 0 = x0 at d1 E1 y1b
  obtain ⟨y0, y1⟩ := y1b
  obtain ⟨x, rfl⟩ : ∃ x : Nat, x0 = (x : Int) := ⟨x0.toNat, by omega⟩
  have HLN : Hid (ln l = x) := by unfold Hid ln; rw [E1.out]; simp
  have i0 : 0 < m := by omega
  have i1 : 1 < m := by omega
  have j0 : (0 : Int) < (m : Int) := by omega
  have j1 : (1 : Int) < (m : Int) := by omega
  have j2 : ¬ (m : Int) < 2 := by omega
  have ex : IntKind.i64.wrap (x : Int) = (x : Int) := wrap_in (by omega) (by omega)
  obtain ⟨q, hq⟩ : ∃ q, 2 + x = q := ⟨_, rfl⟩
  have eq : IntKind.i64.wrap (2 + (x : Int)) = (q : Int) := by rw [wrap_in (by omega) (by omega)]; omega
  have HQ : Hid (2 + ln l = q) := by unfold Hid; rw [HLN.out]; exact hq
  clear hcell
  by_cases h3 : m < q
  · have HT : Hid (one S l = none) := by unfold Hid one; rw [if_neg (by rw [HL.out]; omega), if_pos (by rw [HL.out, HQ.out]; exact h3)]
    have i3 : (m : Int) < (q : Int) := by omega
    clear hr
    go_enter Try.func31, Try.ntmps31
    go_wp2
    go_quiet (fail)
    go_wp2
    go_ret
    rw [HT.out]
    exact ⟨rfl, below_n _ _⟩
  have HT : Hid (one S l = tk S kd ((l.drop 2).take x)) := by unfold Hid one; rw [if_neg (by rw [HL.out]; omega), if_neg (by rw [HL.out, HQ.out]; exact h3), E0.out, HLN.out]
  have j3 : ¬ (m : Int) < (q : Int) := by omega
  have j4 : (2 : Int) ≤ (q : Int) := by omega
  have j5 : (q : Int) ≤ (cc : Int) := by omega
  have j6 : (q : Int) ≤ (m : Int) := by omega
  have j7 : (m : Int) ≤ (cc : Int) := by omega
  have hx2 : q - 2 = x := by omega
  have HRB : Hid (_) := hr.rest 2 cc (by omega) hc b off rfl
  have HRR : Hid (_) := hr.rest q cc (by omega) hc b off rfl
  clear hr
  by_cases hc2 : cc = 2
  · obtain rfl : m = 2 := by omega
    obtain rfl : q = 2 := by omega
    obtain rfl : x = 0 := by omega
    subst hc2
    have HB1 : Hid (Row8 w (some ⟨b, off, none⟩) (0) ((l.drop 2).take (0))) := by
      have h := HRB.out
      rw [if_pos rfl] at h
      exact Row8.take h _ (by omega)
    have HR1 : Hid (Row8 w (some ⟨b, off, none⟩) (2 - 2) (l.drop (2))) := by
      have h := HRR.out
      rw [if_pos rfl] at h
      exact h
    have HB : Hid (∀ n v, Below N w ((w.drewN n).setCell ⟨N, 3, none⟩ v)) := fun n v => (below_n N w).setCell (p := ⟨N, 3, none⟩) (Nat.le_refl _) _
    have HF1 : Hid (∀ n, RF ((w.drewN n).setCell ⟨N, 3, none⟩ (.slice (some ⟨b, off, none⟩) (0) (0))) N S.kn (some ⟨b, off, none⟩) (0) (0) ad k cp) := fun n => (HF.out.later (below_n _ _)).set3 _ _ _
    have HO1 : Hid (∀ n v, OwnT ((w.drewN n).setCell ⟨N, 3, none⟩ v) (N + 1) (.slice ad k cp) k S.ps) := fun n v => (HO.out.later (below_n _ _)).set (by omega)
    go_enter Try.func31, Try.ntmps31
    go_wp2
    go_quiet (fail)
    go_wp2_with (go_at_call 50; refine (readBody_any kd N S _ _ _ ad k cp b (off) _ _ _ _ (HF1.out _) (HO1.out _ _) hk (HB1.out.low (HB.out _ _) hbN) (by omega) (by omega) HK.out).mono ?_; intro e W2 hW2; obtain rfl := hW2.ret)
    go_ret
    rw [HT.out]
    exact read_fin HL.out HQ.out (by omega) (HB.out _ _) (HR1.out.low (HB.out _ _) hbN) hbN (by omega) hW2
  by_cases hcq : cc = q
  · obtain rfl : m = q := by omega
    subst hcq
    have HB1 : Hid (Row8 w (some ⟨b, off + 2, none⟩) (x) ((l.drop 2).take (x))) := by
      have h := HRB.out
      rw [if_neg (by omega)] at h
      exact Row8.take h _ (by omega)
    have HR1 : Hid (Row8 w (some ⟨b, off, none⟩) (cc - cc) (l.drop (cc))) := by
      have h := HRR.out
      rw [if_pos rfl] at h
      exact h
    have HB : Hid (∀ n v, Below N w ((w.drewN n).setCell ⟨N, 3, none⟩ v)) := fun n v => (below_n N w).setCell (p := ⟨N, 3, none⟩) (Nat.le_refl _) _
    have HF1 : Hid (∀ n, RF ((w.drewN n).setCell ⟨N, 3, none⟩ (.slice (some ⟨b, off, none⟩) (0) (0))) N S.kn (some ⟨b, off, none⟩) (0) (0) ad k cp) := fun n => (HF.out.later (below_n _ _)).set3 _ _ _
    have HO1 : Hid (∀ n v, OwnT ((w.drewN n).setCell ⟨N, 3, none⟩ v) (N + 1) (.slice ad k cp) k S.ps) := fun n v => (HO.out.later (below_n _ _)).set (by omega)
    go_enter Try.func31, Try.ntmps31
    go_wp2
    go_quiet (fail)
    go_wp2_with (go_at_call 50; refine (readBody_any kd N S _ _ _ ad k cp b (off + 2) _ _ _ _ (HF1.out _) (HO1.out _ _) hk (HB1.out.low (HB.out _ _) hbN) (by omega) (by omega) HK.out).mono ?_; intro e W2 hW2; obtain rfl := hW2.ret)
    go_ret
    rw [HT.out]
    exact read_fin HL.out HQ.out (by omega) (HB.out _ _) (HR1.out.low (HB.out _ _) hbN) hbN (by omega) hW2
  · have HB1 : Hid (Row8 w (some ⟨b, off + 2, none⟩) (x) ((l.drop 2).take (x))) := by
      have h := HRB.out
      rw [if_neg (by omega)] at h
      exact Row8.take h _ (by omega)
    have HR1 : Hid (Row8 w (some ⟨b, off + q, none⟩) (m - q) (l.drop (q))) := by
      have h := HRR.out
      rw [if_neg (by omega)] at h
      exact h
    have HB : Hid (∀ n v, Below N w ((w.drewN n).setCell ⟨N, 3, none⟩ v)) := fun n v => (below_n N w).setCell (p := ⟨N, 3, none⟩) (Nat.le_refl _) _
    have HF1 : Hid (∀ n, RF ((w.drewN n).setCell ⟨N, 3, none⟩ (.slice (some ⟨b, off + q, none⟩) (m - q) (cc - q))) N S.kn (some ⟨b, off + q, none⟩) (m - q) (cc - q) ad k cp) := fun n => (HF.out.later (below_n _ _)).set3 _ _ _
    have HO1 : Hid (∀ n v, OwnT ((w.drewN n).setCell ⟨N, 3, none⟩ v) (N + 1) (.slice ad k cp) k S.ps) := fun n v => (HO.out.later (below_n _ _)).set (by omega)
    go_enter Try.func31, Try.ntmps31
    go_wp2
    go_quiet (fail)
    go_wp2_with (go_at_call 50; refine (readBody_any kd N S _ _ _ ad k cp b (off + 2) _ _ _ _ (HF1.out _) (HO1.out _ _) hk (HB1.out.low (HB.out _ _) hbN) (by omega) (by omega) HK.out).mono ?_; intro e W2 hW2; obtain rfl := hW2.ret)
    go_ret
    rw [HT.out]
    exact read_fin HL.out HQ.out (by omega) (HB.out _ _) (HR1.out.low (HB.out _ _) hbN) hbN (by omega) hW2
end Go.Proofs.Ytakikkigkmcffaa
