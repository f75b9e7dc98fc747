/- The contract of Decode. -/
import Derived.Test.YtakikkigkmcffaaCDI
namespace Go.Proofs.Ytakikkigkmcffaa
open Go.RowKit

theorem tk_len {S S' : St} {k : Int} {l : List Int} (h : tk S k l = some S') : S'.ps.length ≤ S.ps.length + 1 := by
  unfold tk at h
  repeat' split at h
  all_goals first | (cases h; done) | (simp only [Option.some.injEq] at h; subst h; simp [St.add])
theorem one_all {S S' : St} {l : List Int} (hS : S.Ok) (hb : Bytes l) (h : one S l = some S') : S'.Ok ∧ S'.ps.length ≤ S.ps.length + 1 ∧ 2 + ln l ≤ l.length := by
  unfold one at h
  split at h
  · cases h
  · split at h
    · cases h
    · exact ⟨tk_ok hS (take_bytes (drop_bytes hb 2) _) h, tk_len h, by omega⟩
/-- What Decode answers: some parts, and a number. -/
def DecI (w : World) (r : List Tlv × Int) (e : Ending) (w' : World) : Prop := ∃ ad k cp, e = .returned (.tuple #[.slice ad k cp, .int .i64 r.2]) ∧ RowT w' ad k r.1 ∧ Below w.heap.size w w'
def lenC : Option Value → Nat
  | some (.slice _ n _) => n
  | _ => 0
/-- At the label: what is read so far, and what is left. -/
def DJ (w : World) (b : Nat) (T : Option St) (a' : Act) (W : World) : Prop :=
  ∃ (S : St) (o m cc : Nat) (ad : Option Addr) (k cp : Nat) (l : List Int) (u0 u1 u5 u6 u7 u8 u9 u10 u11 u12 u13 u14 u15 u16 u17 u18 u19 u20 u21 u22 : Value), a' = { tmps := #[u0, u1, .slice none 0 0, .int .i64 0, .pointer (some ⟨w.heap.size, 0, none⟩), u5, u6, u7, u8, u9, u10, u11, u12, u13, u14, u15, u16, u17, u18, u19, u20, u21, u22], defers := [] } ∧
    RF W w.heap.size S.kn (some ⟨b, o, none⟩) m cc ad k cp ∧ Row8 W (some ⟨b, o, none⟩) m l ∧ k + m ≤ 3000 ∧ m ≤ cc ∧ OwnT W (w.heap.size + 1) (.slice ad k cp) k S.ps ∧ S.Ok ∧ T = run S l ∧ Below w.heap.size w W
noncomputable def afterScope : Code → Option Code
  | .scope c => findLabel c 0
  | .seq a b => match afterScope a with
    | some c => some c
    | none => afterScope b
  | .block _ c => afterScope c
  | _ => none
def Code.second : Code → Code
  | .seq _ b => b
  | c => c
noncomputable def restCode : Code := Code.second ((Try.f16.body.bind afterScope).getD .skip)
theorem ReadI.ret {w w' : World} {N b : Nat} {l : List Int} {T : Option St} {e : Ending} (h : ReadI w N b l T e w') : e = .returned (.bool T.isSome) := by
  cases T <;> exact h.1

set_option maxRecDepth 100000 in
set_option maxHeartbeats 4000000 in
theorem pass16 (w : World) (b : Nat) (T : Option St) (hbN : b < w.heap.size) (a : Act) (W : World) (hJ : DJ w b T a W) :
    Code.wp Try.prog restCode (Exit.jump 0 (fun a' w' => DJ w b T a' w' ∧ lenC (w'.cell? ⟨w.heap.size, 3, none⟩) < lenC (W.cell? ⟨w.heap.size, 3, none⟩)) (bodyPost Try.prog Try.f16 (DecI w (fin T)))) a W := by
  obtain ⟨S, o, m, cc, ad, k, cp, l, u0, u1, u5, u6, u7, u8, u9, u10, u11, u12, u13, u14, u15, u16, u17, u18, u19, u20, u21, u22, rfl, hF, hr, hkm, hmc, hO, hS, hT, hB⟩ := hJ
  have HF : Hid (RF W w.heap.size S.kn (some ⟨b, o, none⟩) m cc ad k cp) := hF
  have HR : Hid (Row8 W (some ⟨b, o, none⟩) m l) := hr
  have HO : Hid (OwnT W (w.heap.size + 1) (.slice ad k cp) k S.ps) := hO
  have HS : Hid S.Ok := hS
  have HT : Hid (T = run S l) := hT
  have HB : Hid (Below w.heap.size w W) := hB
  have HL : Hid (l.length = m) := hr.1
  have HKL : Hid (S.ps.length = k) := hO.len
  obtain ⟨f0, f1, f2, f3, f4, ff, fz⟩ := hF
  clear hr hO hS hT hB f0 f1 f2 ff
  conv => arg 2; whnf
  by_cases hm : m = 0
  · subst hm
    have HE : Hid (T = some S) := by
      unfold Hid; rw [HT.out, List.eq_nil_of_length_eq_zero HL.out, run_nil]
    by_cases h40 : 40 < k
    · have HFin : Hid (fin T = ([], 9)) := by unfold Hid; rw [HE.out]; simp only [fin]; rw [if_pos (by rw [HKL.out]; exact h40)]
      have h40' : (40 : Int) < (k : Int) := by omega
      go_wp2
      simp only [Exit.jump]
      rw [HFin.out]
      exact bodyPost_ret (v := .tuple #[.slice none 0 0, .int .i64 9]) (by simp [results, Try.results16, go_sem]) rfl ⟨none, 0, 0, rfl, rowT_none _, HB.out⟩
    · have HFin : Hid (fin T = (S.ps, 0)) := by unfold Hid; rw [HE.out]; simp only [fin]; rw [if_neg (by rw [HKL.out]; exact h40)]
      have h40' : ¬ (40 : Int) < (k : Int) := by omega
      go_wp2
      simp only [Exit.jump]
      rw [HFin.out]
      exact bodyPost_ret (v := .tuple #[.slice ad k cp, .int .i64 0]) (by simp [results, Try.results16, go_sem]) rfl ⟨ad, k, cp, rfl, HO.out.row HS.out.o, HB.out⟩
  · have hm0 : (0 : Int) < (m : Int) := by omega
    have HN : Hid (_) := run_next (S := S) (l := l) (by rw [HL.out]; omega)
    cases h1 : one S l with
    | none =>
      have HFin : Hid (fin T = ([], 2)) := by unfold Hid; rw [HT.out, HN.out, h1]; rfl
      have H1 : Hid (one S l = none) := h1
      clear HN h1
      go_wp2_with (go_at_call 31; refine (read_any w.heap.size b o m cc S ad k cp l _ HF.out HO.out (by omega) HR.out (by omega) hmc hbN HS.out.k).mono ?_; rintro e W2 hW2; rw [H1.out] at hW2; obtain ⟨rfl, hB2⟩ := hW2)
      simp only [Exit.jump]
      rw [HFin.out]
      exact bodyPost_ret (v := .tuple #[.slice none 0 0, .int .i64 2]) (by simp [results, Try.results16, go_sem]) rfl ⟨none, 0, 0, rfl, rowT_none _, HB.out.trans hB2⟩
    | some S' =>
      obtain ⟨hS', hlen, hle⟩ := one_all HS.out HR.out.2.2.1 h1
      have HT' : Hid (T = run S' (l.drop (2 + ln l))) := by unfold Hid; rw [HT.out, HN.out, h1]
      have H1 : Hid (one S l = some S') := h1
      have HS' : Hid S'.Ok := hS'
      have HLen : Hid (S'.ps.length ≤ k + 1) := by unfold Hid; rw [← HKL.out]; exact hlen
      have HLe : Hid (2 + ln l ≤ m) := by unfold Hid; rw [← HL.out]; exact hle
      clear HN h1 hS' hlen hle
      go_wp2_with (go_at_call 31; refine (read_any w.heap.size b o m cc S ad k cp l _ HF.out HO.out (by omega) HR.out (by omega) hmc hbN HS.out.k).mono ?_; rintro e W2 hW2; rw [H1.out] at hW2; obtain ⟨rfl, o2, cc2, ad2, k2, cp2, hF2, hr2, hc2, hO2, hB2⟩ := hW2)
      go_step3
      have hk2 := hO2.len
      have hl2 := HLen.out
      have hl3 := HLe.out
      have hl4 := HL.out
      refine ⟨rfl, ⟨S', o2, _, cc2, ad2, k2, cp2, _, _, _, _, _, _, _, _, _, _, _, _, _, _, _, _, _, _, _, _, _, rfl, hF2, hr2, by omega, hc2, hO2, HS'.out, HT'.out, HB.out.trans hB2⟩, ?_⟩
      rw [hF2.2.2.2.1, f3]
      simp only [lenC]
      omega
theorem jump_mono {l : Nat} {J J' : Act → World → Prop} {Q : Exit → Act → World → Prop} (h : ∀ a w, J a w → J' a w) : ∀ e a w, Exit.jump l J Q e a w → Exit.jump l J' Q e a w := by
  intro e a w
  cases e <;> intro hq <;> first | exact ⟨hq.1, h _ _ hq.2⟩ | exact hq
theorem RF.new (w : World) (ra : Option Addr) (m cc : Nat) : RF (w.alloc (.cells #[.bool false, .int .u64 0, .int .u32 0, .slice ra m cc, .slice none 0 0] 60)) w.heap.size kn0 ra m cc none 0 0 := by
  refine ⟨?_, ?_, ?_, ?_, ?_, fun o => ?_, ?_⟩ <;> simp [go_sem, kn0]
set_option maxHeartbeats 2000000 in
theorem decode_bad (a : Option Addr) (n cap : Nat) (l : List Int) (w : World) (hr : Row8 w a n l) (hn : n ≤ 3000) (hf : framed l = false) :
    Calls Try.prog 16 #[.slice a n cap] w (DecI w (dec l)) := by
  rw [dec_odd hf]
  have HR : Hid (Row8 w a n l) := hr
  clear hr
  go_enter Try.func16, Try.ntmps16
  go_wp2
  go_step3
  go_wp2_with (go_at_call 30; refine (isFramed_any _ _ _ l _ HR.out hn hf).mono ?_; rintro e w ⟨rfl, rfl⟩)
  rw [Exit.noGoto_ret]
  exact bodyPost_ret (v := .tuple #[.slice none 0 0, .int .i64 2]) (by simp [results, Try.results16, go_sem]) rfl ⟨none, 0, 0, rfl, rowT_none _, Below.refl _ _⟩
set_option maxRecDepth 100000 in
set_option maxHeartbeats 2000000 in
theorem decode_run (b off n cap : Nat) (l : List Int) (w : World) (hr : Row8 w (some ⟨b, off, none⟩) n l) (hn : n ≤ 3000) (hc : n ≤ cap) (hf : framed l = true) :
    Calls Try.prog 16 #[.slice (some ⟨b, off, none⟩) n cap] w (DecI w (dec l)) := by
  have h4 := (framed_all hf).1
  rw [hr.1] at h4
  obtain ⟨b', off', e, hcell⟩ := hr.at (by omega)
  simp only [Option.some.injEq, Addr.mk.injEq, and_true] at e
  obtain ⟨rfl, rfl⟩ := e
  have hbz : b < w.heap.size := block_lt_of_cell (hcell 0 (by omega))
  have HD : Hid (dec l = fin (run ⟨kn0, []⟩ (l.drop 4))) := by unfold Hid dec; rw [if_pos hf]
  have HR : Hid (Row8 w (some ⟨b, off, none⟩) n l) := hr
  have HRR : Hid (_) := hr.rest 4 cap h4 hc b off rfl
  have i1 : (4 : Int) ≤ (n : Int) := by omega
  have i2 : (n : Int) ≤ (cap : Int) := by omega
  rw [HD.out]
  clear hr hcell
  by_cases hc4 : cap = 4
  · obtain rfl : n = 4 := by omega
    subst hc4
    have HR1 : Hid (Row8 w (some ⟨b, off, none⟩) (0) (l.drop 4)) := by
      have h := HRR.out
      rw [if_pos rfl] at h
      exact h
    go_enter Try.func16, Try.ntmps16
    go_wp2
    refine wp_scope_jumps 0 (DJ w b (run ⟨kn0, []⟩ (l.drop 4))) (fun _ W => lenC (W.cell? ⟨w.heap.size, 3, none⟩)) rfl ?_ ?_
    rotate_left
    · intro a' W' hJ
      exact wp_seq (wp_skip (pass16 w b _ hbz a' W' hJ))
    go_wp2_with (go_at_call 30; refine (isFramed_any _ _ _ l _ HR.out hn hf).mono ?_; rintro e w ⟨rfl, rfl⟩)
    go_step3
    rename_i K hK
    refine hK _ _ (wp_mono (pass16 w b _ hbz _ _ ?_) (jump_mono fun a w h => h.1))
    exact ⟨⟨kn0, []⟩, off, 0, 0, none, 0, 0, l.drop 4, _, _, _, _, _, _, _, _, _, _, _, _, _, _, _, _, _, _, _, _, rfl, RF.new w _ _ _, HR1.out.later (below1 _ _), by omega, by omega, ownT_nil _ _, ⟨kn0_ok, none_ok, rfl⟩, rfl, below1 _ _⟩
  · have HR1 : Hid (Row8 w (some ⟨b, off + 4, none⟩) (n - 4) (l.drop 4)) := by
      have h := HRR.out
      rw [if_neg (by omega)] at h
      exact h
    go_enter Try.func16, Try.ntmps16
    go_wp2
    refine wp_scope_jumps 0 (DJ w b (run ⟨kn0, []⟩ (l.drop 4))) (fun _ W => lenC (W.cell? ⟨w.heap.size, 3, none⟩)) rfl ?_ ?_
    rotate_left
    · intro a' W' hJ
      exact wp_seq (wp_skip (pass16 w b _ hbz a' W' hJ))
    go_wp2_with (go_at_call 30; refine (isFramed_any _ _ _ l _ HR.out hn hf).mono ?_; rintro e w ⟨rfl, rfl⟩)
    go_step3
    rename_i K hK
    refine hK _ _ (wp_mono (pass16 w b _ hbz _ _ ?_) (jump_mono fun a w h => h.1))
    exact ⟨⟨kn0, []⟩, off + 4, n - 4, cap - 4, none, 0, 0, l.drop 4, _, _, _, _, _, _, _, _, _, _, _, _, _, _, _, _, _, _, _, _, rfl, RF.new w _ _ _, HR1.out.later (below1 _ _), by omega, by omega, ownT_nil _ _, ⟨kn0_ok, none_ok, rfl⟩, rfl, below1 _ _⟩
theorem decode_any (a : Option Addr) (n cap : Nat) (l : List Int) (w : World) (hr : Row8 w a n l) (hn : n ≤ 3000) (hc : n ≤ cap) :
    Calls Try.prog 16 #[.slice a n cap] w (DecI w (dec l)) := by
  cases hf : framed l
  · exact decode_bad a n cap l w hr hn hf
  · have h4 := (framed_all hf).1
    rw [hr.1] at h4
    obtain ⟨b, off, rfl, -⟩ := hr.at (by omega)
    exact decode_run b off n cap l w hr hn hc hf
end Go.Proofs.Ytakikkigkmcffaa
