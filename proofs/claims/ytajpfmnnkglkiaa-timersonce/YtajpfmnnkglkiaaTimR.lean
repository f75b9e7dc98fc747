/- The document's timers in memory; the contracts of its Same and Stop. -/
import Derived.Test.YtajpfmnnkglkiaaRowP
import Derived.Test.YtajpfmnnkglkiaaKeepA
namespace Go.Proofs.Ytajpfmnnkglkiaa
open Go.RowKit

theorem OwnT.same {W W' : World} {base : Nat} {v : Value} {n : Nat} {L : List Tm} (h : OwnT W base v n L) (hb : ∀ g, v.ownBlock = some g → W'.heap[g]? = W.heap[g]?) : OwnT W' base v n L := by
  refine ⟨h.1, ?_⟩
  rcases h.2 with hn | ⟨g, cap, cur, hv, hbg, hg, r⟩
  · exact .inl hn
  · refine .inr ⟨g, cap, cur, hv, hbg, ?_, r⟩
    rw [hb g (by rw [hv]; rfl)]
    exact hg
theorem OwnT.own_lt {W : World} {base : Nat} {v : Value} {n : Nat} {L : List Tm} (h : OwnT W base v n L) {g : Nat} (hg : v.ownBlock = some g) : g < W.heap.size := by
  rcases h.2 with ⟨rfl, _⟩ | ⟨g', cap, cur, hv, hbg, hg', r⟩
  · cases hg
  · rw [hv] at hg
    simp [Value.ownBlock] at hg
    subst hg
    exact (Array.getElem?_eq_some_iff.1 hg').1
theorem OwnT.base {w : World} {b b' : Nat} {v : Value} {n : Nat} {L : List Tm} (h : OwnT w b v n L) (hb : b' ≤ b) : OwnT w b' v n L := by
  refine ⟨h.1, ?_⟩
  rcases h.2 with hn | ⟨g, cap, cur, hv, hbg, r⟩
  · exact .inl hn
  · exact .inr ⟨g, cap, cur, hv, Nat.le_trans hb hbg, r⟩
theorem OwnT.cap_le {w : World} {base n cap : Nat} {ad : Option Addr} {L : List Tm} (h : OwnT w base (.slice ad n cap) n L) : n ≤ cap := by
  rcases h.2 with ⟨e, e'⟩ | ⟨g, c, cur, hv, _, _, hle, _⟩
  · simp only [Value.slice.injEq] at e; omega
  · simp only [Value.slice.injEq] at hv; omega
/-- The document's timers in block N. -/
def RefM (W : World) (N : Nat) (v : Value) (L : List Tm) : Prop :=
  W.cell? ⟨N, 0, none⟩ = some v ∧ (∀ o, W.frozen? ⟨N, o, none⟩ = false) ∧ OwnT W (N + 1) v L.length L ∧ Tms L ∧ N < W.heap.size
/-- The blocks that are its own. -/
def fpM (N : Nat) (v : Value) (k : Nat) : Prop := k = N ∨ v.ownBlock = some k
section
variable {W W' : World} {N : Nat} {v : Value} {L : List Tm}
theorem RefM.keep (h : RefM W N v L) {B : Nat → Prop} (hk : Keep B W W') (hd : ∀ k, fpM N v k → ¬ B k) : RefM W' N v L := by
  obtain ⟨h0, h2, h3, h4, h5⟩ := h
  have hN := hd N (.inl rfl)
  exact ⟨(hk.cell (p := ⟨N, 0, none⟩) h5 hN).trans h0, fun o => (hk.frozen (p := ⟨N, o, none⟩) h5 hN).trans (h2 o), h3.same fun g hg => hk.block g (h3.own_lt hg) (hd g (.inr hg)), h4, Nat.lt_of_lt_of_le h5 hk.size⟩
theorem RefM.later (h : RefM W N v L) (hk : Below W.heap.size W W') : RefM W' N v L := h.keep (B := fun _ => False) (keep_of hk) (fun _ _ h => h)
theorem RefM.own (h : RefM W N v L) : OwnT W (N + 1) v L.length L := h.2.2.1
theorem RefM.ok (h : RefM W N v L) : Tms L := h.2.2.2.1
theorem RefM.lt (h : RefM W N v L) : N < W.heap.size := h.2.2.2.2
end
/-- What a call that changes the document's timers leaves. -/
def DoneM (w : World) (N : Nat) (v : Value) (L : List Tm) (x : Int) (e : Ending) (w' : World) : Prop :=
  ∃ v', e = .returned (.int .i64 x) ∧ RefM w' N v' L ∧ (∀ g, v'.ownBlock = some g → v.ownBlock = some g ∨ w.heap.size ≤ g) ∧ Keep (fpM N v) w w'
theorem DoneM.none {w w' : World} {N : Nat} {v : Value} {L : List Tm} {x : Int} (h : RefM w N v L) (hb : Below w.heap.size w w') : DoneM w N v L x (.returned (.int .i64 x)) w' :=
  ⟨v, rfl, h.later hb, fun _ hg => .inl hg, keep_of hb⟩
/-- A new row is laid. -/
theorem RefM.laid {w W : World} {N : Nat} {v : Value} {L L' : List Tm} (h : RefM w N v L) (hb : Below w.heap.size w W) {v' : Value} (own : OwnT W w.heap.size v' L'.length L') (hP : Tms L') : RefM (W.setCell ⟨N, 0, none⟩ v') N v' L' ∧ (∀ g, v'.ownBlock = some g → w.heap.size ≤ g) ∧ Keep (fpM N v) w (W.setCell ⟨N, 0, none⟩ v') := by
  have h' := h.later hb
  obtain ⟨h0, h2, -, -, h5⟩ := h'
  have hNw := h.lt
  refine ⟨⟨?_, fun o => ?_, ?_, hP, by simpa using h5⟩, fun g hg => own.lt g hg, (keep_of hb).setCell (p := ⟨N, 0, none⟩) (.inl rfl) _⟩
  · rw [World.cell?_setCell_same _ _ _ h0]
  · rw [World.frozen?_setCell]; exact h2 o
  · refine OwnT.base (OwnT.same (W' := W.setCell ⟨N, 0, none⟩ v') own fun g hg => ?_) (Nat.succ_le_of_lt hNw)
    have := own.lt g hg
    exact Below.heap_setCell _ _ _ _ (by show g ≠ N; omega)
theorem RefM.lay {w W : World} {N : Nat} {v : Value} {L L' : List Tm} (h : RefM w N v L) (hb : Below w.heap.size w W) {v' : Value} (own : OwnT W w.heap.size v' L'.length L') (hP : Tms L') (x : Int) : DoneM w N v L' x (.returned (.int .i64 x)) (W.setCell ⟨N, 0, none⟩ v') := by
  obtain ⟨h1, h2, h3⟩ := h.laid hb own hP
  exact ⟨v', rfl, h1, fun g hg => .inr (h2 g hg), h3⟩
theorem run_neT (x y : Tm) (v : Bool) (h : decide (x ≠ y) = v) (W : World) : Sem.run Try.prog (binOp .neq 41 (.agg #[.int .i64 x.i, .int .i64 x.a]) (.agg #[.int .i64 y.i, .int .i64 y.a])) W = .ok (.bool v) W := by
  obtain ⟨i, a⟩ := x
  obtain ⟨j, c⟩ := y
  subst h
  by_cases h1 : i = j
  · subst h1
    by_cases h2 : a = c
    · subst h2; go_simp
    · have h2' : (a == c) = false := beq_eq_false_iff_ne.2 h2
      go_simp
  · have h1' : (i == j) = false := beq_eq_false_iff_ne.2 h1
    go_simp
set_option maxHeartbeats 1000000 in
/-- Two rows that are the same. -/
theorem same_any (ad : Option Addr) (n cap : Nat) (ad' : Option Addr) (cap' : Nat) (L : List Tm) (w : World) (h : RowT w ad n L) (h' : RowT w ad' n L) (hn : n ≤ 3000) :
    Calls Try.prog 14 #[.slice ad n cap, .slice ad' n cap'] w fun e w' => e = .returned (.bool true) ∧ Below w.heap.size w w' := by
  have HX : Hid (RowT w ad n L) := h
  have HQ : Hid (RowT w ad' n L) := h'
  clear h h'
  go_enter Try.func14, Try.ntmps14
  go_wp2
  go_loopw [5] (fun i_ W => ∃ (j : Nat), j ≤ n ∧ i_ = .int .i64 j ∧ Below w.heap.size w W) (fun i_ _ => n - (intOf i_).toNat)
  case atStart => exact ⟨0, Nat.zero_le _, rfl, Below.refl _ _⟩
  case round =>
    obtain ⟨j, hj, rfl, hB⟩ := hrel
    by_cases hlt : j < n
    · have hlt' : (j : Int) < (n : Int) := by omega
      obtain ⟨⟨pi, pa⟩, b, off, he, -, rfl, q3⟩ := (HQ.out.later hB).at hlt
      obtain ⟨q, b', off', he', -, rfl, q2⟩ := (HX.out.later hB).at hlt
      rw [he] at he'
      simp only [Option.some.injEq] at he'
      subst he'
      obtain ⟨d0, d1⟩ := q3
      obtain ⟨f0, f1⟩ := q2
      simp only at d0 d1 f0 f1
      have hp := run_neT ⟨pi, pa⟩ ⟨pi, pa⟩ false (by simp)
      simp only at hp
      clear he
      go_wp2
      go_quiet (fail)
      go_wp2
      go_roundw
      case rel => exact ⟨j + 1, by omega, by go_num, below_drewN hB _⟩
      case measure => simp [intOf]; omega
    · have hlt' : ¬ (j : Int) < (n : Int) := by omega
      go_wp2
      go_ret
      exact ⟨rfl, hB⟩
theorem stop_next {L : List Tm} {j : Nat} {p : Tm} (h : L[j]? = some p) (i : Int) : stopT (L.take (j + 1)) i = if p.i = i then stopT (L.take j) i else stopT (L.take j) i ++ [p] := by
  rw [List.take_add_one, h]
  unfold stopT
  rw [List.filter_append]
  by_cases hi : p.i = i
  · simp [hi]
  · simp [hi]
set_option maxHeartbeats 2000000 in
theorem refStop_any (N : Nat) (v : Value) (L : List Tm) (i : Int) (w : World) (h : RefM w N v L) (hL : L.length ≤ 1000) :
    Calls Try.prog 13 #[.pointer (some ⟨N, 0, none⟩), .int .i64 i] w (DoneM w N v (stopT L i) (stopTX L i)) := by
  obtain ⟨ad, cap, rfl⟩ := h.own.shape
  obtain ⟨nn, hn⟩ : ∃ n, L.length = n := ⟨_, rfl⟩
  rw [hn] at h hL ⊢
  have HT : Hid (RefM w N (.slice ad nn cap) L) := h
  have HN : Hid (L.length = nn) := hn
  have HRow : Hid (RowT w ad nn L) := by unfold Hid; have := h.own; rw [hn] at this; exact this.row h.ok
  have HP : Hid (Tms L) := h.ok
  clear h hn
  go_enter Try.func13, Try.ntmps13
  go_wp2
  go_loopw [5, 6] (fun o_ i_ W => ∃ (j k : Nat), j ≤ nn ∧ k ≤ j ∧ i_ = .int .i64 j ∧ Hid (OwnT W w.heap.size o_ k (stopT (L.take j) i)) ∧ Hid (Below w.heap.size w W)) (fun _ i_ _ => nn - (intOf i_).toNat)
  case atStart => exact ⟨0, 0, Nat.zero_le _, Nat.zero_le _, rfl, ownT_nil _ _, Below.refl _ _⟩
  case round =>
    obtain ⟨j, k, hj, hkj, rfl, HO, HB⟩ := hrel
    obtain ⟨z0, zf, -⟩ := HT.out.later HB.out
    have hsz := HB.out.size
    by_cases hlt : j < nn
    · have hlt' : (j : Int) < (nn : Int) := by omega
      obtain ⟨⟨pi, pa⟩, b, off, he, hok, rfl, q⟩ := HRow.out.at hlt
      have HOK : Hid (Tm.Ok ⟨pi, pa⟩) := hok
      have HE : Hid (stopT (L.take (j + 1)) i = if pi = i then stopT (L.take j) i else stopT (L.take j) i ++ [⟨pi, pa⟩]) := stop_next he i
      obtain ⟨d0, d1⟩ := q.later HB.out
      simp only at d0 d1
      clear he hok q
      by_cases hi : pi = i
      · have hne : (pi != i) = false := by rw [bne_eq_false_iff_eq]; exact hi
        have HE' : Hid (stopT (L.take (j + 1)) i = stopT (L.take j) i) := by unfold Hid; rw [HE.out, if_pos hi]
        clear hi
        go_wp2
        go_roundw
        case rel => exact ⟨j + 1, k, by omega, by omega, by go_num, by unfold Hid; rw [HE'.out]; exact HO.out, HB⟩
        case measure => simp [intOf]; omega
      · have hne : (pi != i) = true := by rw [bne_iff_ne]; exact hi
        have HE' : Hid (stopT (L.take j) i ++ [⟨pi, pa⟩] = stopT (L.take (j + 1)) i) := by unfold Hid; rw [HE.out, if_neg hi]
        clear hi
        go_wp2_with (at_builtin; refine wpList_appT _ rfl (.tmp 26) (.tmp 34) 27 rfl w.heap.size Try.underlying27 infoT _ k (stopT (L.take j) i) rfl (HO.out.later (below1 _ _)) _ 1 1 [⟨pi, pa⟩] rfl (rowT_one (T2.newAt wr _ rfl pi pa) rfl HOK.out) (k + 1) rfl _ HE'.out (by omega) (by simp; omega) ?_; intro a5 c5 W5 own5 hb5)
        go_roundw
        case rel => exact ⟨j + 1, k + 1, by omega, by omega, by go_num, own5, (HB.out.alloc hsz _).trans hb5⟩
        case measure => simp [intOf]; omega
    · have hlt' : ¬ (j : Int) < (nn : Int) := by omega
      obtain rfl : j = nn := by omega
      rw [show L.take j = L by rw [← HN.out]; exact List.take_length] at HO
      have hk : k = (stopT L i).length := HO.out.len.symm
      have HP' : Hid (Tms (stopT L i)) := fun p hp => HP.out p (mem_stopT.1 hp).1
      obtain ⟨ad', cap', hv⟩ := HO.out.shape
      subst hv
      cases hh : hasI i L with
      | true =>
        have HX : Hid (stopTX L i = 0) := by unfold Hid stopTX; rw [hh]; rfl
        have hlt2 := stopT_len_lt hh
        rw [← hk, HN.out] at hlt2
        have hne : ((k : Int) == (j : Int)) = false := by simp; omega
        have HK : Hid (k = (stopT L i).length) := hk
        clear hh hk
        go_wp2
        go_ret
        rw [HX.out]
        exact HT.out.lay HB.out (by rw [← HK.out]; exact HO.out) HP'.out 0
      | false =>
        have HX : Hid (stopTX L i = 5 ∧ stopT L i = L) := by
          refine ⟨?_, stopT_none hh⟩
          unfold stopTX; rw [hh]; rfl
        have hkj : k = j := by rw [hk, HX.out.2, HN.out]
        have heq : ((k : Int) == (j : Int)) = true := by simp [hkj]
        clear hh hk hkj
        go_wp2
        go_ret
        rw [HX.out.1, HX.out.2]
        exact DoneM.none HT.out HB.out
end Go.Proofs.Ytajpfmnnkglkiaa
