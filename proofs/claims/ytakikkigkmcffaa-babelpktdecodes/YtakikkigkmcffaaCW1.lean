/- The writer's block; the contract of add. -/
import Derived.Test.YtakikkigkmcffaaCon8
import Derived.Test.YtakikkigkmcffaaReg
namespace Go.Proofs.Ytakikkigkmcffaa
open Go.RowKit

section
variable {P : Program} (w : World)
theorem run_app8g (base : Nat) (t ty e : TypeId) (ht : P.underlying t = some (.slice e)) (hinfo : (P.info? e).map (fun i => (i.zero, i.size, i.bytes)) = some (some (.int .u8 0), 1, 1))
    (v : Value) (n : Nat) (l1 : List Int) (hown : Own8 w base e v n l1) (ad : Option Addr) (m c : Nat) (l2 : List Int) (h2 : Row8 w ad m l2) (hlen : n + m ≤ 100000) (hbase : base ≤ w.heap.size) :
    ∃ a' c' w', (Builtin.append_ #[t, t] ty #[v, .slice ad m c]).run P w = .ok (.slice a' (n + m) c') w' ∧ Own8 w' base e (.slice a' (n + m) c') (n + m) (l1 ++ l2) ∧ Below base w w' ∧ (∀ N, N < w.heap.size → v.ownBlock ≠ some N → (Value.slice a' (n + m) c').ownBlock ≠ some N ∧ (∀ o, w'.cell? ⟨N, o, none⟩ = w.cell? ⟨N, o, none⟩)) ∧ w.heap.size ≤ w'.heap.size := by
  obtain ⟨i, hi, hzz⟩ := Option.map_eq_some_iff.1 hinfo
  simp only [Prod.mk.injEq] at hzz
  obtain ⟨hz, hs, hb⟩ := hzz
  obtain ⟨hl2, _, _, hc2⟩ := h2
  cases ad with
  | none =>
    have hm : m = 0 := by
      rcases Nat.eq_zero_or_pos m with h | h
      · exact h
      · obtain ⟨_, _, h, _⟩ := hc2 0 h; cases h
    subst hm
    obtain rfl : l2 = [] := List.eq_nil_of_length_eq_zero hl2
    obtain ⟨a', c', rfl⟩ := hown.shape
    exact ⟨a', c', w, run_app8_nil w t ty e i ht hi base _ n l1 hown c, by simpa using hown, Below.refl _ _, fun N _ hne => ⟨hne, fun _ => rfl⟩, Nat.le_refl _⟩
  | some x =>
    have hnews : ∀ j u, (l2.map (Value.int .u8))[j]? = some u → w.cell? (x.add j) = some u := by
      intro j u hj
      have hjl : j < l2.length := by
        rcases Nat.lt_or_ge j l2.length with h | h
        · exact h
        · simp [List.getElem?_eq_none h] at hj
      obtain ⟨b, off, e1, hc⟩ := hc2 j (by omega)
      simp only [Option.some.injEq] at e1
      subst e1
      rw [Go.WideShapes.add_plain, hc]
      simpa [List.getElem?_eq_getElem hjl] using hj
    obtain ⟨v', w', hr, h3, h4, _, hat⟩ := run_append_own_at (P := P) w base t ty e i (.int .u8 0) 1 1 ht hi hz hs hb rfl (by decide) v n _ hown x m c (l2.map (Value.int .u8)) (by simp [hl2]) hnews
      (by intro u hu; obtain ⟨k, _, rfl⟩ := List.mem_map.1 hu; rfl) (by unfold maxLen; omega) (by omega) hbase
    have h5 : Own8 w' base e v' (n + m) (l1 ++ l2) := by unfold Own8; rw [List.map_append]; exact h3
    obtain ⟨a', c', rfl⟩ := h5.shape
    refine ⟨a', c', w', hr, h5, (Below.refl _ _).grown h4 hbase hown.lt, fun N hN hne => ⟨?_, fun o => h4.cell_far ⟨N, o, none⟩ hN (fun e => hne e.symm)⟩, h4.size⟩
    rcases hat with h | h
    · rw [h]; exact hne
    · rw [h]; intro e; simp only [Option.some.injEq] at e; omega

theorem wpList_app8g {ops : Array Oper} {rest : List Oper} {o : Oper} {a : Act} {Q : Exit → Act → World → Prop} (hgd : o.guard = none) (s x : Operand) (t e : TypeId)
    (ho : o.op = .call { callee := .builtin .append, args := #[s, x], argTypes := #[t, t] }) (base : Nat)
    (ht : P.underlying t = some (.slice e)) (hinfo : (P.info? e).map (fun i => (i.zero, i.size, i.bytes)) = some (some (.int .u8 0), 1, 1))
    (v : Value) (n : Nat) (l1 : List Int) (hs : a.eval s = v) (hown : Own8 w base e v n l1) (ad : Option Addr) (m c : Nat) (l2 : List Int) (hx : a.eval x = .slice ad m c) (h2 : Row8 w ad m l2) (k : Nat) (hk : n + m = k) (l3 : List Int) (hl : l1 ++ l2 = l3) (hlen : k ≤ 100000) (hbase : base ≤ w.heap.size)
    (h : ∀ a' c' w', Own8 w' base e (.slice a' k c') k l3 → Below base w w' → (∀ N, N < w.heap.size → v.ownBlock ≠ some N → (Value.slice a' k c').ownBlock ≠ some N ∧ (∀ o, w'.cell? ⟨N, o, none⟩ = w.cell? ⟨N, o, none⟩)) → w.heap.size ≤ w'.heap.size → wpList P ops Q rest (a.put o.dst (.slice a' k c')) w') : wpList P ops Q (o :: rest) a w := by
  subst hk hl
  refine wpList_plain hgd fun _ hK => ?_
  obtain ⟨a', c', w', hr, h3, h4, h5, h6⟩ := run_app8g (P := P) w base t o.type e ht hinfo v n l1 hown ad m c l2 h2 hlen hbase
  unfold Oper.wp execOp
  simp only [ho, resolve, invoke, builtin, Sem.run_bind, Sem.run_pure, Result.andThen_ok, List.map_toArray, List.map_cons, List.map_nil, hs, hx, hr]
  exact hK _ _ (h a' c' w' h3 h4 h5 h6)
end
/-- The four cells of a writer in block N, which may be written. -/
def WF (W : World) (N : Nat) (kt : Bool) (kr ka : Int) (ad : Option Addr) (m cp : Nat) : Prop :=
  W.cell? ⟨N, 0, none⟩ = some (.bool kt) ∧ W.cell? ⟨N, 1, none⟩ = some (.int .u64 kr) ∧ W.cell? ⟨N, 2, none⟩ = some (.int .u32 ka) ∧ W.cell? ⟨N, 3, none⟩ = some (.slice ad m cp) ∧ (∀ o, W.frozen? ⟨N, o, none⟩ = false) ∧ N < W.heap.size
theorem WF.lift {W W' : World} {B N : Nat} {kt : Bool} {kr ka : Int} {ad : Option Addr} {m cp : Nat} (h : WF W N kt kr ka ad m cp) (hb : Below B W W') (hN : N < B) : WF W' N kt kr ka ad m cp := by
  obtain ⟨h0, h1, h2, h3, hf, hz⟩ := h
  exact ⟨(hb.cell (p := ⟨N, 0, none⟩) hN).trans h0, (hb.cell (p := ⟨N, 1, none⟩) hN).trans h1, (hb.cell (p := ⟨N, 2, none⟩) hN).trans h2, (hb.cell (p := ⟨N, 3, none⟩) hN).trans h3, fun o => (hb.frozen (p := ⟨N, o, none⟩) hN).trans (hf o), Nat.lt_of_lt_of_le hz hb.size⟩
theorem WF.later {W W' : World} {N : Nat} {kt : Bool} {kr ka : Int} {ad : Option Addr} {m cp : Nat} (h : WF W N kt kr ka ad m cp) (hb : Below W.heap.size W W') : WF W' N kt kr ka ad m cp := h.lift hb h.2.2.2.2.2
theorem setCell_block (W : World) (a : Addr) (v : Value) (k : Nat) (h : a.block ≠ k) : (W.setCell a v).heap[k]? = W.heap[k]? := by
  unfold World.setCell
  split <;> simp only [Array.getElem?_modify, if_neg h]
theorem WF.set3 {W : World} {N : Nat} {kt : Bool} {kr ka : Int} {ad ad' : Option Addr} {m cp m' cp' : Nat} (h : WF W N kt kr ka ad m cp) : WF (W.setCell ⟨N, 3, none⟩ (.slice ad' m' cp')) N kt kr ka ad' m' cp' := by
  obtain ⟨h0, h1, h2, h3, hf, hz⟩ := h
  exact ⟨by simp [go_sem, h0], by simp [go_sem, h1], by simp [go_sem, h2], by simp [go_sem, h3], fun o => by simp [go_sem, hf], by simpa using hz⟩
theorem WF.set2 {W : World} {N : Nat} {kt : Bool} {kr ka ka' : Int} {ad : Option Addr} {m cp : Nat} (h : WF W N kt kr ka ad m cp) : WF (W.setCell ⟨N, 2, none⟩ (.int .u32 ka')) N kt kr ka' ad m cp := by
  obtain ⟨h0, h1, h2, h3, hf, hz⟩ := h
  exact ⟨by simp [go_sem, h0], by simp [go_sem, h1], by simp [go_sem, h2], by simp [go_sem, h3], fun o => by simp [go_sem, hf], by simpa using hz⟩
theorem WF.set01 {W : World} {N : Nat} {kt kt' : Bool} {kr kr' ka : Int} {ad : Option Addr} {m cp : Nat} (h : WF W N kt kr ka ad m cp) : WF ((W.setCell ⟨N, 0, none⟩ (.bool kt')).setCell ⟨N, 1, none⟩ (.int .u64 kr')) N kt' kr' ka ad m cp := by
  obtain ⟨h0, h1, h2, h3, hf, hz⟩ := h
  exact ⟨by simp [go_sem, h0], by simp [go_sem, h1], by simp [go_sem, h2], by simp [go_sem, h3], fun o => by simp [go_sem, hf], by simpa using hz⟩
theorem Own8.keep {w w' : World} {base : Nat} {e : TypeId} {v : Value} {n : Nat} {l : List Int} (h : Own8 w base e v n l) (hb : ∀ k, base ≤ k → w'.heap[k]? = w.heap[k]?) : Own8 w' base e v n l := by
  refine ⟨h.1, ?_⟩
  rcases h.2 with hn | ⟨g, cap, cur, hv, hbg, hg, r⟩
  · exact .inl hn
  · refine .inr ⟨g, cap, cur, hv, hbg, ?_, r⟩
    rw [hb g hbg]
    exact hg
theorem Own8.set {W : World} {M o : Nat} {x : Value} {base : Nat} {e : TypeId} {v : Value} {n : Nat} {l : List Int} (h : Own8 W base e v n l) (hM : M < base) : Own8 (W.setCell ⟨M, o, none⟩ x) base e v n l :=
  h.keep fun k hk => setCell_block W _ x k (by show M ≠ k; omega)
/-- What a call that puts bytes behind the others leaves. -/
def Added (w : World) (N : Nat) (kt : Bool) (kr ka : Int) (ad : Option Addr) (m cp k : Nat) (L : List Int) (e : Ending) (w' : World) : Prop :=
  e = .returned (.tuple #[]) ∧ ∃ ad' cp', WF w' N kt kr ka ad' k cp' ∧ Own8 w' (N + 1) 5 (.slice ad' k cp') k L ∧ Below N w w' ∧ w.heap.size ≤ w'.heap.size ∧
    (∀ B, B < w.heap.size → B ≠ N → (Value.slice ad m cp).ownBlock ≠ some B → (Value.slice ad' k cp').ownBlock ≠ some B ∧ (∀ o, w'.cell? ⟨B, o, none⟩ = w.cell? ⟨B, o, none⟩))
set_option maxHeartbeats 400000 in
theorem add_any (N : Nat) (kt : Bool) (kr ka : Int) (ad : Option Addr) (m cp : Nat) (L : List Int) (x : Option Addr) (q xc : Nat) (M : List Int) (w : World) (hW : WF w N kt kr ka ad m cp) (own : Own8 w (N + 1) 5 (.slice ad m cp) m L) (hr : Row8 w x q M) (hlen : m + q ≤ 100000) {k : Nat} (hk : m + q = k) {LM : List Int} (hL : L ++ M = LM) :
    Calls Try.prog 39 #[.pointer (some ⟨N, 0, none⟩), .slice x q xc] w (Added w N kt kr ka ad m cp k LM) := by
  have HW : Hid (WF w N kt kr ka ad m cp) := hW
  have HO : Hid (Own8 w (N + 1) 5 (.slice ad m cp) m L) := own
  have HR : Hid (Row8 w x q M) := hr
  have HK : Hid (m + q = k) := hk
  have HL : Hid (L ++ M = LM) := hL
  have hk5 : k ≤ 100000 := by omega
  obtain ⟨h0, h1, h2, h3, hf, hz⟩ := hW
  clear own hr hk hL hlen
  go_enter Try.func39, Try.ntmps39
  go_wp2_with (first
    | (at_builtin; refine wpList_app8g _ rfl (.tmp 8) (.tmp 9) 25 5 rfl (N + 1) Try.underlying25 info5 _ m L rfl HO.out _ q xc M rfl HR.out k HK.out LM HL.out hk5 (by omega) ?_; intro a3 c3 W3 own3 hb3 far3 sz3; have HW3 : Hid (_) := HW.out.lift hb3 (by omega); obtain ⟨q0, q1, q2, q3, qf, qz⟩ := HW3.out))
  refine bodyPost_ret (v := .tuple #[]) (by simp [results, Try.results39, go_sem]) rfl ⟨rfl, a3, c3, WF.set3 (kt := kt) (kr := kr) (ka := ka) (ad := ad) (m := m) (cp := cp) HW3.out, own3.set (by omega), (hb3.mono (by omega)).setCell (by simp) _, by simpa using sz3, fun B hB hBN hne => ⟨(far3 B hB hne).1, fun o => ?_⟩⟩
  rw [World.cell?_setCell_far _ _ _ _ (by exact fun e => hBN e.symm)]
  exact (far3 B hB hne).2 o
end Go.Proofs.Ytakikkigkmcffaa
