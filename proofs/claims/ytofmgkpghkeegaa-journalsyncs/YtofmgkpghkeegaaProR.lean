/- The contract of readBack: the map of the last numbers that bytes tell. -/
import Derived.Test.YtofmgkpghkeegaaProM
import Derived.ScopeJumps
namespace Go.Proofs.Ytofmgkpghkeegaa
open Go.RowKit Go.Maps

theorem bytesJ_cons (f : Fc) (L : List Fc) : bytesJ (f :: L) = byF f ++ bytesJ L := rfl
theorem drop_cons {L : List Fc} {j : Nat} {f : Fc} (h : L[j]? = some f) : L.drop j = f :: L.drop (j + 1) := by
  obtain ⟨hj, rfl⟩ := List.getElem?_eq_some_iff.1 h
  exact List.drop_eq_getElem_cons hj
theorem bytes_take {L : List Fc} {j : Nat} {f : Fc} (h : L[j]? = some f) : (bytesJ (L.drop j)).take 12 = byF f := by
  rw [drop_cons h, bytesJ_cons, List.take_append_of_le_length (by rw [byF_len]; omega), List.take_of_length_le (by rw [byF_len]; omega)]
theorem bytes_drop {L : List Fc} {j : Nat} {f : Fc} (h : L[j]? = some f) : (bytesJ (L.drop j)).drop 12 = bytesJ (L.drop (j + 1)) := by
  rw [drop_cons h, bytesJ_cons, List.drop_append_of_le_length (by rw [byF_len]; omega), List.drop_eq_nil_of_le (by rw [byF_len]; omega), List.nil_append]
theorem Row8.rest {w : World} {a : Option Addr} {n : Nat} {l : List Int} (h : Row8 w a n l) (k cap : Nat) (hk : k ≤ n) (hc : n ≤ cap) (b off : Nat) (ha : a = some ⟨b, off, none⟩) :
    Row8 w (if cap = k then some ⟨b, off, none⟩ else some ⟨b, off + k, none⟩) (n - k) (l.drop k) := by
  subst ha
  split
  · have hz : n - k = 0 := by omega
    rw [hz]
    refine ⟨by rw [List.length_drop, h.1]; exact hz, by omega, fun x hx => h.2.2.1 x (List.mem_of_mem_drop hx), fun i hi => by omega⟩
  · exact h.drop k hk
theorem owns_same {W W' : World} {b n : Nat} {D : DataW Unit} (h : W.ownsMap Try.prog 55 (plainElem Try.prog 30) b n D) (hb : W'.heap[b]? = W.heap[b]?) : W'.ownsMap Try.prog 55 (plainElem Try.prog 30) b n D := by
  obtain ⟨es, clock, h1, h2⟩ := h
  exact ⟨es, clock, hb.trans h1, h2⟩
/-- What readBack leaves. -/
def ReadP (w : World) (L : List Fc) (e : Ending) (w' : World) : Prop := ∃ b, e = .returned (.map (some b)) ∧ w.heap.size ≤ b ∧ MapR w' b L L.length ∧ Below w.heap.size w w'
/-- At the label: j facts are read. -/
def RbJ (w : World) (L : List Fc) (a' : Act) (W : World) : Prop :=
  ∃ (j i m cc : Nat) (ra : Option Addr) (u1 u4 u5 u6 u7 u8 u9 u10 u11 u12 u13 u14 u15 u16 u17 u18 u19 u20 u21 u22 : Value), a' = { tmps := #[.slice ra m cc, u1, .map none, .map (some w.heap.size), u4, u5, u6, u7, u8, u9, u10, u11, u12, u13, u14, u15, u16, u17, u18, u19, u20, u21, u22], defers := [] } ∧
    j + i = L.length ∧ m = 12 * i ∧ m ≤ cc ∧ Row8 w ra m (bytesJ (L.drop j)) ∧ MapR W w.heap.size (L.take j) j ∧ Below w.heap.size w W
theorem jump_mono {l : Nat} {J J' : Act → World → Prop} {Q : Exit → Act → World → Prop} (h : ∀ a w, J a w → J' a w) : ∀ e a w, Exit.jump l J Q e a w → Exit.jump l J' Q e a w := by
  intro e a w
  cases e <;> intro hq <;> first | exact ⟨hq.1, h _ _ hq.2⟩ | exact hq
def lenV : Value → Nat
  | .slice _ n _ => n
  | _ => 0
noncomputable def afterScope : Code → Option Code
  | .scope c => findLabel c 0
  | .seq a b => match afterScope a with
    | some c => some c
    | none => afterScope b
  | .block _ c => afterScope c
  | _ => none
def Code.second : Code → Code
  | .seq _ b => b
  | c => c
noncomputable def restCode : Code := Code.second ((Try.f28.body.bind afterScope).getD .skip)
set_option maxRecDepth 100000 in
set_option maxHeartbeats 4000000 in
theorem passR (w : World) (L : List Fc) (hL : Fcs L) (hM : ∀ f ∈ L, MayF f) (hl : L.length ≤ 2002) (a : Act) (W : World) (hJ : RbJ w L a W) :
    Code.wp Try.prog restCode (Exit.jump 0 (fun a' w' => RbJ w L a' w' ∧ lenV (a'.tmps.getD 0 undef) < lenV (a.tmps.getD 0 undef)) (bodyPost Try.prog Try.f28 (ReadP w L))) a W := by
  obtain ⟨j, i, m, cc, ra, u1, u4, u5, u6, u7, u8, u9, u10, u11, u12, u13, u14, u15, u16, u17, u18, u19, u20, u21, u22, rfl, hji, hm, hmc, hrow, hmap, hB⟩ := hJ
  have HB : Hid (Below w.heap.size w W) := hB
  have HR : Hid (Row8 w ra m (bytesJ (L.drop j))) := hrow
  conv => arg 2; whnf
  cases i with
  | zero =>
    obtain rfl : m = 0 := by omega
    have HM : Hid (MapR W w.heap.size L L.length) := by
      unfold Hid
      have h1 : j = L.length := by omega
      rw [h1, List.take_length] at hmap
      exact hmap
    clear hmap hrow hB hmc hm hji
    go_wp2
    simp only [Exit.jump]
    go_ret
    exact ⟨_, rfl, Nat.le_refl _, HM.out, HB.out⟩
  | succ i =>
    obtain ⟨m', rfl⟩ : ∃ m', m = m' + 12 := ⟨m - 12, by omega⟩
    obtain ⟨c', rfl⟩ : ∃ c', cc = c' + 12 := ⟨cc - 12, by omega⟩
    obtain ⟨b, off, rfl, -⟩ := HR.out.2.2.2 0 (by omega)
    obtain ⟨f, hf⟩ : ∃ f, L[j]? = some f := ⟨_, List.getElem?_eq_getElem (by omega)⟩
    have hmem := List.mem_of_getElem? hf
    have hok := hL f hmem
    have hT := hrow.take 12 (by omega)
    rw [bytes_take hf] at hT
    have HT : Hid (Row8 w (some ⟨b, off, none⟩) 12 (byF f)) := hT
    have HX := HR.out.rest 12 (c' + 12) (by omega) hmc b off rfl
    rw [bytes_drop hf, Nat.add_sub_cancel] at HX
    have HXa : Hid (c' = 0 → Row8 w (some ⟨b, off, none⟩) m' (bytesJ (L.drop (j + 1)))) := fun h0 => by
      rw [if_pos (by omega)] at HX
      exact HX
    have HXb : Hid (¬ c' = 0 → Row8 w (some ⟨b, off + 12, none⟩) m' (bytesJ (L.drop (j + 1)))) := fun h0 => by
      rw [if_neg (by omega)] at HX
      exact HX
    have HMm : Hid (m' + 12 = 12 * (i + 1)) := hm
    have HJI : Hid (j + (i + 1) = L.length) := hji
    have HF : Hid (MayF f) := hM f hmem
    have hm3 : m' ≤ 30000 := by omega
    have hmc' : m' ≤ c' := by omega
    obtain ⟨D, n, hn, hown, hrd⟩ := hmap
    have HRD : Hid (Rd (D.put (kN f.k f.y) (.lit (.int .u32 f.n))) (L.take (j + 1)) ∧ n + 1 ≤ j + 1) := ⟨by rw [List.take_add_one, hf]; exact hrd.put hown.isMap hok, by omega⟩
    have HOW : Hid (W.ownsMap Try.prog 55 (plainElem Try.prog 30) w.heap.size n D) := hown
    have HNM : Hid (n < maxLen) := by show n < maxLen; unfold maxLen; omega
    have HKY : Hid (keyOf Try.prog 55 (nameV f.k f.y) = some (kN f.k f.y)) := kN_is hok.ky
    have HWF : Hid ((Lit.int .u32 f.n).wf = true) := wf_u32 hok.n0 hok.n1
    have HBW : Hid (w.heap.size < W.heap.size) := hown.lt
    obtain ⟨k, y, x⟩ := f
    clear HX hrow hT hB hmc hm hji hf hmem hok hrd hown hn
    go_wp2_with (first
      | (go_at_call 34; refine (decode_any _ _ _ _ (row8_later HT.out (HB.out.mono (by exact Nat.le_refl _))) HF.out).mono ?_; rintro e W1 ⟨rfl, hb1⟩; have HB1 : Hid (Below W.heap.size W W1) := hb1; clear hb1)
      | (at_mapUpdate; refine wpList_mapUpdate_in _ rfl _ _ _ 50 rfl 55 30 lawN Try.underlying50 _ w.heap.size n D rfl (owns_same HOW.out (((below1 W1 _).mono HB1.out.size |> HB1.out.trans).block _ HBW.out)) HNM.out _ _ _ rfl rfl HKY.out _ [] (plainElem_int Try.underlying30 HWF.out) ?_; intro w1 hown1 hturn1; have HU : Hid (w1.ownsMap Try.prog 55 (plainElem Try.prog 30) w.heap.size (n + 1) (D.put (kN k y) (.lit (.int .u32 x)))) := hown1; have HG : Hid (Below w.heap.size w w1) := (stp (stp HB.out HB1.out) (below1 _ _)).grown hturn1.grown (by have := HB1.out.size; have := HBW.out; simp; omega) (fun j hj => by cases hj; exact Nat.le_refl _); clear hown1 hturn1))
    all_goals
      go_step3
      refine ⟨rfl, ⟨j + 1, i, m', _, _, _, _, _, _, _, _, _, _, _, _, _, _, _, _, _, _, _, _, _, _, rfl, by have := HJI.out; omega, by have := HMm.out; omega, by omega, by first | exact HXa.out (by assumption) | exact HXb.out (by assumption), ⟨_, _, HRD.out.2, HU.out, HRD.out.1⟩, HG.out⟩, ?_⟩
      simp [lenV]
set_option maxRecDepth 100000 in
set_option maxHeartbeats 2000000 in
theorem readBack_any (w : World) (L : List Fc) (ra : Option Addr) (m cc : Nat) (hr : Row8 w ra m (bytesJ L)) (hm : m = 12 * L.length) (hmc : m ≤ cc) (hL : Fcs L) (hM : ∀ f ∈ L, MayF f) (hl : L.length ≤ 2002) :
    Calls Try.prog 28 #[.slice ra m cc] w (ReadP w L) := by
  have hmm := @run_makeMap Try.prog
  have HR : Hid (Row8 w ra m (bytesJ L)) := hr
  have HM : Hid (m = 12 * L.length ∧ m ≤ cc) := ⟨hm, hmc⟩
  have HL : Hid (Fcs L) := hL
  have HY : Hid (∀ f ∈ L, MayF f) := hM
  have HN : Hid (L.length ≤ 2002) := hl
  clear hr hm hmc hL hM hl
  go_enter Try.func28, Try.ntmps28
  go_wp2
  refine wp_scope_jumps 0 (RbJ w L) (fun a' _ => lenV (a'.tmps.getD 0 undef)) rfl ?_ ?_
  rotate_left
  · intro a' W' hJ
    exact wp_seq (wp_skip (passR w L HL.out HY.out HN.out a' W' hJ))
  go_wp2
  go_step3
  rename_i K hK
  refine hK _ _ (wp_mono (passR w L HL.out HY.out HN.out _ _ ?_) (jump_mono fun a w h => h.1))
  have h0 := World.ownsMap_made w Try.prog 55 (plainElem (H := Unit) Try.prog 30)
  exact ⟨0, L.length, m, cc, ra, _, _, _, _, _, _, _, _, _, _, _, _, _, _, _, _, _, _, _, _, rfl, by omega, HM.out.1, HM.out.2, HR.out, ⟨_, 0, Nat.le_refl _, h0, rd_nil⟩, below1 _ _⟩
end Go.Proofs.Ytofmgkpghkeegaa
