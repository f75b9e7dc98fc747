/- The contract of the program's Facts, over what is asked of the sort. -/
import Derived.Test.YtofmgkpghkeegaaProM
import Derived.Test.YtofmgkpghkeegaaProS
namespace Go.Proofs.Ytofmgkpghkeegaa
open Go.RowKit Go.Maps

section
variable {H : Type} {P : Program} (w : World) {ops : Array Oper} {rest : List Oper} {o : Oper} {a : Act} {Q : Exit → Act → World → Prop}
/-- The step of a round over the map. -/
theorem wpList_next_N (hg : o.guard = none) (it : Operand) (hop : o.op = Op.next it false) (b r n : Nat) (D : DataW H) (left : Lit → Bool) (cnt : Nat) (hit : a.eval it = .pointer (some ⟨r, 0, none⟩)) (h : w.ranges Try.prog 55 (plainElem Try.prog 30) b r n D left cnt)
    (hDone : cnt = 0 → (∀ kl, left kl = false) → wpList Try.prog ops Q rest (a.put o.dst (.tuple #[.bool false])) w)
    (hMore : ∀ (k y c : Int) (w' : World) (cnt' : Nat), KyOk k y → (0 ≤ c ∧ c ≤ 4294967295) → left (kN k y) = true → (∀ zd, D.atKey (kN k y) zd = .lit (.int .u32 c)) → w'.ranges Try.prog 55 (plainElem Try.prog 30) b r n D (fun z => left z && !z.sameKey (kN k y)) cnt' → cnt' < cnt →
      w.grownBy w' (some r) → w'.heap.size = w.heap.size → (Instr.entry (.pointer (some ⟨r, 0, none⟩))).run Try.prog w' = .ok (.tuple #[nameV k y, .int .u32 c]) w' → wpList Try.prog ops Q rest (a.put o.dst (.tuple #[.bool true, nameV k y, .int .u32 c])) w') :
    wpList Try.prog ops Q (o :: rest) a w :=
  wpList_next_ranges w hg it hop 55 lawN (plainElem Try.prog 30) (fun x : Int × Int => nameV x.1 x.2) (Value.int .u32) (fun key kl hkey => by obtain ⟨k, y, rfl, _⟩ := key_inv hkey; exact ⟨(k, y), rfl⟩) (fun v y hv => by obtain ⟨c, rfl, _⟩ := plainElem_int_inv Try.underlying30 hv; exact ⟨c, rfl⟩)
    b r n D left cnt hit h hDone (fun x c kl y w' cnt' hkey hlk hv hat hrg hlt hgr hsz hen => by
      obtain ⟨k, y'⟩ := x
      obtain ⟨k', y'', e, hok⟩ := key_inv hkey
      have e2 : k = k' ∧ y' = y'' := by
        simp only [nameV, Value.agg.injEq] at e
        injection e with e
        simpa using e
      obtain ⟨rfl, rfl⟩ := e2
      have h1 := kN_is hok
      have h2 : some kl = some (kN k y') := hkey.symm.trans h1
      simp only [Option.some.injEq] at h2
      subst h2
      obtain ⟨c', ec, rfl, hwc⟩ := plainElem_int_inv Try.underlying30 hv
      cases ec
      exact hMore k y' c w' cnt' hok (of_wf_u32 hwc) hlk hat hrg hlt hgr hsz hen)
end
/-- While Facts goes round. -/
structure FacR (w wr : World) (b n : Nat) (L : List Fc) (left : Lit → Bool) (cnt : Nat) (D : DataW Unit) (M : List Fc) (v : Value) : Prop where
  rg : wr.ranges Try.prog 55 (plainElem Try.prog 30) b w.heap.size n D left cnt
  own : OwnF wr (w.heap.size + 1) v M.length M
  got : Got left L M
  rd : Rd D L
  gr : Below w.heap.size w wr
  ln : M.length + cnt ≤ n
section
variable {w wr w1 W5 : World} {b n : Nat} {k y c : Int} {L M : List Fc} {left : Lit → Bool} {cnt cnt1 : Nat} {D : DataW Unit} {v v5 : Value}
theorem FacR.start (hr : wr.ranges Try.prog 55 (plainElem Try.prog 30) b w.heap.size n D (Maps.has D) (Maps.size D)) (hrd : Rd D L) (hL : Fcs L) (hg : w.grownBy wr none) : FacR w wr b n L (Maps.has D) (Maps.size D) D [] (.slice none 0 0) :=
  ⟨hr, ownF_nil _ _, got_start hrd hL, hrd, ⟨hg.os, hg.tape, hg.output, hg.size, fun i hi => hg.block i hi (by simp)⟩, by have := hr.owns.size_le; simp; exact this⟩
theorem FacR.own_ne (h : FacR w wr b n L left cnt D M v) {g : Nat} (hg : v.ownBlock = some g) : some g ≠ some w.heap.size := fun e => by
  have := h.own.lt g hg
  simp only [Option.some.injEq] at e
  omega
/-- What the step leaves of the row. -/
theorem FacR.own1 (h : FacR w wr b n L left cnt D M v) (hg : wr.grownBy w1 (some w.heap.size)) : OwnF w1 (w.heap.size + 1) v M.length M :=
  h.own.same fun g hg' => hg.block g (h.own.own_lt hg') (h.own_ne hg')
theorem FacR.gr1 (h : FacR w wr b n L left cnt D M v) (hg : wr.grownBy w1 (some w.heap.size)) : Below w.heap.size w w1 :=
  h.gr.grown hg h.gr.size (fun j hj => by cases hj; exact Nat.le_refl _)
/-- One has come and is laid. -/
theorem FacR.step {k5 : Nat} (h : FacR w wr b n L left cnt D M v) (hL : Fcs L) (hm : (⟨k, y, c⟩ : Fc) ∈ factsJ L) (hl : left (kN k y) = true) (hlt : cnt1 < cnt) (hb5 : Below (w.heap.size + 1) w1 W5) (h1 : Below w.heap.size w w1) (own5 : OwnF W5 (w.heap.size + 1) v5 k5 (M ++ [⟨k, y, c⟩]))
    (hr : w1.ranges Try.prog 55 (plainElem Try.prog 30) b w.heap.size n D (fun z => left z && !z.sameKey (kN k y)) cnt1) (hbw : b < w.heap.size) :
    FacR w W5 b n L (fun z => left z && !z.sameKey (kN k y)) cnt1 D (M ++ [⟨k, y, c⟩]) v5 := by
  obtain rfl := own5.len
  refine ⟨?_, own5, h.got.step hL hm hl, h.rd, h1.trans (hb5.mono (Nat.le_succ _)), by have := h.ln; simp only [List.length_append, List.length_singleton]; omega⟩
  obtain ⟨es, clock, since, seen, c0, g1, F, hs, hD, g2, rest⟩ := hr
  exact ⟨es, clock, since, seen, c0, (hb5.block b (Nat.lt_succ_of_lt hbw)).trans g1, F, hs, hD, (hb5.block _ (Nat.lt_succ_self _)).trans g2, rest⟩
/-- None is left; what was got is sorted. -/
theorem FacR.done {wf : World} {ad : Option Addr} {nn cap : Nat} (h : FacR w wr b n L left cnt D M (.slice ad nn cap)) (h0 : ∀ kl, left kl = false) {S : List Fc} (hp : S.Perm M) (hS : S.Pairwise fun x y => ¬ y.lt x) (own : OwnF wf (w.heap.size + 1) (.slice ad nn cap) nn S) (hk : Keep (fun k => (Value.slice ad nn cap).ownBlock = some k) wr wf) :
    OwnF wf w.heap.size (.slice ad nn cap) nn (factsJ L) ∧ Below w.heap.size w wf := by
  obtain rfl := h.got.sorted h0 hp hS
  refine ⟨own.base (Nat.le_succ _), h.gr.trans (hk.below (fun i _ hi => ?_) h.gr.size)⟩
  have := own.lt i hi
  omega
end
section
variable {N b K m : Nat} {room : Int} {v : Value} {L : List Fc}
set_option maxRecDepth 100000 in
set_option maxHeartbeats 4000000 in
theorem facts_any (hS : SortC) (w : World) (h : Jor w N b v room L K m) (hm : m ≤ 2002) :
    Calls Try.prog 22 #[.pointer (some ⟨N, 0, none⟩)] w fun e w' => ∃ ad k cap, e = .returned (.slice ad k cap) ∧ OwnF w' w.heap.size (.slice ad k cap) k (factsJ L) ∧ Below w.heap.size w w' := by
  have HS : Hid SortC := hS
  have HM : Hid (Fcs L) := h.ok
  obtain ⟨D0, n0, hn0, hown, hr⟩ := h.mp
  have HBL : Hid (b < w.heap.size ∧ n0 ≤ 2002) := ⟨h.mp.lt, Nat.le_trans hn0 hm⟩
  have HR : Hid (Rd D0 L) := hr
  have c3 := h.c3
  obtain ⟨R, hRr⟩ : ∃ R : Ending → World → Prop, (fun e w' => ∃ ad k cap, e = .returned (.slice ad k cap) ∧ OwnF w' w.heap.size (.slice ad k cap) k (factsJ L) ∧ Below w.heap.size w w') = R := ⟨_, rfl⟩
  have HRR : Hid ((fun e w' => ∃ ad k cap, e = .returned (.slice ad k cap) ∧ OwnF w' w.heap.size (.slice ad k cap) k (factsJ L) ∧ Below w.heap.size w w') = R) := hRr
  rw [hRr]
  clear hRr hS h hr hn0 hm
  go_enter Try.func22, Try.ntmps22
  go_wp2_with (first
    | (at_range; refine wpList_range_own _ rfl _ 50 rfl 55 30 lawN Try.underlying50 _ b _ D0 rfl hown ?_; intro w0 hrg0 hg0 hs0)
    | go_in)
  go_frame
  go_loopw [3] (fun v_ wr => ∃ (left : Lit → Bool) (cnt : Nat) (D : DataW Unit) (M : List Fc) (ad : Option Addr) (n cap : Nat), v_ = .slice ad n cap ∧ Hid (n = M.length) ∧ Hid (FacR w wr b n0 L left cnt D M (.slice ad n cap))) (fun _ wr => wr.rangeLeft b w.heap.size)
  case atStart => exact ⟨_, _, _, [], none, 0, 0, rfl, rfl, FacR.start hrg0 HR.out HM.out hg0⟩
  case round =>
    obtain ⟨left, cnt, D, M, ad, n, cap, rfl, HN, HD⟩ := hrel
    have hrg := HD.out.rg
    have HQ : Hid (wr.rangeLeft b w.heap.size = cnt) := hrg.left_eq
    go_wp2_with (first
      | (at_next; refine wpList_next_N _ rfl _ rfl b w.heap.size _ _ _ _ rfl hrg ?_ ?_)
      | go_in)
    · intro _ hl0
      have H0 : Hid (∀ kl, left kl = false) := hl0
      have HO : Hid (OwnF wr (w.heap.size + 1) (.slice ad n cap) n M) := HN.out ▸ HD.out.own
      have HNL : Hid (n ≤ 100000) := by have := HD.out.ln; have := HN.out; have := HBL.out.2; show n ≤ 100000; omega
      clear hl0 hrg
      go_wp2_with (go_at_call 29; refine (HS.out _ _ _ _ _ _ HO.out HNL.out).mono ?_; rintro e wf ⟨rfl, S, hp, hs, own, hk⟩; have HF : Hid (OwnF wf w.heap.size (.slice ad n cap) n (factsJ L) ∧ Below w.heap.size w wf) := HD.out.done H0.out hp hs own hk; clear hp hs own hk)
      rw [← HRR.out]
      exact ⟨_, _, _, rfl, HF.out⟩
    · intro k y c w1 cnt1 hky hc0 hc1 hlx hat hrg1 hlt hg1 hs1 hen
      have HE : Hid ((⟨k, y, c⟩ : Fc) ∈ factsJ L) := HD.out.rd.entry hky hat
      have HLX : Hid (left (kN k y) = true) := hlx
      have HLT : Hid (cnt1 < cnt) := hlt
      have HB1 : Hid (Below w.heap.size w w1) := HD.out.gr1 hg1
      have HO : Hid (OwnF w1 (w.heap.size + 1) (.slice ad n cap) n M) := HN.out ▸ HD.out.own1 hg1
      have HSZ : Hid (w.heap.size + 1 ≤ w1.heap.size) := Nat.succ_le_of_lt hrg1.lt
      have HRG : Hid (w1.ranges Try.prog 55 (plainElem Try.prog 30) b w.heap.size n0 D (fun z => left z && !z.sameKey (kN k y)) cnt1) := hrg1
      have HNL : Hid (n + 1 ≤ 100000) := by have := HD.out.ln; have := HN.out; have := HBL.out.2; show n + 1 ≤ 100000; omega
      have HOK : Hid (Fc.Ok ⟨k, y, c⟩) := ⟨hky.k0, hky.k1, hky.y0, hky.y1, hc0, hc1⟩
      clear hat hlx hky hc0 hc1 hs1 hrg hlt hg1 hrg1
      go_wp2_with (first
        | (at_builtin; go_must (refine wpList_appF _ rfl (.tmp 16) (.tmp 23) 27 rfl (w.heap.size + 1) Try.underlying27 infoF _ n M rfl ((HO.out.later (below1 _ _)).later (below1 _ _)) _ 1 1 [⟨k, y, c⟩] rfl (rowF_one (F3.newAt _ _ rfl k y c) (by simp) HOK.out) (n + 1) rfl (M ++ [⟨k, y, c⟩]) rfl HNL.out (by have := HSZ.out; simp; omega) ?_; intro a5 c5 W5 own5 hb5; have HO5 : Hid (OwnF W5 (w.heap.size + 1) (.slice a5 (n + 1) c5) (n + 1) (M ++ [⟨k, y, c⟩])) := own5; have HB5 : Hid (Below (w.heap.size + 1) w1 W5) := ((below2 w1 _ _).mono HSZ.out).trans hb5; clear own5 hb5))
        | go_in)
      have HK5 : Hid (n + 1 = (M ++ [(⟨k, y, c⟩ : Fc)]).length) := (HO5.out.len).symm
      have HF := HD.out.step HM.out HE.out HLX.out HLT.out HB5.out HB1.out HO5.out HRG.out HBL.out.1
      have HL2 : Hid (W5.rangeLeft b w.heap.size < wr.rangeLeft b w.heap.size) := by
        show _ < _
        rw [HF.rg.left_eq, HQ.out]; exact HLT.out
      have HF' : Hid (FacR w W5 b n0 L (fun z => left z && !z.sameKey (kN k y)) cnt1 D (M ++ [(⟨k, y, c⟩ : Fc)]) (.slice a5 (n + 1) c5)) := HF
      clear HF
      go_roundw
      case rel => exact ⟨_, _, _, (M ++ [(⟨k, y, c⟩ : Fc)]), a5, n + 1, c5, rfl, HK5, HF'⟩
      case measure => exact HL2.out
end
end Go.Proofs.Ytofmgkpghkeegaa
