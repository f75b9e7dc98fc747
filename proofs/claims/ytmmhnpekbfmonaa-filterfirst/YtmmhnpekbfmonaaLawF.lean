/- FilterFirst. -/
import Derived.Test.YtmmhnpekbfmonaaLawA
import Derived.Test.YtmmhnpekbfmonaaReg
import Derived.Deep.CutRange
import Derived.Deep.RegionLaw
namespace Go.Proofs.Ytmmhnpekbfmonaa
open Go.RowKit

theorem step_callf {P : Program} {ops : Array Oper} {o : Oper} {a : Act} {W : World} {K : Act → World → Prop} {Q : Exit → Act → World → Prop} {E : Prop} (hgd : o.guard = none) (f : FuncId) (xs : Array Operand) (ts : Array TypeId) (vals : Array Value)
    (ho : o.op = .call { callee := .value (.func f), args := xs, argTypes := ts }) (hf : (P.funcs[f]?).map (fun fn => fn.name == "runtime.NumGoroutine" || fn.body.isNone) = some false) (hv : xs.map a.eval = vals) (v : Value) (S : World → Prop)
    (hc : Calls P f vals W fun e W' => e = .returned v ∧ S W') (h : ∀ W', S W' → K (a.put o.dst v) W') : if Region.wanted o (yielded ops a.tmps) = true then Oper.wp P o a W K Q else E := by
  have hw : Region.wanted o (yielded ops a.tmps) = true := by simp [Region.wanted, hgd]
  rw [if_pos hw]
  exact wp_callf f xs ts vals ho hf hv (hc.mono fun e W' ⟨he, hs⟩ => ⟨v, he, h W' hs⟩)
theorem RowU.drop {W : World} {b off n : Nat} {L : List Ru} (h : RowU W (some ⟨b, off, none⟩) n L) (j : Nat) : RowU W (some ⟨b, off + j * 7, none⟩) (n - j) (L.drop j) := by
  refine ⟨by rw [List.length_drop, h.1], fun p hp => h.2.1 p (List.mem_of_mem_drop hp), fun i p hp => ?_⟩
  rw [List.getElem?_drop] at hp
  obtain ⟨b', off', e, h7⟩ := h.2.2 (j + i) p hp
  simp only [Option.some.injEq, Addr.mk.injEq, and_true] at e
  obtain ⟨rfl, rfl⟩ := e
  exact ⟨b, off + j * 7, rfl, by rw [show off + j * 7 + i * 7 = off + (j + i) * 7 by omega]; exact h7⟩
theorem FilC.per (C : FilC) {ad : Option Addr} {n cap : Nat} {L : List Ru} {qa ql : Int} {t : Nat} {w : World} (hr : RowU w ad n L) (hn : n ≤ 1000) (hqa : U32 qa) (hql : I64 ql) (ht : t < 65536) {b : Bool} {i : Int} (hb : perB qa ql t L = b) (hi : perI qa ql t L = i) :
    Calls Try.prog 9 #[.slice ad n cap, .agg #[.int .u32 qa, .int .i64 ql], .int .u16 (t : Int)] w fun e w' => e = .returned (.tuple #[.bool b, .int .i64 i]) ∧ Below w.heap.size w w' := by
  have := C.permits ad n cap L qa ql t w hr hn hqa hql ht
  rwa [hb, hi] at this
theorem rus_app {L M : List Ru} (h : Rus L) (h2 : Rus M) : Rus (L ++ M) := fun p hp => by
  rw [List.mem_append] at hp
  exact hp.elim (h p) (h2 p)
/-- What stands throughout: both rows, the prefix. -/
structure AtF (w : World) (ad : Option Addr) (n : Nat) (L : List Ru) (ad2 : Option Addr) (n2 : Nat) (M : List Ru) (qa ql : Int) (W : World) : Prop where
  r : RowU W ad n L
  r2 : RowU W ad2 n2 M
  x0 : W.cell? ⟨w.heap.size, 0, none⟩ = some (.int .u32 qa)
  x1 : W.cell? ⟨w.heap.size, 1, none⟩ = some (.int .i64 ql)
  b : Below w.heap.size w W
  lt : w.heap.size < W.heap.size
theorem AtF.later {w W W' : World} {ad : Option Addr} {n : Nat} {L : List Ru} {ad2 : Option Addr} {n2 : Nat} {M : List Ru} {qa ql : Int} (h : AtF w ad n L ad2 n2 M qa ql W) (hb : Below W.heap.size W W') : AtF w ad n L ad2 n2 M qa ql W' :=
  ⟨h.r.later hb, h.r2.later hb, cell_later hb h.x0, cell_later hb h.x1, stp h.b hb, Nat.lt_of_lt_of_le h.lt hb.size⟩
set_option maxRecDepth 100000 in
set_option maxHeartbeats 4000000 in
theorem law_first (C : FilC) (ad : Option Addr) (n cap : Nat) (L : List Ru) (ad2 : Option Addr) (n2 cap2 : Nat) (M : List Ru) (qa ql : Int) (t : Nat) (w : World) (hr : RowU w ad n L) (hcap : n ≤ cap) (hr2 : RowU w ad2 n2 M) (hqa : U32 qa) (hql : I64 ql) (ht : t < 65536) :
    Calls Try.prog 4 #[.slice ad n cap, .slice ad2 n2 cap2, valX qa ql, .int .u16 (t : Int)] w fun e w' => e = .returned (.bool true) ∧ Below w.heap.size w w' := by
  have HC : Hid FilC := C
  have HQ : Hid (U32 qa ∧ I64 ql) := ⟨hqa, hql⟩
  have h0 : AtF w ad n L ad2 n2 M qa ql (w.alloc (objX qa ql)) := ⟨hr.later (below1 _ _), hr2.later (below1 _ _), by simp [go_sem], by simp [go_sem], below1 _ _, by simp⟩
  have H0 : Hid (AtF w ad n L ad2 n2 M qa ql (w.alloc (objX qa ql))) := h0
  have HN : Hid (L.length = n ∧ M.length = n2 ∧ Rus L ∧ Rus M) := ⟨hr.1, hr2.1, hr.2.1, hr2.2.1⟩
  clear C hqa hql hr hr2 h0
  by_cases hall : n ≤ 100 ∧ n2 ≤ 100
  case neg =>
    have hway : (n : Int) > 100 ∨ ¬ (n : Int) > 100 ∧ (n2 : Int) > 100 := by omega
    rcases hway with k1 | ⟨k1, k2⟩
    all_goals clear hall
    all_goals
      go_enter Try.func4, Try.ntmps4
      go_wp2_with (go_at_call 8; refine (awake_any HC.out _).mono ?_; rintro e W1 ⟨rfl, hb1⟩)
      go_ret
      exact ⟨rfl, Below.out1 hb1⟩
  obtain ⟨k1, k2⟩ := hall
  have k1' : ¬ (n : Int) > 100 := by omega
  have k2' : ¬ (n2 : Int) > 100 := by omega
  obtain ⟨pb, hpb⟩ : ∃ c, perB qa ql t L = c := ⟨_, rfl⟩
  obtain ⟨pi, hpi⟩ : ∃ c, perI qa ql t L = c := ⟨_, rfl⟩
  have HP : Hid (perB qa ql t L = pb ∧ perI qa ql t L = pi) := ⟨hpb, hpi⟩
  obtain ⟨qb, hqb⟩ : ∃ c, perB qa ql t (L ++ M) = c := ⟨_, rfl⟩
  obtain ⟨qi, hqi⟩ : ∃ c, perI qa ql t (L ++ M) = c := ⟨_, rfl⟩
  have HPQ : Hid (perB qa ql t (L ++ M) = qb ∧ perI qa ql t (L ++ M) = qi) := ⟨hqb, hqi⟩
  clear hpb hpi hqb hqi
  go_enter Try.func4, Try.ntmps4
  go_upto_region 5 with (first
    | (go_at_call 8; refine (awake_any HC.out _).mono ?_; rintro e W1 ⟨rfl, hb1⟩; have HF1 : Hid (AtF w ad n L ad2 n2 M qa ql W1) := H0.out.later hb1; have x0 := HF1.out.x0; have x1 := HF1.out.x1)
    | (go_at_call 9; refine (HC.out.permits _ _ _ L qa ql t _ HF1.out.r (by omega) HQ.out.1 HQ.out.2 ht).mono ?_; rw [HP.out.1, HP.out.2]; rintro e W2 ⟨rfl, hb2⟩; have HF2 : Hid (AtF w ad n L ad2 n2 M qa ql W2) := HF1.out.later hb2))
  clear hb1 hb2 x0 x1
  have hway : pi = -1 ∧ pb = false ∧ fstR qa ql t L = none ∨ ∃ (j : Nat) (p : Ru), pi = (j : Int) ∧ pb = p.m ∧ fstR qa ql t L = some j ∧ L[j]? = some p ∧ j < n := by
    cases hf : fstR qa ql t L with
    | none => have := per_none hf; exact .inl ⟨HP.out.2.symm.trans this.1, HP.out.1.symm.trans this.2, rfl⟩
    | some j =>
      obtain ⟨p, hp, -, hj⟩ := fst_some hf
      have := per_some hf hp
      exact .inr ⟨j, p, HP.out.2.symm.trans this.1, HP.out.1.symm.trans this.2, rfl, hp, HN.out.1 ▸ hj⟩
  have H7 : pi = -1 ∧ pb = false ∨ 0 ≤ pi ∧ pi < n := by
    rcases hway with ⟨h, h', -⟩ | ⟨j, p, h, -, -, -, h2⟩
    · exact .inl ⟨h, h'⟩
    · exact .inr ⟨by omega, by omega⟩
  have HW : Hid (_) := hway
  clear hway
  go_cut [53] from 39 to 53 (fun s53 wx => s53 = .bool false ∧ wx = W2)
  case first =>
    have j1 : ¬ pi < -1 := by omega
    have j2 : ¬ pi ≥ (n : Int) := by omega
    cases pb
    · go_wp2_with fail
      go_meet
      exact ⟨rfl, rfl⟩
    · have j3 : ¬ pi < 0 := by
        rcases H7 with ⟨-, h⟩ | ⟨h, -⟩
        · cases h
        · omega
      go_wp2_with fail
      go_meet
      exact ⟨rfl, rfl⟩
  case rest =>
  obtain ⟨rfl, rfl⟩ := hcut
  rename World => W2
  go_upto_region 7 with fail
  have K0 : w.heap.size ≤ W2.heap.size := HF2.out.b.size
  have x0 := HF2.out.x0
  have x1 := HF2.out.x1
  go_cut [12, 13] from 54 to 63 (fun s12 s13 wx => s12 = .bool qb ∧ s13 = .int .i64 qi ∧ Hid (AtF w ad n L ad2 n2 M qa ql wx))
  case first =>
    go_region_law (first
      | (refine step_appU _ (by rfl) _ _ 22 (by rfl) W2.heap.size Try.underlying22 infoU _ 0 [] (by rfl) (ownU_nil _ _) ad n cap L (by rfl) (by first | exact HF2.out.r | exact HF2.out.r.later (Below.refl _ _).drew | exact HF2.out.r.later (Below.refl _ _).drew.drew) n (by omega) L (by rfl) (by omega) (by first | exact Nat.le_refl _ | simp) ?_; intro a5 c5 W5 own5 b5; have B5 : Hid (Below W2.heap.size W2 W5) := (by first | exact b5 | exact (Below.refl _ _).drew.trans b5 | exact (Below.refl _ _).drew.drew.trans b5); clear b5; have y0 := (HF2.out.later B5.out).x0; have y1 := (HF2.out.later B5.out).x1)
      | (refine step_appU _ (by rfl) _ _ 22 (by rfl) W2.heap.size Try.underlying22 infoU _ n L (by rfl) (by first | exact own5 | exact own5.later (Below.refl _ _).drew | exact own5.later (Below.refl _ _).drew.drew) ad2 n2 cap2 M (by rfl) (by first | exact (HF2.out.later B5.out).r2 | exact (HF2.out.later B5.out).r2.later (Below.refl _ _).drew | exact (HF2.out.later B5.out).r2.later (Below.refl _ _).drew.drew) (n + n2) (by rfl) (L ++ M) (by rfl) (by omega) (by have := B5.out.size; first | exact this | (simp; exact this)) ?_; intro a6 c6 W6 own6 b6; have B6 : Hid (Below W2.heap.size W2 W6) := (by first | exact B5.out.trans b6 | exact B5.out.drew.trans b6 | exact B5.out.drew.drew.trans b6); clear b6; have z0 := (HF2.out.later B6.out).x0; have z1 := (HF2.out.later B6.out).x1)
      | (refine step_callf (by rfl) 9 _ _ #[.slice a6 (n + n2) c6, .agg #[.int .u32 qa, .int .i64 ql], .int .u16 (t : Int)] (by rfl) (by kernel_rfl) (by kernel_rfl) (.tuple #[.bool qb, .int .i64 qi]) _ (HC.out.per (by first | exact own6.row (rus_app HN.out.2.2.1 HN.out.2.2.2) | exact (own6.row (rus_app HN.out.2.2.1 HN.out.2.2.2)).later (Below.refl _ _).drew | exact (own6.row (rus_app HN.out.2.2.1 HN.out.2.2.2)).later (Below.refl _ _).drew.drew) (by omega) HQ.out.1 HQ.out.2 ht HPQ.out.1 HPQ.out.2) ?_; intro W7 b7; have B7 : Hid (Below W2.heap.size W2 W7) := (by first | exact stp B6.out b7 | exact stp B6.out.drew b7 | exact stp B6.out.drew.drew b7); clear b7))
    all_goals
      go_wp2_with fail
      go_meet
      exact ⟨rfl, rfl, by first | exact HF2.out.later B7.out | exact HF2.out.later B7.out.drew | exact HF2.out.later B7.out.drew.drew⟩
  case rest =>
    obtain ⟨rfl, rfl, HF3⟩ := hcut
    rename World => W3
    clear x0 x1 K0 HF2
    have x0 := HF3.out.x0
    have x1 := HF3.out.x1
    rcases HW.out with ⟨rfl, rfl, hf⟩ | ⟨j, ⟨pm, pa, pl, pg, pe, ph, pn⟩, rfl, rfl, hf, hp, hj⟩
    · have hway : (∃ (k : Nat) (p : Ru), perB qa ql t M = p.m ∧ perI qa ql t M = (k : Int) ∧ qb = p.m ∧ qi = (k : Int) + (n : Int) ∧ k < n2) ∨ (perB qa ql t M = false ∧ perI qa ql t M = -1 ∧ qb = false ∧ qi = -1) := by
        have ha := fst_app (qa := qa) (ql := ql) (t := t) (L := L) M
        rw [hf] at ha
        simp only at ha
        cases hm : fstR qa ql t M with
        | none =>
          rw [hm] at ha
          have h1 := per_none hm
          have h2 := per_none (L := L ++ M) (by simpa using ha)
          exact .inr ⟨h1.2, h1.1, HPQ.out.1.symm.trans h2.2, HPQ.out.2.symm.trans h2.1⟩
        | some k =>
          rw [hm] at ha
          obtain ⟨p, hp, -, hk⟩ := fst_some hm
          have h1 := per_some hm hp
          have h2 := per_some (L := L ++ M) (i := k + L.length) (p := p) (by simpa using ha) (by rw [List.getElem?_append_right (by omega), Nat.add_sub_cancel]; exact hp)
          refine .inl ⟨k, p, h1.2, h1.1, HPQ.out.1.symm.trans h2.2, ?_, by have := HN.out.2.1; omega⟩
          have := HPQ.out.2.symm.trans h2.1
          rw [this, HN.out.1]; simp
      rcases hway with ⟨k, ⟨pm, pa, pl, pg, pe, ph, pn⟩, h1, h2, rfl, rfl, hk⟩ | ⟨h1, h2, rfl, rfl⟩
      all_goals have HM : Hid (_) := And.intro h1 h2
      all_goals clear h1 h2 hf
      all_goals
        go_wp2_with (go_at_call 9; refine (HC.out.per HF3.out.r2 (by omega) HQ.out.1 HQ.out.2 ht HM.out.1 HM.out.2).mono ?_; rintro e W8 ⟨rfl, hb8⟩; have HF8 : Hid (AtF w ad n L ad2 n2 M qa ql W8) := HF3.out.later hb8)
        go_ret
        exact ⟨rfl, HF8.out.b⟩
    · obtain ⟨rfl, rfl⟩ : qb = pb ∧ qi = (j : Int) := by
        have ha := fst_app (qa := qa) (ql := ql) (t := t) (L := L) M
        rw [hf] at ha
        have h2 := per_some (L := L ++ M) (i := j) (p := ⟨pb, pa, pl, pg, pe, ph, pn⟩) ha (by rw [List.getElem?_append_left (by have := HN.out.1; omega)]; exact hp)
        exact ⟨HPQ.out.1.symm.trans h2.2, HPQ.out.2.symm.trans h2.1⟩
      obtain ⟨p', b, off, he, -, rfl, h7⟩ := HF3.out.r.at hj
      obtain rfl : p' = ⟨qb, pa, pl, pg, pe, ph, pn⟩ := by rw [hp] at he; simpa using he.symm
      have HD : Hid (perB qa ql t (L.drop j) = qb ∧ perI qa ql t (L.drop j) = 0) := by
        have := per_some (fst_drop hf) (p := ⟨qb, pa, pl, pg, pe, ph, pn⟩) (by simpa using hp)
        exact ⟨this.2, this.1⟩
      have c0 := h7.1
      simp only at c0
      have hjn : (j : Int) ≤ (n : Int) := by omega
      have hcj : ¬ cap = j := by omega
      have HE : Hid (L[j]? = some ⟨qb, pa, pl, pg, pe, ph, pn⟩) := hp
      clear hf hp he h7
      go_upto_region 11 with fail
      go_cut [16, 17] from 96 to 104 (fun s16 s17 wx => s16 = .bool qb ∧ s17 = .int .i64 0 ∧ Hid (AtF w (some ⟨b, off, none⟩) n L ad2 n2 M qa ql wx))
      case first =>
        go_region_law (first
          | (refine step_callf (by rfl) 9 _ _ #[.slice (some ⟨b, off + j * 7, none⟩) (n - j) (cap - j), .agg #[.int .u32 qa, .int .i64 ql], .int .u16 (t : Int)] (by rfl) (by kernel_rfl) (by kernel_rfl) (.tuple #[.bool qb, .int .i64 0]) _ (HC.out.per (by first | exact HF3.out.r.drop j | exact (HF3.out.r.later (Below.refl _ _).drew).drop j | exact (HF3.out.r.later (Below.refl _ _).drew.drew).drop j) (by omega) HQ.out.1 HQ.out.2 ht HD.out.1 HD.out.2) ?_; intro W9 b9; have HF9 : Hid (AtF w (some ⟨b, off, none⟩) n L ad2 n2 M qa ql W9) := (by first | exact HF3.out.later b9 | exact HF3.out.later ((Below.refl _ _).drew.trans b9) | exact HF3.out.later ((Below.refl _ _).drew.drew.trans b9)); clear b9))
        all_goals
          go_wp2_with fail
          go_meet
          exact ⟨rfl, rfl, by first | exact HF9 | exact HF9.out.later (Below.refl _ _).drew⟩
      case rest =>
        obtain ⟨rfl, rfl, HF10⟩ := hcut
        clear c0 x0 x1
        obtain ⟨b', off', e, h7⟩ := HF10.out.r.2.2 j _ HE.out
        simp only [Option.some.injEq, Addr.mk.injEq, and_true] at e
        obtain ⟨rfl, rfl⟩ := e
        have c0 := h7.1
        simp only at c0
        have hlt' : (j : Int) < (n : Int) := by omega
        go_wp2
        go_ret
        exact ⟨rfl, HF10.out.b⟩
end Go.Proofs.Ytmmhnpekbfmonaa
