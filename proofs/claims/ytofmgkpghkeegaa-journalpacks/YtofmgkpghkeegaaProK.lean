/- The map of last numbers: its keys are structs of a kind and a key; it reads as the facts that were written. -/
import Derived.Test.YtofmgkpghkeegaaRowF
import Derived.Test.YtofmgkpghkeegaaKeepA
import Derived.DeepKeys4
import Derived.Maps.RangeWalk
import Derived.Maps.OwnSet
namespace Go.Proofs.Ytofmgkpghkeegaa
open Go.RowKit Go.Maps Go.ChangeShapes Go.WideShapes Go.WideMaps

theorem wf_u32 {n : Int} (h0 : 0 ≤ n) (h1 : n ≤ 4294967295) : (Lit.int .u32 n).wf = true := by
  have e1 : IntKind.u32.min = 0 := by decide
  have e2 : IntKind.u32.max = 4294967295 := by decide
  simp only [Lit.wf, e1, e2, Bool.and_eq_true, decide_eq_true_eq]
  omega
theorem wf_i64 {n : Int} (h0 : -9223372036854775808 ≤ n) (h1 : n ≤ 9223372036854775807) : (Lit.int .i64 n).wf = true := by
  have e1 : IntKind.i64.min = -9223372036854775808 := by decide
  have e2 : IntKind.i64.max = 9223372036854775807 := by decide
  simp only [Lit.wf, e1, e2, Bool.and_eq_true, decide_eq_true_eq]
  omega
theorem of_wf_u32 {n : Int} (h : (Lit.int .u32 n).wf = true) : 0 ≤ n ∧ n ≤ 4294967295 := by
  have e1 : IntKind.u32.min = 0 := by decide
  have e2 : IntKind.u32.max = 4294967295 := by decide
  simpa only [Lit.wf, e1, e2, Bool.and_eq_true, decide_eq_true_eq] using h
theorem of_wf_i64 {n : Int} (h : (Lit.int .i64 n).wf = true) : -9223372036854775808 ≤ n ∧ n ≤ 9223372036854775807 := by
  have e1 : IntKind.i64.min = -9223372036854775808 := by decide
  have e2 : IntKind.i64.max = 9223372036854775807 := by decide
  simpa only [Lit.wf, e1, e2, Bool.and_eq_true, decide_eq_true_eq] using h
abbrev nameV (k y : Int) : Value := .agg #[.int .i64 k, .int .u32 y]
theorem key_gen {P : Program} {kt ut it : TypeId} {f1 f2 : Field} (h1 : P.underlying kt = some (.struct #[f1, f2])) (h3 : P.underlying ut = some (.int .u32)) (h4 : P.underlying it = some (.int .i64))
    (t1 : f1.type = it) (o1 : f1.offset = 0) (t2 : f2.type = ut) (o2 : f2.offset = 1) (b1 : (f1.name != "_") = true) (b2 : (f2.name != "_") = true)
    (hk : P.keyType kt = true) (c1 : P.cellsOf kt = 2) (c3 : P.cellsOf ut = 1) (c4 : P.cellsOf it = 1) {n : Nat} (hn : P.types.size = n + 1) {k y : Int} (w1 : (Lit.int .i64 k).wf = true) (w2 : (Lit.int .u32 y).wf = true) :
    ∃ s, keyOf P kt (nameV k y) = some s := by
  have e3 : ∀ m, P.keyLits (m + 1) it [.int .i64 k] = some [.int .i64 k] := by intro m; simp [Program.keyLits, h4, w1]
  have e4 : ∀ m, P.keyLits (m + 1) ut [.int .u32 y] = some [.int .u32 y] := by intro m; simp [Program.keyLits, h3, w2]
  have e1 : ∀ m, P.keyLits (m + 2) kt [.int .i64 k, .int .u32 y] = some [.int .i64 k, .int .u32 y] := by
    intro m
    unfold Program.keyLits
    simp only [h1]
    simp [c1, t1, o1, t2, o2, b1, b2, c3, c4, e3 m, e4 m]
  have hf : (Value.agg #[.int .i64 k, .int .u32 y]).formed P kt = true := by simp [Value.formed, h1, c1]
  unfold keyOf
  rw [h1]
  simp [hk, hf, hn, Value.cells, e1 n]
theorem lits_i64 {P : Program} {it : TypeId} (h4 : P.underlying it = some (.int .i64)) {m : Nat} {a : Value} {ls : List Lit} (h : P.keyLits (m + 1) it [a] = some ls) : ∃ k, a = .int .i64 k ∧ (Lit.int .i64 k).wf = true := by
  unfold Program.keyLits at h
  rw [h4] at h
  cases a <;> simp at h
  obtain ⟨⟨rfl, h⟩, -⟩ := h
  exact ⟨_, rfl, h⟩
theorem lits_u32 {P : Program} {it : TypeId} (h4 : P.underlying it = some (.int .u32)) {m : Nat} {a : Value} {ls : List Lit} (h : P.keyLits (m + 1) it [a] = some ls) : ∃ k, a = .int .u32 k ∧ (Lit.int .u32 k).wf = true := by
  unfold Program.keyLits at h
  rw [h4] at h
  cases a <;> simp at h
  obtain ⟨⟨rfl, h⟩, -⟩ := h
  exact ⟨_, rfl, h⟩
theorem key_back {P : Program} {kt ut it : TypeId} {f1 f2 : Field} (h1 : P.underlying kt = some (.struct #[f1, f2])) (h3 : P.underlying ut = some (.int .u32)) (h4 : P.underlying it = some (.int .i64))
    (t1 : f1.type = it) (o1 : f1.offset = 0) (t2 : f2.type = ut) (o2 : f2.offset = 1) (c1 : P.cellsOf kt = 2) (c3 : P.cellsOf ut = 1) (c4 : P.cellsOf it = 1) {n : Nat} (hn : P.types.size = n + 1) {v : Value} {l : Lit} (h : keyOf P kt v = some l) :
    ∃ k y, v = nameV k y ∧ (Lit.int .i64 k).wf = true ∧ (Lit.int .u32 y).wf = true := by
  unfold keyOf at h
  simp only [h1] at h
  split at h
  · rename_i hf
    rw [Bool.and_eq_true] at hf
    have hf := hf.2
    obtain ⟨ls, hls, -⟩ := Option.map_eq_some_iff.1 h
    cases v with
    | agg cs =>
      simp only [Value.formed, h1, c1, beq_iff_eq] at hf
      obtain ⟨cs⟩ := cs
      match cs, hf with
      | [a, b], _ =>
          rw [hn] at hls
          have hls : P.keyLits (n + 1 + 1) kt [a, b] = some ls := hls
          unfold Program.keyLits at hls
          simp only [h1] at hls
          rw [Option.ite_none_right_eq_some] at hls
          obtain ⟨-, hls⟩ := hls
          simp only [Option.map_eq_some_iff] at hls
          obtain ⟨us, hus, -⟩ := hls
          simp only [List.mapM_cons, List.mapM_nil, t1, o1, t2, o2, c3, c4, List.drop_zero, List.drop_succ_cons, List.take_succ_cons, List.take_zero, Option.bind_eq_bind, Option.bind_eq_some_iff] at hus
          obtain ⟨u, hu, u1, ⟨u2, hu2, -⟩, -⟩ := hus
          obtain ⟨k, rfl, hk⟩ := lits_i64 h4 hu
          obtain ⟨y, rfl, hy⟩ := lits_u32 h3 hu2
          exact ⟨k, y, rfl, hk, hy⟩
    | _ => simp [Value.formed, h1] at hf
  · cases h
theorem laidOutK : laidOutB Try.prog = true := by kernel_rfl
theorem rowK : (55 : TypeId) < Try.prog.types.size := of_decide_eq_true (by kernel_rfl)
theorem wideK : (match Try.prog.underlying 55 with | some (.array _ _) | some (.struct _) => true | _ => false) = true := by rw [Try.underlying55]
theorem lawN : Keyed Try.prog 55 := Keyed.of_law (deep_law_laid laidOutK (m := 3) (by omega) rowK (by kernel_rfl) wideK)
structure KyOk (k y : Int) : Prop where
  k0 : -9223372036854775808 ≤ k
  k1 : k ≤ 9223372036854775807
  y0 : 0 ≤ y
  y1 : y ≤ 4294967295
theorem Fc.Ok.ky {f : Fc} (h : f.Ok) : KyOk f.k f.y := ⟨h.k0, h.k1, h.y0, h.y1⟩
theorem key_ok {k y : Int} (h : KyOk k y) : ∃ s, keyOf Try.prog 55 (nameV k y) = some s := by
  have h2 : (55 : Nat) < Try.prog.types.size := rowK
  obtain ⟨n, hn⟩ : ∃ n, Try.prog.types.size = n + 1 := ⟨Try.prog.types.size - 1, by omega⟩
  exact key_gen Try.underlying55 Try.underlying30 Try.underlying3 rfl rfl rfl rfl (by decide) (by decide) (by kernel_rfl) (by kernel_rfl) (by kernel_rfl) (by kernel_rfl) hn (wf_i64 h.k0 h.k1) (wf_u32 h.y0 h.y1)
theorem key_inv {v : Value} {l : Lit} (h : keyOf Try.prog 55 v = some l) : ∃ k y, v = nameV k y ∧ KyOk k y := by
  have h2 : (55 : Nat) < Try.prog.types.size := rowK
  obtain ⟨n, hn⟩ : ∃ n, Try.prog.types.size = n + 1 := ⟨Try.prog.types.size - 1, by omega⟩
  obtain ⟨k, y, e, hk, hy⟩ := key_back Try.underlying55 Try.underlying30 Try.underlying3 rfl rfl rfl rfl (by kernel_rfl) (by kernel_rfl) (by kernel_rfl) hn h
  have h3 := of_wf_i64 hk
  have h4 := of_wf_u32 hy
  exact ⟨k, y, e, h3.1, h3.2, h4.1, h4.2⟩
/-- What a kind and a key read as. -/
noncomputable def kN (k y : Int) : Lit := (keyOf Try.prog 55 (nameV k y)).getD (.bool false)
theorem kN_is {k y : Int} (h : KyOk k y) : keyOf Try.prog 55 (nameV k y) = some (kN k y) := by
  obtain ⟨s, hs⟩ := key_ok h
  unfold kN
  rw [hs]
  rfl
theorem kN_lit {k y : Int} (h : KyOk k y) : WideAt.IsKeyLit (kN k y) := lawN.key (kN_is h)
theorem kN_inj {k y k' y' : Int} (h : KyOk k y) (h' : KyOk k' y') (e : kN k y = kN k' y') : k = k' ∧ y = y' := by
  have h1 := lawN.inj (kN_is h) (e ▸ kN_is h')
  simp only [nameV, Value.agg.injEq] at h1
  injection h1 with h1
  simp only [List.cons.injEq, Value.int.injEq, true_and, and_true] at h1
  exact h1
theorem kN_same {k y k' y' : Int} (h : KyOk k y) (h' : KyOk k' y') : (kN k y).sameKey (kN k' y') = decide (k = k' ∧ y = y') := by
  by_cases e : k = k' ∧ y = y'
  · obtain ⟨rfl, rfl⟩ := e
    simp [WideAt.sameKey_self (kN_lit h)]
  · rw [Maps.sameKey_ne (fun e' => e (kN_inj h h' e'))]; simp [e]
/-- The map reads as the facts that were written. -/
structure Rd (D : DataW Unit) (L : List Fc) : Prop where
  has : ∀ k y, KyOk k y → Maps.has D (kN k y) = isF k y L
  rd : ∀ k y n, KyOk k y → lastF k y L = some n → ∀ zd, D.atKey (kN k y) zd = .lit (.int .u32 n)
theorem rd_nil : Rd (.map []) [] := ⟨fun _ _ _ => rfl, fun _ _ _ _ h => by cases h⟩
theorem Rd.put {D : DataW Unit} {L : List Fc} (h : Rd D L) (hD : IsMap D) {f : Fc} (hf : f.Ok) : Rd (D.put (kN f.k f.y) (.lit (.int .u32 f.n))) (L ++ [f]) := by
  refine ⟨fun k y hk => ?_, fun k y n hk hl zd => ?_⟩
  · unfold isF
    rw [lastF_snoc]
    by_cases e : f.k = k ∧ f.y = y
    · obtain ⟨rfl, rfl⟩ := e
      rw [Maps.has_put_same hD (kN_lit hf.ky)]; simp
    · rw [if_neg e, Maps.has_put_other (fun e' => e (by have := kN_inj hk hf.ky e'; exact ⟨this.1.symm, this.2.symm⟩)), h.has k y hk]; rfl
  · rw [lastF_snoc] at hl
    by_cases e : f.k = k ∧ f.y = y
    · rw [if_pos e] at hl
      obtain ⟨rfl, rfl⟩ := e
      simp only [Option.some.injEq] at hl
      subst hl
      exact Maps.atKey_put_same hD (kN_lit hf.ky) _ _
    · rw [if_neg e] at hl
      rw [Maps.atKey_put_other (fun e' => e (by have := kN_inj hk hf.ky e'; exact ⟨this.1.symm, this.2.symm⟩))]
      exact h.rd k y n hk hl zd
/-- What a look-up tells. -/
theorem Rd.num {D : DataW Unit} {L : List Fc} (h : Rd D L) {k y c : Int} (hk : KyOk k y) (hc : D.atKey (kN k y) (.lit (.int .u32 0)) = .lit (.int .u32 c)) : c = numF k y L := by
  unfold numF
  cases hl : lastF k y L with
  | some n =>
    rw [h.rd k y n hk hl] at hc
    injection hc with hc
    injection hc with _ hc
    exact hc.symm
  | none =>
    have h0 : Maps.has D (kN k y) = false := by rw [h.has k y hk]; unfold isF; rw [hl]; rfl
    rw [Maps.atKey_of_not_has h0] at hc
    injection hc with hc
    injection hc with _ hc
    exact hc.symm
theorem Rd.same {D : DataW Unit} {L L' : List Fc} (h : Rd D L) (e : ∀ k y, lastF k y L' = lastF k y L) : Rd D L' :=
  ⟨fun k y hk => by rw [h.has k y hk]; unfold isF; rw [e], fun k y n hk hl => h.rd k y n hk (by rw [← e]; exact hl)⟩
/-- An entry of the map is one of the facts. -/
theorem Rd.entry {D : DataW Unit} {L : List Fc} (h : Rd D L) {k y c : Int} (hk : KyOk k y) (ha : ∀ zd, D.atKey (kN k y) zd = .lit (.int .u32 c)) : (⟨k, y, c⟩ : Fc) ∈ factsJ L := by
  rw [factsJ_mem]
  have h1 : isF k y L = true := (h.has k y hk).symm.trans (Maps.has_true_of_atKey ha)
  unfold isF at h1
  obtain ⟨n, hn⟩ := Option.isSome_iff_exists.1 h1
  have h2 := h.rd k y n hk hn (.lit (.int .u32 0))
  rw [ha] at h2
  injection h2 with h2
  injection h2 with _ h2
  rw [hn, h2]
/-- Those that have come, no matter in which order. -/
structure Got (left : Lit → Bool) (L M : List Fc) : Prop where
  nd : M.Nodup
  mem : ∀ p, p ∈ M ↔ p ∈ factsJ L ∧ left (kN p.k p.y) = false
theorem got_start {D : DataW Unit} {L : List Fc} (h : Rd D L) (hL : Fcs L) : Got (Maps.has D) L [] :=
  ⟨List.nodup_nil, fun p => ⟨(fun h => by cases h), fun ⟨h1, h2⟩ => by
    rw [h.has _ _ (factsJ_sub hL p h1).ky] at h2
    unfold isF at h2
    rw [factsJ_mem.1 h1] at h2
    cases h2⟩⟩
theorem Got.step {left : Lit → Bool} {L M : List Fc} (h : Got left L M) (hL : Fcs L) {k y c : Int} (hm : (⟨k, y, c⟩ : Fc) ∈ factsJ L) (hl : left (kN k y) = true) : Got (fun z => left z && !z.sameKey (kN k y)) L (M ++ [⟨k, y, c⟩]) := by
  have hx : (⟨k, y, c⟩ : Fc) ∉ M := fun h1 => by have := ((h.mem _).1 h1).2; rw [hl] at this; cases this
  have hky := (factsJ_sub hL _ hm).ky
  refine ⟨?_, fun p => ?_⟩
  · rw [List.nodup_append]
    refine ⟨h.nd, by simp, fun a ha b hb e => ?_⟩
    simp at hb
    subst hb e
    exact hx ha
  · rw [List.mem_append, h.mem, List.mem_singleton]
    constructor
    · rintro (⟨h2, h4⟩ | rfl)
      · exact ⟨h2, by simp [h4]⟩
      · exact ⟨hm, by simp [WideAt.sameKey_self (kN_lit hky)]⟩
    · rintro ⟨h2, h4⟩
      simp only [Bool.and_eq_false_iff, Bool.not_eq_false'] at h4
      rcases h4 with h4 | h4
      · exact .inl ⟨h2, h4⟩
      · rw [kN_same (factsJ_sub hL p h2).ky hky, decide_eq_true_eq] at h4
        exact .inr (srtF_key (factsJ_srt L) h2 hm h4.1 h4.2)
/-- When none is left, what was got, sorted, are the facts. -/
theorem Got.sorted {left : Lit → Bool} {L M S : List Fc} (h : Got left L M) (h0 : ∀ kl, left kl = false) (hp : S.Perm M) (hS : S.Pairwise fun x y => ¬ y.lt x) : S = factsJ L := by
  have hn : S.Nodup := hp.nodup_iff.2 h.nd
  have hmem : ∀ p, p ∈ S ↔ p ∈ factsJ L := fun p => by rw [hp.mem_iff, h.mem]; simp [h0]
  refine srtF_ext ?_ (factsJ_srt L) hmem
  have h2 := hS.and hn
  refine List.Pairwise.imp_of_mem ?_ h2
  intro a b ha hb hab
  have h3 : ¬ (a.k = b.k ∧ a.y = b.y) := fun e => hab.2 (srtF_key (factsJ_srt L) ((hmem a).1 ha) ((hmem b).1 hb) e.1 e.2)
  have h4 := hab.1
  unfold Fc.lt at *
  omega
end Go.Proofs.Ytofmgkpghkeegaa
