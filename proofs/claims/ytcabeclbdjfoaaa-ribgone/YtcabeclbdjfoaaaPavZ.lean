/- The contract of the program's pave. -/
import Derived.Test.YtcabeclbdjfoaaaPrtZ
import Derived.Maps.AppendAt
namespace Go.Proofs.Ytcabeclbdjfoaaa
open Go.RowKit

theorem Keep.setCell' {B : Nat → Prop} {a w : World} (h : Keep B a w) {p : Addr} (hp : B p.block ∨ a.heap.size ≤ p.block) (u : Value) : Keep B a (w.setCell p u) := by
  refine ⟨h.os, h.tape, h.output, by simpa [World.setCell] using h.size, fun k hk hn => (Below.heap_setCell _ _ _ _ (fun e => ?_)).trans (h.block k hk hn)⟩
  rcases hp with hp | hp
  · exact hn (by rw [e]; exact hp)
  · omega
theorem Keep.grown {B : Nat → Prop} {a w w' : World} {g : Nat} (h : Keep B a w) (hg : w.grownBy w' (some g)) (hB : B g ∨ a.heap.size ≤ g) : Keep B a w' := by
  refine ⟨hg.os.trans h.os, hg.tape.trans h.tape, hg.output.trans h.output, Nat.le_trans h.size hg.size, fun k hk hn => (hg.block k (Nat.lt_of_lt_of_le hk h.size) (fun e => ?_)).trans (h.block k hk hn)⟩
  simp only [Option.some.injEq] at e
  subst e
  rcases hB with hB | hB
  · exact hn hB
  · omega
theorem TrM.grow {W W' : World} {N g cap g' c' n : Nat} {most cnt : Int} {ns : List Nd} {y : Nd} (h : TrM W N g cap most cnt ns) (hn : ns.length = n) (hg : W.grownBy W' (some g)) (own : OwnN W' 0 (.slice (some ⟨g', 0, none⟩) (n + 1) c') (n + 1) (ns ++ [y])) (hat : g' = g ∨ g' = W.heap.size) :
    W'.cell? ⟨N, 0, none⟩ = some (.slice (some ⟨g, 0, none⟩) n cap) ∧ (∀ o, W'.frozen? ⟨N, o, none⟩ = false) ∧ TrM (W'.setCell ⟨N, 0, none⟩ (.slice (some ⟨g', 0, none⟩) (n + 1) c')) N g' c' most cnt (ns ++ [y]) := by
  have hne := h.ne
  have hlt := h.lt
  have hb : W'.heap[N]? = W.heap[N]? := hg.block N hlt (by simp; exact hne)
  have hne' : N ≠ g' := by rcases hat with e | e <;> omega
  have c0 : W'.cell? ⟨N, 0, none⟩ = some (.slice (some ⟨g, 0, none⟩) n cap) := (World.cell?_of_block (a := ⟨N, 0, none⟩) hb).trans (by rw [← hn]; exact h.c0)
  have fz : ∀ o, W'.frozen? ⟨N, o, none⟩ = false := fun o => (World.frozen?_of_block (a := ⟨N, o, none⟩) hb).trans (h.fz o)
  have hl : (ns ++ [y]).length = n + 1 := by simp [hn]
  refine ⟨c0, fz, ?_, ?_, ?_, fun o => ?_, ?_, hne', ?_⟩
  · rw [hl]; exact World.cell?_setCell_same _ _ _ c0
  · rw [World.cell?_setCell_other _ _ _ _ (by simp)]; exact (World.cell?_of_block (a := ⟨N, 1, none⟩) hb).trans h.c1
  · rw [World.cell?_setCell_other _ _ _ _ (by simp)]; exact (World.cell?_of_block (a := ⟨N, 2, none⟩) hb).trans h.c2
  · rw [World.frozen?_setCell]; exact fz o
  · rw [hl]
    exact own.same fun k hk => by
      simp only [Value.ownBlock, Option.some.injEq] at hk
      subst hk
      exact Below.heap_setCell _ _ _ _ (fun e => hne' e.symm)
  · have := hg.size
    simp [World.setCell]
    omega
theorem wpList_appNg {W : World} {ops : Array Oper} {rest : List Oper} {o : Oper} {a : Act} {Q : Exit → Act → World → Prop} (hgd : o.guard = none) (s x : Operand)
    (ho : o.op = .call { callee := .builtin .append, args := #[s, x], argTypes := #[80, 80] }) (g n cap : Nat) (es : List Nd) (hs : a.eval s = .slice (some ⟨g, 0, none⟩) n cap) (hown : OwnN W 0 (.slice (some ⟨g, 0, none⟩) n cap) n es) (M c : Nat) (e : Nd) (hx : a.eval x = .slice (some ⟨M, 0, none⟩) 1 c) (h2 : N5 W M 0 e) (hlen : n + 1 ≤ 100000)
    (h : ∀ g' c' w', OwnN w' 0 (.slice (some ⟨g', 0, none⟩) (n + 1) c') (n + 1) (es ++ [e]) → W.grownBy w' (some g) → (g' = g ∨ g' = W.heap.size) → wpList Try.prog ops Q rest (a.put o.dst (.slice (some ⟨g', 0, none⟩) (n + 1) c')) w') : wpList Try.prog ops Q (o :: rest) a W := by
  obtain ⟨i, hi, hzz⟩ := Option.map_eq_some_iff.1 infoN
  simp only [Prod.mk.injEq] at hzz
  obtain ⟨hz0, hz1, hz2⟩ := hzz
  refine wpList_append_own_at W hgd s x 80 ho 0 90 i _ 5 40 Try.underlying80 hi hz0 hz1 hz2 rfl (by decide) _ n _ hs hown ⟨M, 0, none⟩ 1 c ([e].flatMap Nd.cs) hx (by rw [csN_flat_len]; rfl) ?_ ?_ (by unfold maxLen; omega) (by omega) (Nat.zero_le _) ?_
  · intro j u hj
    obtain ⟨c0, c1, c2, c3, c4⟩ := h2
    rw [Go.WideShapes.add_plain]
    simp only [List.flatMap_cons, List.flatMap_nil, List.append_nil] at hj
    match j, hj with
    | 0, hj => simp [Nd.cs] at hj; rw [← hj]; exact c0
    | 1, hj => simp [Nd.cs] at hj; rw [← hj]; exact c1
    | 2, hj => simp [Nd.cs] at hj; rw [← hj]; exact c2
    | 3, hj => simp [Nd.cs] at hj; rw [← hj]; exact c3
    | 4, hj => simp [Nd.cs] at hj; rw [← hj]; exact c4
    | j + 5, hj => simp [Nd.cs] at hj
  · intro u hu
    simp [Nd.cs] at hu
    rcases hu with rfl | rfl | rfl | rfl | rfl <;> rfl
  · intro v' w' hown' hgr _ hat
    rcases hown'.2 with ⟨_, h0⟩ | ⟨g', c', cur, hv, _⟩
    · omega
    · subst hv
      refine h g' c' w' ?_ hgr ?_
      · unfold OwnN; rw [List.flatMap_append]; exact hown'
      · simpa [Value.ownBlock] using hat
/-- What pave answers. -/
def PaveD (w : World) (N g0 n0 : Nat) (most cnt : Int) (L : List Pr) (a : Int) (m : Nat) (e : Ending) (w' : World) : Prop :=
  ∃ (i g cap : Nat) (ns : List Nd) (ws : Nat → List Bool), e = .returned (.int .i64 (i : Int)) ∧ TrM w' N g cap most cnt ns ∧ Good ns ws ∧ Holds ns ws L ∧ i < ns.length ∧ ws i = wayX a m ∧ ns.length ≤ n0 + m ∧ (g = g0 ∨ w.heap.size ≤ g) ∧ Keep (twoB N g0) w w'
def PaJ (w : World) (N g0 n0 : Nat) (most cnt : Int) (L : List Pr) (a : Int) (m : Nat) (x : Act) (W : World) : Prop :=
  ∃ (i k g cap : Nat) (ns : List Nd) (ws : Nat → List Bool) (u1 u2 u4 u7 u8 u9 u10 u11 u12 u13 u14 u15 u16 u17 u18 u19 u20 u21 u22 u23 u24 u25 u26 u27 u28 u29 u30 u31 u32 u33 u34 u35 u36 u37 u38 u39 u40 u41 u42 u43 u44 u45 u46 u47 u48 u49 u50 u51 u52 u53 u54 u55 u56 u57 u58 u59 u60 u61 u62 u63 u64 : Value), x = { tmps := #[.pointer (some ⟨N, 0, none⟩), u1, u2, .pointer (some ⟨w.heap.size, 0, none⟩), u4, .int .i64 (i : Int), .int .i64 (k : Int), u7, u8, u9, u10, u11, u12, u13, u14, u15, u16, u17, u18, u19, u20, u21, u22, u23, u24, u25, u26, u27, u28, u29, u30, u31, u32, u33, u34, u35, u36, u37, u38, u39, u40, u41, u42, u43, u44, u45, u46, u47, u48, u49, u50, u51, u52, u53, u54, u55, u56, u57, u58, u59, u60, u61, u62, u63, u64], defers := [] } ∧ TrM W N g cap most cnt ns ∧ Good ns ws ∧ Holds ns ws L ∧ i < ns.length ∧ k ≤ m ∧ ws i = wayX a k ∧ ns.length ≤ n0 + k ∧ (g = g0 ∨ w.heap.size + 1 ≤ g) ∧ Keep (twoB N g0) (w.alloc (objX a (m : Int))) W
noncomputable def restPa : Code := Code.second ((Try.f53.body.bind afterScope).getD .skip)
def slot6 (x : Act) : Nat := (intOf (x.tmps.getD 6 undef)).toNat
set_option maxRecDepth 100000 in
set_option maxHeartbeats 4000000 in
theorem pave_end (w : World) (N g0 n0 : Nat) (most cnt : Int) (L : List Pr) (a : Int) (m : Nat) (_hNw : N < w.heap.size) (_hgw : g0 < w.heap.size) (_hn0 : n0 ≤ 60000) (_ha0 : 0 ≤ a) (_hm : m ≤ 32) (q i k g cap : Nat) (ns : List Nd) (ws : Nat → List Bool) (u1 u2 u4 u7 u8 u9 u10 u11 u12 u13 u14 u15 u16 u17 u18 u19 u20 u21 u22 u23 u24 u25 u26 u27 u28 u29 u30 u31 u32 u33 u34 u35 u36 u37 u38 u39 u40 u41 u42 u43 u44 u45 u46 u47 u48 u49 u50 u51 u52 u53 u54 u55 u56 u57 u58 u59 u60 u61 u62 u63 u64 : Value) (hq : k = q) (W : World) (hT : TrM W N g cap most cnt ns) (hG : Good ns ws) (hH : Holds ns ws L) (hi : i < ns.length) (_hk : k ≤ m) (hw : ws i = wayX a k) (hl : ns.length ≤ n0 + k) (hg : g = g0 ∨ w.heap.size + 1 ≤ g) (hK : Keep (twoB N g0) (w.alloc (objX a (m : Int))) W) (y : Nd) (hy : ns[i]? = some y) (hkm : k = m) :
    Code.wp Try.prog restPa (Exit.jump 0 (fun a' w' => PaJ w N g0 n0 most cnt L a m a' w' ∧ m - slot6 a' < m - q) (bodyPost Try.prog Try.f53 (PaveD w N g0 n0 most cnt L a m))) { tmps := #[.pointer (some ⟨N, 0, none⟩), u1, u2, .pointer (some ⟨w.heap.size, 0, none⟩), u4, .int .i64 (i : Int), .int .i64 (k : Int), u7, u8, u9, u10, u11, u12, u13, u14, u15, u16, u17, u18, u19, u20, u21, u22, u23, u24, u25, u26, u27, u28, u29, u30, u31, u32, u33, u34, u35, u36, u37, u38, u39, u40, u41, u42, u43, u44, u45, u46, u47, u48, u49, u50, u51, u52, u53, u54, u55, u56, u57, u58, u59, u60, u61, u62, u63, u64], defers := [] } W := by
  have HK : Hid (Keep (twoB N g0) (w.alloc (objX a (m : Int))) W) := hK
  have HT : Hid (TrM W N g cap most cnt ns) := hT
  have HG : Hid (Good ns ws) := hG
  have HH : Hid (Holds ns ws L) := hH
  have HW : Hid (ws i = wayX a k) := hw
  have HGg : Hid (g = g0 ∨ w.heap.size + 1 ≤ g) := hg
  have HQ : Hid (k = q) := hq
  have z0 := hT.c0
  have ca := (hT.cap_le).1
  have HY : Hid (ns[i]? = some y) := hy
  obtain ⟨d0, d1, -, -, -⟩ := hT.at hy
  have hnB : ¬ twoB N g0 w.heap.size := by rintro (h | h) <;> omega
  have hws : w.heap.size < W.heap.size := by have := hK.size; simp at this; omega
  have x0 : W.cell? ⟨w.heap.size, 0, none⟩ = some (.int .u32 a) := (hK.cell (p := ⟨w.heap.size, 0, none⟩) (by simp) hnB).trans (by simp [go_sem])
  have x1 : W.cell? ⟨w.heap.size, 1, none⟩ = some (.int .i64 (m : Int)) := (hK.cell (p := ⟨w.heap.size, 1, none⟩) (by simp) hnB).trans (by simp [go_sem])
  obtain ⟨n, hn⟩ : ∃ n, ns.length = n := ⟨_, rfl⟩
  have HN : Hid (ns.length = n) := hn
  have HL : Hid (n ≤ n0 + k) := by unfold Hid; rw [← hn]; exact hl
  rw [hn] at z0 hi ca
  have hi' : (i : Int) < (n : Int) := by omega
  clear hT hG hH hw hl hg hK hq hy hn hnB d0 d1 _hn0 _ha0 _hm _hgw _hNw
  conv => arg 2; whnf
  subst hkm
  go_wp2
  simp only [Exit.jump]
  go_ret
  exact ⟨i, g, cap, ns, ws, rfl, HT.out, HG.out, HH.out, by rw [HN.out]; exact hi, HW.out, by rw [HN.out]; exact HL.out, by rcases HGg.out with h | h; exact .inl h; exact .inr (by omega), keep_then (below1 _ _) HK.out⟩
set_option maxRecDepth 100000 in
set_option maxHeartbeats 4000000 in
theorem pave_old0 (w : World) (N g0 n0 : Nat) (most cnt : Int) (L : List Pr) (a : Int) (m : Nat) (_hNw : N < w.heap.size) (_hgw : g0 < w.heap.size) (_hn0 : n0 ≤ 60000) (_ha0 : 0 ≤ a) (_hm : m ≤ 32) (q i k g cap : Nat) (ns : List Nd) (ws : Nat → List Bool) (u1 u2 u4 u7 u8 u9 u10 u11 u12 u13 u14 u15 u16 u17 u18 u19 u20 u21 u22 u23 u24 u25 u26 u27 u28 u29 u30 u31 u32 u33 u34 u35 u36 u37 u38 u39 u40 u41 u42 u43 u44 u45 u46 u47 u48 u49 u50 u51 u52 u53 u54 u55 u56 u57 u58 u59 u60 u61 u62 u63 u64 : Value) (hq : k = q) (W : World) (hT : TrM W N g cap most cnt ns) (hG : Good ns ws) (hH : Holds ns ws L) (hi : i < ns.length) (_hk : k ≤ m) (hw : ws i = wayX a k) (hl : ns.length ≤ n0 + k) (hg : g = g0 ∨ w.heap.size + 1 ≤ g) (hK : Keep (twoB N g0) (w.alloc (objX a (m : Int))) W) (y : Nd) (hy : ns[i]? = some y) (hkm : k < m) (hs : bitX a k = false) (hc0 : y.kid false ≠ 0) :
    Code.wp Try.prog restPa (Exit.jump 0 (fun a' w' => PaJ w N g0 n0 most cnt L a m a' w' ∧ m - slot6 a' < m - q) (bodyPost Try.prog Try.f53 (PaveD w N g0 n0 most cnt L a m))) { tmps := #[.pointer (some ⟨N, 0, none⟩), u1, u2, .pointer (some ⟨w.heap.size, 0, none⟩), u4, .int .i64 (i : Int), .int .i64 (k : Int), u7, u8, u9, u10, u11, u12, u13, u14, u15, u16, u17, u18, u19, u20, u21, u22, u23, u24, u25, u26, u27, u28, u29, u30, u31, u32, u33, u34, u35, u36, u37, u38, u39, u40, u41, u42, u43, u44, u45, u46, u47, u48, u49, u50, u51, u52, u53, u54, u55, u56, u57, u58, u59, u60, u61, u62, u63, u64], defers := [] } W := by
  have HK : Hid (Keep (twoB N g0) (w.alloc (objX a (m : Int))) W) := hK
  have HT : Hid (TrM W N g cap most cnt ns) := hT
  have HG : Hid (Good ns ws) := hG
  have HH : Hid (Holds ns ws L) := hH
  have HW : Hid (ws i = wayX a k) := hw
  have HGg : Hid (g = g0 ∨ w.heap.size + 1 ≤ g) := hg
  have HQ : Hid (k = q) := hq
  have z0 := hT.c0
  have ca := (hT.cap_le).1
  have HY : Hid (ns[i]? = some y) := hy
  obtain ⟨d0, d1, -, -, -⟩ := hT.at hy
  have hnB : ¬ twoB N g0 w.heap.size := by rintro (h | h) <;> omega
  have hws : w.heap.size < W.heap.size := by have := hK.size; simp at this; omega
  have x0 : W.cell? ⟨w.heap.size, 0, none⟩ = some (.int .u32 a) := (hK.cell (p := ⟨w.heap.size, 0, none⟩) (by simp) hnB).trans (by simp [go_sem])
  have x1 : W.cell? ⟨w.heap.size, 1, none⟩ = some (.int .i64 (m : Int)) := (hK.cell (p := ⟨w.heap.size, 1, none⟩) (by simp) hnB).trans (by simp [go_sem])
  obtain ⟨n, hn⟩ : ∃ n, ns.length = n := ⟨_, rfl⟩
  have HN : Hid (ns.length = n) := hn
  have HL : Hid (n ≤ n0 + k) := by unfold Hid; rw [← hn]; exact hl
  rw [hn] at z0 hi ca
  have hi' : (i : Int) < (n : Int) := by omega
  have hlt : k < m := by omega
  have hne' : ((k : Int) == (m : Int)) = false := by rw [beq_eq_false_iff_ne]; omega
  have hk32 : k ≤ 32 := by omega
  have HBt : Hid (bitI a k = 0) := by unfold Hid; rw [bit_val _ha0 (by omega), hs]; rfl
  obtain ⟨c, hc⟩ : ∃ c, y.a = c := ⟨_, rfl⟩
  have HC : Hid (y.kid false = c) := hc
  have hc0' : ((c : Int) == 0) = false := by rw [beq_eq_false_iff_ne]; rw [← hc]; have : y.a ≠ 0 := hc0; omega
  have HA : Hid (c < n ∧ ws c = wayX a (k + 1)) := by
    obtain ⟨z, h1, h2, -⟩ := HG.out.k i y HY.out false hc0
    rw [HC.out] at h1 h2
    exact ⟨by rw [← HN.out]; exact lt_of_at h1, by rw [h2, HW.out, wayX, hs]⟩
  rw [hc] at d0
  clear hT hG hH hw hl hg hK hq hy hn hnB d1 _hn0 _ha0 _hm _hgw _hNw hkm hs hc0 hc
  conv => arg 2; whnf
  go_wp2_with (go_at_call 58; refine (bit_any _ _ _ hk32 HBt.out).mono ?_; rintro e w_ ⟨rfl, rfl⟩)
  go_step3
  refine ⟨rfl, ⟨c, k + 1, g, cap, ns, ws, _, _, _, _, _, _, _, _, _, _, _, _, _, _, _, _, _, _, _, _, _, _, _, _, _, _, _, _, _, _, _, _, _, _, _, _, _, _, _, _, _, _, _, _, _, _, _, _, _, _, _, _, _, _, _, _, _, _, _, _, _, rfl, HT.out, HG.out, HH.out, by rw [HN.out]; exact HA.out.1, by omega, HA.out.2, by rw [HN.out]; have := HL.out; omega, HGg.out, HK.out⟩, ?_⟩
  have := HQ.out
  simp [slot6, intOf]
  omega
set_option maxRecDepth 100000 in
set_option maxHeartbeats 4000000 in
theorem pave_old1 (w : World) (N g0 n0 : Nat) (most cnt : Int) (L : List Pr) (a : Int) (m : Nat) (_hNw : N < w.heap.size) (_hgw : g0 < w.heap.size) (_hn0 : n0 ≤ 60000) (_ha0 : 0 ≤ a) (_hm : m ≤ 32) (q i k g cap : Nat) (ns : List Nd) (ws : Nat → List Bool) (u1 u2 u4 u7 u8 u9 u10 u11 u12 u13 u14 u15 u16 u17 u18 u19 u20 u21 u22 u23 u24 u25 u26 u27 u28 u29 u30 u31 u32 u33 u34 u35 u36 u37 u38 u39 u40 u41 u42 u43 u44 u45 u46 u47 u48 u49 u50 u51 u52 u53 u54 u55 u56 u57 u58 u59 u60 u61 u62 u63 u64 : Value) (hq : k = q) (W : World) (hT : TrM W N g cap most cnt ns) (hG : Good ns ws) (hH : Holds ns ws L) (hi : i < ns.length) (_hk : k ≤ m) (hw : ws i = wayX a k) (hl : ns.length ≤ n0 + k) (hg : g = g0 ∨ w.heap.size + 1 ≤ g) (hK : Keep (twoB N g0) (w.alloc (objX a (m : Int))) W) (y : Nd) (hy : ns[i]? = some y) (hkm : k < m) (hs : bitX a k = true) (hc0 : y.kid true ≠ 0) :
    Code.wp Try.prog restPa (Exit.jump 0 (fun a' w' => PaJ w N g0 n0 most cnt L a m a' w' ∧ m - slot6 a' < m - q) (bodyPost Try.prog Try.f53 (PaveD w N g0 n0 most cnt L a m))) { tmps := #[.pointer (some ⟨N, 0, none⟩), u1, u2, .pointer (some ⟨w.heap.size, 0, none⟩), u4, .int .i64 (i : Int), .int .i64 (k : Int), u7, u8, u9, u10, u11, u12, u13, u14, u15, u16, u17, u18, u19, u20, u21, u22, u23, u24, u25, u26, u27, u28, u29, u30, u31, u32, u33, u34, u35, u36, u37, u38, u39, u40, u41, u42, u43, u44, u45, u46, u47, u48, u49, u50, u51, u52, u53, u54, u55, u56, u57, u58, u59, u60, u61, u62, u63, u64], defers := [] } W := by
  have HK : Hid (Keep (twoB N g0) (w.alloc (objX a (m : Int))) W) := hK
  have HT : Hid (TrM W N g cap most cnt ns) := hT
  have HG : Hid (Good ns ws) := hG
  have HH : Hid (Holds ns ws L) := hH
  have HW : Hid (ws i = wayX a k) := hw
  have HGg : Hid (g = g0 ∨ w.heap.size + 1 ≤ g) := hg
  have HQ : Hid (k = q) := hq
  have z0 := hT.c0
  have ca := (hT.cap_le).1
  have HY : Hid (ns[i]? = some y) := hy
  obtain ⟨d0, d1, -, -, -⟩ := hT.at hy
  have hnB : ¬ twoB N g0 w.heap.size := by rintro (h | h) <;> omega
  have hws : w.heap.size < W.heap.size := by have := hK.size; simp at this; omega
  have x0 : W.cell? ⟨w.heap.size, 0, none⟩ = some (.int .u32 a) := (hK.cell (p := ⟨w.heap.size, 0, none⟩) (by simp) hnB).trans (by simp [go_sem])
  have x1 : W.cell? ⟨w.heap.size, 1, none⟩ = some (.int .i64 (m : Int)) := (hK.cell (p := ⟨w.heap.size, 1, none⟩) (by simp) hnB).trans (by simp [go_sem])
  obtain ⟨n, hn⟩ : ∃ n, ns.length = n := ⟨_, rfl⟩
  have HN : Hid (ns.length = n) := hn
  have HL : Hid (n ≤ n0 + k) := by unfold Hid; rw [← hn]; exact hl
  rw [hn] at z0 hi ca
  have hi' : (i : Int) < (n : Int) := by omega
  have hlt : k < m := by omega
  have hne' : ((k : Int) == (m : Int)) = false := by rw [beq_eq_false_iff_ne]; omega
  have hk32 : k ≤ 32 := by omega
  have HBt : Hid (bitI a k = 1) := by unfold Hid; rw [bit_val _ha0 (by omega), hs]; rfl
  obtain ⟨c, hc⟩ : ∃ c, y.b = c := ⟨_, rfl⟩
  have HC : Hid (y.kid true = c) := hc
  have hc0' : ((c : Int) == 0) = false := by rw [beq_eq_false_iff_ne]; rw [← hc]; have : y.b ≠ 0 := hc0; omega
  have HA : Hid (c < n ∧ ws c = wayX a (k + 1)) := by
    obtain ⟨z, h1, h2, -⟩ := HG.out.k i y HY.out true hc0
    rw [HC.out] at h1 h2
    exact ⟨by rw [← HN.out]; exact lt_of_at h1, by rw [h2, HW.out, wayX, hs]⟩
  rw [hc] at d1
  clear hT hG hH hw hl hg hK hq hy hn hnB d0 _hn0 _ha0 _hm _hgw _hNw hkm hs hc0 hc
  conv => arg 2; whnf
  go_wp2_with (go_at_call 58; refine (bit_any _ _ _ hk32 HBt.out).mono ?_; rintro e w_ ⟨rfl, rfl⟩)
  go_step3
  refine ⟨rfl, ⟨c, k + 1, g, cap, ns, ws, _, _, _, _, _, _, _, _, _, _, _, _, _, _, _, _, _, _, _, _, _, _, _, _, _, _, _, _, _, _, _, _, _, _, _, _, _, _, _, _, _, _, _, _, _, _, _, _, _, _, _, _, _, _, _, _, _, _, _, _, _, rfl, HT.out, HG.out, HH.out, by rw [HN.out]; exact HA.out.1, by omega, HA.out.2, by rw [HN.out]; have := HL.out; omega, HGg.out, HK.out⟩, ?_⟩
  have := HQ.out
  simp [slot6, intOf]
  omega
end Go.Proofs.Ytcabeclbdjfoaaa
/- The contract of the program's pave: a node more behind 0. -/
namespace Go.Proofs.Ytcabeclbdjfoaaa
open Go.RowKit

set_option maxRecDepth 100000 in
set_option maxHeartbeats 4000000 in
theorem pave_new0 (w : World) (N g0 n0 : Nat) (most cnt : Int) (L : List Pr) (a : Int) (m : Nat) (_hNw : N < w.heap.size) (_hgw : g0 < w.heap.size) (_hn0 : n0 ≤ 60000) (_ha0 : 0 ≤ a) (_hm : m ≤ 32) (q i k g cap : Nat) (ns : List Nd) (ws : Nat → List Bool) (u1 u2 u4 u7 u8 u9 u10 u11 u12 u13 u14 u15 u16 u17 u18 u19 u20 u21 u22 u23 u24 u25 u26 u27 u28 u29 u30 u31 u32 u33 u34 u35 u36 u37 u38 u39 u40 u41 u42 u43 u44 u45 u46 u47 u48 u49 u50 u51 u52 u53 u54 u55 u56 u57 u58 u59 u60 u61 u62 u63 u64 : Value) (hq : k = q) (W : World) (hT : TrM W N g cap most cnt ns) (hG : Good ns ws) (hH : Holds ns ws L) (hi : i < ns.length) (_hk : k ≤ m) (hw : ws i = wayX a k) (hl : ns.length ≤ n0 + k) (hg : g = g0 ∨ w.heap.size + 1 ≤ g) (hK : Keep (twoB N g0) (w.alloc (objX a (m : Int))) W) (y : Nd) (hy : ns[i]? = some y) (hkm : k < m) (hs : bitX a k = false) (hc0 : y.kid false = 0) :
    Code.wp Try.prog restPa (Exit.jump 0 (fun a' w' => PaJ w N g0 n0 most cnt L a m a' w' ∧ m - slot6 a' < m - q) (bodyPost Try.prog Try.f53 (PaveD w N g0 n0 most cnt L a m))) { tmps := #[.pointer (some ⟨N, 0, none⟩), u1, u2, .pointer (some ⟨w.heap.size, 0, none⟩), u4, .int .i64 (i : Int), .int .i64 (k : Int), u7, u8, u9, u10, u11, u12, u13, u14, u15, u16, u17, u18, u19, u20, u21, u22, u23, u24, u25, u26, u27, u28, u29, u30, u31, u32, u33, u34, u35, u36, u37, u38, u39, u40, u41, u42, u43, u44, u45, u46, u47, u48, u49, u50, u51, u52, u53, u54, u55, u56, u57, u58, u59, u60, u61, u62, u63, u64], defers := [] } W := by
  have HK : Hid (Keep (twoB N g0) (w.alloc (objX a (m : Int))) W) := hK
  have HT : Hid (TrM W N g cap most cnt ns) := hT
  have HG : Hid (Good ns ws) := hG
  have HH : Hid (Holds ns ws L) := hH
  have HW : Hid (ws i = wayX a k) := hw
  have HGg : Hid (g = g0 ∨ w.heap.size + 1 ≤ g) := hg
  have HQ : Hid (k = q) := hq
  have z0 := hT.c0
  have ca := (hT.cap_le).1
  have HY : Hid (ns[i]? = some y) := hy
  obtain ⟨d0, d1, -, -, -⟩ := hT.at hy
  have hnB : ¬ twoB N g0 w.heap.size := by rintro (h | h) <;> omega
  have hws : w.heap.size < W.heap.size := by have := hK.size; simp at this; omega
  have x0 : W.cell? ⟨w.heap.size, 0, none⟩ = some (.int .u32 a) := (hK.cell (p := ⟨w.heap.size, 0, none⟩) (by simp) hnB).trans (by simp [go_sem])
  have x1 : W.cell? ⟨w.heap.size, 1, none⟩ = some (.int .i64 (m : Int)) := (hK.cell (p := ⟨w.heap.size, 1, none⟩) (by simp) hnB).trans (by simp [go_sem])
  obtain ⟨n, hn⟩ : ∃ n, ns.length = n := ⟨_, rfl⟩
  have HN : Hid (ns.length = n) := hn
  have HL : Hid (n ≤ n0 + k) := by unfold Hid; rw [← hn]; exact hl
  rw [hn] at z0 hi ca
  have hi' : (i : Int) < (n : Int) := by omega
  have hlt : k < m := by omega
  have hne' : ((k : Int) == (m : Int)) = false := by rw [beq_eq_false_iff_ne]; omega
  have hk32 : k ≤ 32 := by omega
  have HBt : Hid (bitI a k = 0) := by unfold Hid; rw [bit_val _ha0 (by omega), hs]; rfl
  have fz := hT.fz
  have gz := hT.gfz
  have hne := hT.ne
  have hn1 : n + 1 ≤ 100000 := by omega
  have HM : Hid (Good (paveN ns i y false) (paveW ns ws i false) ∧ Holds (paveN ns i y false) (paveW ns ws i false) L ∧ (paveN ns i y false).length = n + 1 ∧ paveW ns ws i false n = wayX a (k + 1)) :=
    ⟨good_pave hG hy hc0 (by rw [hw, way_len]; omega), holds_pave hH hy, by rw [pave_len, hn], by unfold paveW; rw [if_pos hn.symm, hw, wayX, hs]⟩
  have hd : y.a = 0 := hc0
  rw [hd] at d0
  have d0 : W.cell? ⟨g, i * 5, none⟩ = some (.int .i64 0) := d0
  have HS : Hid (TrM (W.setCell ⟨g, i * 5, none⟩ (.int .i64 (n : Int))) N g cap most cnt (ns.set i (y.lay false n))) := hT.set (j := 0) hy (by decide) rfl
  have zd : W.drew.cell? ⟨N, 0, none⟩ = some (.slice (some ⟨g, 0, none⟩) n cap) := z0
  have zs : (W.setCell ⟨g, i * 5, none⟩ (.int .i64 (n : Int))).drew.cell? ⟨N, 0, none⟩ = some (.slice (some ⟨g, 0, none⟩) n cap) := by
    rw [World.cell?_drew, World.cell?_setCell_other _ _ _ _ (by simp <;> omega)]; exact z0
  clear hT hG hH hw hl hg hK hq hy hn hnB d1 _hn0 _ha0 _hm _hgw _hNw hkm hs hc0 hd
  conv => arg 2; whnf
  go_wp2_with (go_at_call 58; refine (bit_any _ _ _ hk32 HBt.out).mono ?_; rintro e w_ ⟨rfl, rfl⟩)
  go_region_held3 (fun w' => w'.cell? ⟨N, 0, none⟩ = some (.slice (some ⟨g, 0, none⟩) n cap)) (first | with_reducible exact zd | with_reducible exact zs) (fail)
  clear zd zs z0 fz gz d0
  obtain ⟨W2, hW2⟩ : ∃ W2, W2 = (w_.setCell ⟨g, i * 5, none⟩ (.int .i64 (n : Int))).drew := ⟨_, rfl⟩
  rw [← hW2]
  have HS2 : Hid (TrM W2 N g cap most cnt (ns.set i (y.lay false n))) := by unfold Hid; rw [hW2]; exact HS.out.later (Below.refl _ _).drew
  have HK2 : Hid (Keep (twoB N g0) (w.alloc (objX a (m : Int))) W2) := by
    unfold Hid
    rw [hW2]
    exact (HK.out.setCell' (p := ⟨g, i * 5, none⟩) (by rcases HGg.out with h | h; exact .inl (.inr h); exact .inr (by simpa using h)) _).drew
  have hl2 : (ns.set i (y.lay false n)).length = n := by rw [List.length_set, HN.out]
  have HL2 : Hid ((ns.set i (y.lay false n)).length = n) := hl2
  have z0 := HS2.out.c0
  rw [hl2] at z0
  have fz := HS2.out.fz
  have hs2 := HK2.out.size
  simp only [World.size_alloc] at hs2
  have HA : Hid (∀ o : Obj, OwnN (W2.alloc o) 0 (.slice (some ⟨g, 0, none⟩) n cap) n (ns.set i (y.lay false n)) ∧ TrM (W2.alloc o) N g cap most cnt (ns.set i (y.lay false n))) := fun o => by
    have h := HS2.out.later (below1 W2 o)
    have h' := h.own
    rw [HL2.out] at h'
    exact ⟨h', h⟩
  have HP : Hid (ns.set i (y.lay false n) ++ [⟨0, 0, i, false, 0⟩] = paveN ns i y false) := by unfold Hid paveN; rw [HN.out]
  have HPi : Hid ((ns.set i (y.lay false n) ++ [⟨0, 0, i, false, 0⟩])[i]? = some (y.lay false n)) := by
    unfold Hid
    rw [List.getElem?_append_left (by rw [hl2]; exact hi), List.getElem?_set_self (by rw [HN.out]; exact hi)]
  clear hW2 HS HK HT x0 x1 hws hl2
  rename_i hHeld
  clear hHeld
  go_wp2_with (at_builtin; refine wpList_appNg rfl (.tmp 46) (.tmp 49) rfl g n cap _ rfl (HA.out _).1 _ _ ⟨0, 0, i, false, 0⟩ rfl (N5.newAt W2 _ rfl 0 0 i false 0) hn1 ?_; intro g' c' W3 own3 gr3 hat3; have HOwn : Hid (OwnN W3 0 (.slice (some ⟨g', 0, none⟩) (n + 1) c') (n + 1) (ns.set i (y.lay false n) ++ [⟨0, 0, i, false, 0⟩])) := own3; obtain ⟨z0', fz', hT4⟩ := (HA.out _).2.grow HL2.out gr3 own3 hat3; have HT4 : Hid (TrM (W3.setCell ⟨N, 0, none⟩ (.slice (some ⟨g', 0, none⟩) (n + 1) c')) N g' c' most cnt (paveN ns i y false)) := (by unfold Hid; rw [← HP.out]; exact hT4); have hne1 : N ≠ g' := HT4.out.ne; have hne2 : g' ≠ N := (fun e => hne1 e.symm); have d := own3.cells HPi.out (j := 0) (by decide) rfl; have d' : W3.cell? ⟨g', i * 5, none⟩ = some (.int .i64 (n : Int)) := d; have ca' : n + 1 ≤ c' := own3.block.choose_spec.2.1; have HK3 : Hid (Keep (twoB N g0) (w.alloc (objX a (m : Int))) W3) := ((HK2.out.alloc _).grown gr3 (by rcases HGg.out with h | h; exact .inl (.inr h); exact .inr (by simpa using h))); have HG3 : Hid (g' = g0 ∨ w.heap.size + 1 ≤ g') := (by unfold Hid; simp only [World.size_alloc] at hat3; have := HGg.out; omega); clear own3 gr3 hat3 hT4 d)
  go_step3
  refine ⟨rfl, ⟨n, k + 1, g', c', paveN ns i y false, paveW ns ws i false, _, _, _, _, _, _, _, _, _, _, _, _, _, _, _, _, _, _, _, _, _, _, _, _, _, _, _, _, _, _, _, _, _, _, _, _, _, _, _, _, _, _, _, _, _, _, _, _, _, _, _, _, _, _, _, _, _, _, _, _, _, rfl, HT4.out, HM.out.1, HM.out.2.1, by rw [HM.out.2.2.1]; omega, by omega, HM.out.2.2.2, by rw [HM.out.2.2.1]; have := HL.out; omega, HG3.out, HK3.out.setCell' (.inl (.inl rfl)) _⟩, ?_⟩
  have := HQ.out
  simp [slot6, intOf]
  omega
end Go.Proofs.Ytcabeclbdjfoaaa
/- The contract of the program's pave: a node more behind 1. -/
namespace Go.Proofs.Ytcabeclbdjfoaaa
open Go.RowKit

set_option maxRecDepth 100000 in
set_option maxHeartbeats 4000000 in
theorem pave_new1 (w : World) (N g0 n0 : Nat) (most cnt : Int) (L : List Pr) (a : Int) (m : Nat) (_hNw : N < w.heap.size) (_hgw : g0 < w.heap.size) (_hn0 : n0 ≤ 60000) (_ha0 : 0 ≤ a) (_hm : m ≤ 32) (q i k g cap : Nat) (ns : List Nd) (ws : Nat → List Bool) (u1 u2 u4 u7 u8 u9 u10 u11 u12 u13 u14 u15 u16 u17 u18 u19 u20 u21 u22 u23 u24 u25 u26 u27 u28 u29 u30 u31 u32 u33 u34 u35 u36 u37 u38 u39 u40 u41 u42 u43 u44 u45 u46 u47 u48 u49 u50 u51 u52 u53 u54 u55 u56 u57 u58 u59 u60 u61 u62 u63 u64 : Value) (hq : k = q) (W : World) (hT : TrM W N g cap most cnt ns) (hG : Good ns ws) (hH : Holds ns ws L) (hi : i < ns.length) (_hk : k ≤ m) (hw : ws i = wayX a k) (hl : ns.length ≤ n0 + k) (hg : g = g0 ∨ w.heap.size + 1 ≤ g) (hK : Keep (twoB N g0) (w.alloc (objX a (m : Int))) W) (y : Nd) (hy : ns[i]? = some y) (hkm : k < m) (hs : bitX a k = true) (hc0 : y.kid true = 0) :
    Code.wp Try.prog restPa (Exit.jump 0 (fun a' w' => PaJ w N g0 n0 most cnt L a m a' w' ∧ m - slot6 a' < m - q) (bodyPost Try.prog Try.f53 (PaveD w N g0 n0 most cnt L a m))) { tmps := #[.pointer (some ⟨N, 0, none⟩), u1, u2, .pointer (some ⟨w.heap.size, 0, none⟩), u4, .int .i64 (i : Int), .int .i64 (k : Int), u7, u8, u9, u10, u11, u12, u13, u14, u15, u16, u17, u18, u19, u20, u21, u22, u23, u24, u25, u26, u27, u28, u29, u30, u31, u32, u33, u34, u35, u36, u37, u38, u39, u40, u41, u42, u43, u44, u45, u46, u47, u48, u49, u50, u51, u52, u53, u54, u55, u56, u57, u58, u59, u60, u61, u62, u63, u64], defers := [] } W := by
  have HK : Hid (Keep (twoB N g0) (w.alloc (objX a (m : Int))) W) := hK
  have HT : Hid (TrM W N g cap most cnt ns) := hT
  have HG : Hid (Good ns ws) := hG
  have HH : Hid (Holds ns ws L) := hH
  have HW : Hid (ws i = wayX a k) := hw
  have HGg : Hid (g = g0 ∨ w.heap.size + 1 ≤ g) := hg
  have HQ : Hid (k = q) := hq
  have z0 := hT.c0
  have ca := (hT.cap_le).1
  have HY : Hid (ns[i]? = some y) := hy
  obtain ⟨d0, d1, -, -, -⟩ := hT.at hy
  have hnB : ¬ twoB N g0 w.heap.size := by rintro (h | h) <;> omega
  have hws : w.heap.size < W.heap.size := by have := hK.size; simp at this; omega
  have x0 : W.cell? ⟨w.heap.size, 0, none⟩ = some (.int .u32 a) := (hK.cell (p := ⟨w.heap.size, 0, none⟩) (by simp) hnB).trans (by simp [go_sem])
  have x1 : W.cell? ⟨w.heap.size, 1, none⟩ = some (.int .i64 (m : Int)) := (hK.cell (p := ⟨w.heap.size, 1, none⟩) (by simp) hnB).trans (by simp [go_sem])
  obtain ⟨n, hn⟩ : ∃ n, ns.length = n := ⟨_, rfl⟩
  have HN : Hid (ns.length = n) := hn
  have HL : Hid (n ≤ n0 + k) := by unfold Hid; rw [← hn]; exact hl
  rw [hn] at z0 hi ca
  have hi' : (i : Int) < (n : Int) := by omega
  have hlt : k < m := by omega
  have hne' : ((k : Int) == (m : Int)) = false := by rw [beq_eq_false_iff_ne]; omega
  have hk32 : k ≤ 32 := by omega
  have HBt : Hid (bitI a k = 1) := by unfold Hid; rw [bit_val _ha0 (by omega), hs]; rfl
  have fz := hT.fz
  have gz := hT.gfz
  have hne := hT.ne
  have hn1 : n + 1 ≤ 100000 := by omega
  have HM : Hid (Good (paveN ns i y true) (paveW ns ws i true) ∧ Holds (paveN ns i y true) (paveW ns ws i true) L ∧ (paveN ns i y true).length = n + 1 ∧ paveW ns ws i true n = wayX a (k + 1)) :=
    ⟨good_pave hG hy hc0 (by rw [hw, way_len]; omega), holds_pave hH hy, by rw [pave_len, hn], by unfold paveW; rw [if_pos hn.symm, hw, wayX, hs]⟩
  have hd : y.b = 0 := hc0
  rw [hd] at d1
  have d1 : W.cell? ⟨g, i * 5 + 1, none⟩ = some (.int .i64 0) := d1
  have HS : Hid (TrM (W.setCell ⟨g, i * 5 + 1, none⟩ (.int .i64 (n : Int))) N g cap most cnt (ns.set i (y.lay true n))) := hT.set (j := 1) hy (by decide) rfl
  have zd : W.drew.cell? ⟨N, 0, none⟩ = some (.slice (some ⟨g, 0, none⟩) n cap) := z0
  have zs : (W.setCell ⟨g, i * 5 + 1, none⟩ (.int .i64 (n : Int))).drew.cell? ⟨N, 0, none⟩ = some (.slice (some ⟨g, 0, none⟩) n cap) := by
    rw [World.cell?_drew, World.cell?_setCell_other _ _ _ _ (by simp <;> omega)]; exact z0
  clear hT hG hH hw hl hg hK hq hy hn hnB d0 _hn0 _ha0 _hm _hgw _hNw hkm hs hc0 hd
  conv => arg 2; whnf
  go_wp2_with (go_at_call 58; refine (bit_any _ _ _ hk32 HBt.out).mono ?_; rintro e w_ ⟨rfl, rfl⟩)
  go_region_held3 (fun w' => w'.cell? ⟨N, 0, none⟩ = some (.slice (some ⟨g, 0, none⟩) n cap)) (first | with_reducible exact zd | with_reducible exact zs) (fail)
  clear zd zs z0 fz gz d1
  obtain ⟨W2, hW2⟩ : ∃ W2, W2 = (w_.setCell ⟨g, i * 5 + 1, none⟩ (.int .i64 (n : Int))).drew := ⟨_, rfl⟩
  rw [← hW2]
  have HS2 : Hid (TrM W2 N g cap most cnt (ns.set i (y.lay true n))) := by unfold Hid; rw [hW2]; exact HS.out.later (Below.refl _ _).drew
  have HK2 : Hid (Keep (twoB N g0) (w.alloc (objX a (m : Int))) W2) := by
    unfold Hid
    rw [hW2]
    exact (HK.out.setCell' (p := ⟨g, i * 5 + 1, none⟩) (by rcases HGg.out with h | h; exact .inl (.inr h); exact .inr (by simpa using h)) _).drew
  have hl2 : (ns.set i (y.lay true n)).length = n := by rw [List.length_set, HN.out]
  have HL2 : Hid ((ns.set i (y.lay true n)).length = n) := hl2
  have z0 := HS2.out.c0
  rw [hl2] at z0
  have fz := HS2.out.fz
  have hs2 := HK2.out.size
  simp only [World.size_alloc] at hs2
  have HA : Hid (∀ o : Obj, OwnN (W2.alloc o) 0 (.slice (some ⟨g, 0, none⟩) n cap) n (ns.set i (y.lay true n)) ∧ TrM (W2.alloc o) N g cap most cnt (ns.set i (y.lay true n))) := fun o => by
    have h := HS2.out.later (below1 W2 o)
    have h' := h.own
    rw [HL2.out] at h'
    exact ⟨h', h⟩
  have HP : Hid (ns.set i (y.lay true n) ++ [⟨0, 0, i, false, 0⟩] = paveN ns i y true) := by unfold Hid paveN; rw [HN.out]
  have HPi : Hid ((ns.set i (y.lay true n) ++ [⟨0, 0, i, false, 0⟩])[i]? = some (y.lay true n)) := by
    unfold Hid
    rw [List.getElem?_append_left (by rw [hl2]; exact hi), List.getElem?_set_self (by rw [HN.out]; exact hi)]
  clear hW2 HS HK HT x0 x1 hws hl2
  rename_i hHeld
  clear hHeld
  go_wp2_with (at_builtin; refine wpList_appNg rfl (.tmp 46) (.tmp 49) rfl g n cap _ rfl (HA.out _).1 _ _ ⟨0, 0, i, false, 0⟩ rfl (N5.newAt W2 _ rfl 0 0 i false 0) hn1 ?_; intro g' c' W3 own3 gr3 hat3; have HOwn : Hid (OwnN W3 0 (.slice (some ⟨g', 0, none⟩) (n + 1) c') (n + 1) (ns.set i (y.lay true n) ++ [⟨0, 0, i, false, 0⟩])) := own3; obtain ⟨z0', fz', hT4⟩ := (HA.out _).2.grow HL2.out gr3 own3 hat3; have HT4 : Hid (TrM (W3.setCell ⟨N, 0, none⟩ (.slice (some ⟨g', 0, none⟩) (n + 1) c')) N g' c' most cnt (paveN ns i y true)) := (by unfold Hid; rw [← HP.out]; exact hT4); have hne1 : N ≠ g' := HT4.out.ne; have hne2 : g' ≠ N := (fun e => hne1 e.symm); have d := own3.cells HPi.out (j := 1) (by decide) rfl; have d' : W3.cell? ⟨g', i * 5 + 1, none⟩ = some (.int .i64 (n : Int)) := d; have ca' : n + 1 ≤ c' := own3.block.choose_spec.2.1; have HK3 : Hid (Keep (twoB N g0) (w.alloc (objX a (m : Int))) W3) := ((HK2.out.alloc _).grown gr3 (by rcases HGg.out with h | h; exact .inl (.inr h); exact .inr (by simpa using h))); have HG3 : Hid (g' = g0 ∨ w.heap.size + 1 ≤ g') := (by unfold Hid; simp only [World.size_alloc] at hat3; have := HGg.out; omega); clear own3 gr3 hat3 hT4 d)
  go_step3
  refine ⟨rfl, ⟨n, k + 1, g', c', paveN ns i y true, paveW ns ws i true, _, _, _, _, _, _, _, _, _, _, _, _, _, _, _, _, _, _, _, _, _, _, _, _, _, _, _, _, _, _, _, _, _, _, _, _, _, _, _, _, _, _, _, _, _, _, _, _, _, _, _, _, _, _, _, _, _, _, _, _, _, rfl, HT4.out, HM.out.1, HM.out.2.1, by rw [HM.out.2.2.1]; omega, by omega, HM.out.2.2.2, by rw [HM.out.2.2.1]; have := HL.out; omega, HG3.out, HK3.out.setCell' (.inl (.inl rfl)) _⟩, ?_⟩
  have := HQ.out
  simp [slot6, intOf]
  omega
end Go.Proofs.Ytcabeclbdjfoaaa
