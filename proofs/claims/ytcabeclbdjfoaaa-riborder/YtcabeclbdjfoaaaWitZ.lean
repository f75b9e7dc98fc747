/- The contract of the program's within: what is behind one step of it. -/
import Derived.Test.YtcabeclbdjfoaaaPavZ
import Derived.Test.YtcabeclbdjfoaaaNodC
namespace Go.Proofs.Ytcabeclbdjfoaaa
open Go.RowKit

def ownB (v : Value) (k : Nat) : Prop := v.ownBlock = some k
theorem wpList_appXg {W : World} {ops : Array Oper} {rest : List Oper} {o : Oper} {a : Act} {Q : Exit → Act → World → Prop} (hgd : o.guard = none) (s x : Operand)
    (ho : o.op = .call { callee := .builtin .append, args := #[s, x], argTypes := #[73, 73] }) (base : Nat) (v : Value) (n : Nat) (es : List Px) (hs : a.eval s = v) (hown : OwnX W base v n es) (M c : Nat) (e : Px) (hx : a.eval x = .slice (some ⟨M, 0, none⟩) 1 c) (h2 : X2 W M 0 e) (hlen : n + 1 ≤ 100000) (hbase : base ≤ W.heap.size)
    (h : ∀ a' c' w', OwnX w' base (.slice a' (n + 1) c') (n + 1) (es ++ [e]) → Keep (ownB v) W w' → (∀ k, ownB (.slice a' (n + 1) c') k → ownB v k ∨ k = W.heap.size) → wpList Try.prog ops Q rest (a.put o.dst (.slice a' (n + 1) c')) w') : wpList Try.prog ops Q (o :: rest) a W := by
  obtain ⟨i, hi, hzz⟩ := Option.map_eq_some_iff.1 infoX
  simp only [Prod.mk.injEq] at hzz
  obtain ⟨hz0, hz1, hz2⟩ := hzz
  refine wpList_append_own_at W hgd s x 73 ho base 24 i _ 2 16 Try.underlying73 hi hz0 hz1 hz2 rfl (by decide) _ n _ hs hown ⟨M, 0, none⟩ 1 c ([e].flatMap Px.cs) hx (by rw [csX_flat_len]; rfl) ?_ ?_ (by unfold maxLen; omega) (by omega) hbase ?_
  · intro j u hj
    obtain ⟨c0, c1⟩ := h2
    rw [Go.WideShapes.add_plain]
    simp only [List.flatMap_cons, List.flatMap_nil, List.append_nil] at hj
    match j, hj with
    | 0, hj => simp [Px.cs] at hj; rw [← hj]; exact c0
    | 1, hj => simp [Px.cs] at hj; rw [← hj]; exact c1
    | j + 2, hj => simp [Px.cs] at hj
  · intro u hu
    simp [Px.cs] at hu
    rcases hu with rfl | rfl <;> rfl
  · intro v' w' hown' hgr _ hat
    have ho : OwnX w' base v' (n + 1) (es ++ [e]) := by unfold OwnX; rw [List.flatMap_append]; exact hown'
    obtain ⟨a', c', rfl⟩ := ho.shape
    refine h a' c' w' ho ⟨hgr.os, hgr.tape, hgr.output, hgr.size, fun k hk hn => hgr.block k hk (fun e => hn e.symm)⟩ fun k hk => ?_
    unfold ownB at hk ⊢
    rcases hat with e | e
    · left; rw [← e]; exact hk
    · right; rw [e] at hk; simpa using hk.symm
/-- What within answers. -/
def WithinD (w : World) (base : Nat) (v : Value) (out : List Px) (L : List Pr) (e : Ending) (w' : World) : Prop :=
  ∃ (ad : Option Addr) (n cp : Nat), e = .returned (.slice ad n cp) ∧ OwnX w' base (.slice ad n cp) n (out ++ L.map keyX) ∧ Keep (ownB v) w w' ∧ ∀ k, ownB (.slice ad n cp) k → ownB v k ∨ w.heap.size ≤ k
def WithinS (N g cap : Nat) (most cnt : Int) (ns : List Nd) (ws : Nat → List Bool) (base f : Nat) : Prop :=
  ∀ (i : Nat) (w : World) (ad : Option Addr) (n cp : Nat) (out : List Px), TrM w N g cap most cnt ns → base ≤ w.heap.size → i < ns.length → (ws i).length + f = 33 → OwnX w base (.slice ad n cp) n out → n + (lst f ns ws i).length ≤ 90000 →
    Calls Try.prog 56 #[.pointer (some ⟨N, 0, none⟩), .int .i64 (i : Int), valX (adr (ws i) 0 : Nat) ((ws i).length : Nat), .slice ad n cp] w (WithinD w base (.slice ad n cp) out (lst f ns ws i))
/-- What stands in a round: the row so far, and what may have turned since. -/
def WiS (w1 : World) (base : Nat) (v0 : Value) (es : List Px) (ad : Option Addr) (n cp : Nat) (W : World) : Prop :=
  OwnX W base (.slice ad n cp) n es ∧ Keep (ownB v0) w1 W ∧ ∀ k, ownB (.slice ad n cp) k → ownB v0 k ∨ w1.heap.size ≤ k
theorem WiS.call {w1 W W' : World} {base : Nat} {v0 : Value} {es : List Px} {ad : Option Addr} {n cp : Nat} {L : List Pr} (h : WiS w1 base v0 es ad n cp W) {o : Obj} {ad' : Option Addr} {n' cp' : Nat} (h1 : OwnX W' base (.slice ad' n' cp') n' (es ++ L.map keyX)) (h2 : Keep (ownB (.slice ad n cp)) (W.alloc o) W') (h3 : ∀ k, ownB (.slice ad' n' cp') k → ownB (.slice ad n cp) k ∨ (W.alloc o).heap.size ≤ k) : WiS w1 base v0 (es ++ L.map keyX) ad' n' cp' W' := by
  have hs := h.2.1.size
  refine ⟨h1, (h.2.1.alloc o).trans h2 fun k hk hb => ?_, fun k hk => ?_⟩
  · rcases h.2.2 k hb with h | h
    · exact h
    · omega
  · rcases h3 k hk with h' | h'
    · exact h.2.2 k h'
    · right
      simp at h'
      omega
/-- The rows of the three rounds. -/
def hereN (f : Nat) (ns : List Nd) (ws : Nat → List Bool) (i j : Nat) : List Pr :=
  (if (nd ns i).h = true then [prN (ws i) (nd ns i).n] else []) ++ ((if 1 ≤ j ∧ (nd ns i).a ≠ 0 then lst f ns ws (nd ns i).a else []) ++ (if 2 ≤ j ∧ (nd ns i).b ≠ 0 then lst f ns ws (nd ns i).b else []))
theorem here_end (f : Nat) (ns : List Nd) (ws : Nat → List Bool) (i : Nat) : hereN f ns ws i 2 = lst (f + 1) ns ws i := by
  unfold hereN
  rw [lst]
  by_cases h1 : (nd ns i).a = 0 <;> by_cases h2 : (nd ns i).b = 0 <;> simp [h1, h2]
theorem here_a0 {f : Nat} {ns : List Nd} {ws : Nat → List Bool} {i : Nat} (h : (nd ns i).a = 0) : hereN f ns ws i 1 = hereN f ns ws i 0 := by unfold hereN; simp [h]
theorem here_a1 {f : Nat} {ns : List Nd} {ws : Nat → List Bool} {i : Nat} (h : (nd ns i).a ≠ 0) : hereN f ns ws i 1 = hereN f ns ws i 0 ++ lst f ns ws (nd ns i).a := by unfold hereN; simp [h]
theorem here_b0 {f : Nat} {ns : List Nd} {ws : Nat → List Bool} {i : Nat} (h : (nd ns i).b = 0) : hereN f ns ws i 2 = hereN f ns ws i 1 := by unfold hereN; simp [h]
theorem here_b1 {f : Nat} {ns : List Nd} {ws : Nat → List Bool} {i : Nat} (h : (nd ns i).b ≠ 0) : hereN f ns ws i 2 = hereN f ns ws i 1 ++ lst f ns ws (nd ns i).b := by unfold hereN; simp [h]
theorem here_le (f : Nat) (ns : List Nd) (ws : Nat → List Bool) (i : Nat) : (hereN f ns ws i 0).length ≤ (hereN f ns ws i 1).length ∧ (hereN f ns ws i 1).length ≤ (hereN f ns ws i 2).length := by
  constructor
  · by_cases h : (nd ns i).a = 0
    · rw [here_a0 h]; exact Nat.le_refl _
    · rw [here_a1 h, List.length_append]; omega
  · by_cases h : (nd ns i).b = 0
    · rw [here_b0 h]; exact Nat.le_refl _
    · rw [here_b1 h, List.length_append]; omega
theorem here_h1 (f : Nat) {ns : List Nd} {ws : Nat → List Bool} {i A l : Nat} (h : (nd ns i).h = true) (hA : adr (ws i) 0 = A) (hl : (ws i).length = l) : (hereN f ns ws i 0).map keyX = [⟨(A : Int), (l : Int)⟩] := by
  unfold hereN
  rw [h, ← hA, ← hl]
  simp [keyX, prN]
theorem here_h0 (f : Nat) {ns : List Nd} {ws : Nat → List Bool} {i : Nat} (h : (nd ns i).h = false) : (hereN f ns ws i 0).map keyX = [] := by
  unfold hereN
  rw [h]
  simp
def WiR (w1 : World) (base : Nat) (v0 : Value) (out : List Px) (f : Nat) (ns : List Nd) (ws : Nat → List Bool) (i : Nat) (o_ s_ : Value) (W : World) : Prop :=
  ∃ (j : Nat) (ad : Option Addr) (n cp : Nat), ((s_ = .int .i64 0 ∧ j = 0) ∨ (s_ = .int .i64 1 ∧ j = 1) ∨ (s_ = .int .i64 2 ∧ j = 2)) ∧ o_ = .slice ad n cp ∧ WiS w1 base v0 (out ++ (hereN f ns ws i j).map keyX) ad n cp W
theorem WithinS.kid {N g cap : Nat} {most cnt : Int} {ns : List Nd} {ws : Nat → List Bool} {base f : Nat} (IH : WithinS N g cap most cnt ns ws base f) (hG : Good ns ws) {i c X l : Nat} {s : Bool} (hi : i < ns.length) (hc : (nd ns i).kid s = c) (h0 : c ≠ 0) (hX : adr (ws i ++ [s]) 0 = X) (hl : (ws i).length = l) (hf : l + (f + 1) = 33) :
    ∀ (W : World) (ad : Option Addr) (n cp : Nat) (out : List Px), TrM W N g cap most cnt ns → base ≤ W.heap.size → OwnX W base (.slice ad n cp) n out → n + (lst f ns ws c).length ≤ 90000 →
      Calls Try.prog 56 #[.pointer (some ⟨N, 0, none⟩), .int .i64 (c : Int), .agg #[.int .u32 (X : Int), .int .i64 ((l : Int) + 1)], .slice ad n cp] W (WithinD W base (.slice ad n cp) out (lst f ns ws c)) := by
  intro W ad n cp out hT hb hO hn
  obtain ⟨k1, k2, -⟩ := hG.kid_nd hi s (by rw [hc]; exact h0)
  rw [hc] at k1 k2
  have h2 : (ws c).length = l + 1 := by rw [k2, List.length_append, hl]; rfl
  have := IH c W ad n cp out hT hb k1 (by rw [h2]; omega) hO hn
  rw [h2, k2, hX] at this
  exact this
theorem or_zero {A : Nat} (h : A < 4294967296) : bits .or .u32 (A : Int) 0 = (A : Int) := by
  have := u32_or_nat A 0 h (by decide)
  simpa using this
theorem or_bit {p : List Bool} {l : Nat} (hl : p.length = l) (h : l < 32) : bits .or .u32 ((adr p 0 : Nat) : Int) ((2 ^ (31 - l) : Nat) : Int) = ((adr (p ++ [true]) 0 : Nat) : Int) := by
  have h1 := adr_mult p 0 (by omega)
  rw [hl, Nat.sub_zero] at h1
  have h2 := adr_lt p 0 (by omega)
  have h3 : 2 ^ (31 - l) < 2 ^ (32 - l) := Nat.pow_lt_pow_right (by omega) (by omega)
  have h4 : 2 ^ (32 - l) ≤ 2 ^ 32 := Nat.pow_le_pow_right (by omega) (by omega)
  obtain ⟨q, hq⟩ := Nat.dvd_of_mod_eq_zero h1
  rw [u32_or_nat _ _ (by omega) (by omega), adr_snoc, hl, Nat.zero_add, if_pos rfl, hq, Nat.two_pow_add_eq_or_of_lt h3]
theorem or_bit' {p : List Bool} {l A X : Nat} (hl : p.length = l) (h : l ≤ 31) (hA : adr p 0 = A) (hX : adr (p ++ [true]) 0 = X) : bits .or .u32 (A : Int) ((2 : Int) ^ (31 - l) % 4294967296) = (X : Int) := by
  have h3 : 2 ^ (31 - l) < 2 ^ 32 := Nat.pow_lt_pow_right (by omega) (by omega)
  have e : (2 : Int) ^ (31 - l) % 4294967296 = ((2 ^ (31 - l) : Nat) : Int) := by
    have e1 : (2 : Int) ^ (31 - l) = ((2 ^ (31 - l) : Nat) : Int) := by rw [Int.natCast_pow]; rfl
    rw [e1]
    generalize 2 ^ (31 - l) = q at h3
    omega
  rw [e, ← hA, ← hX]
  exact or_bit hl (by omega)
theorem adr_zero (p : List Bool) : adr (p ++ [false]) 0 = adr p 0 := by rw [adr_snoc]; simp
theorem WiS.facts {w W : World} {base N g cap n0 : Nat} {most cnt : Int} {ns : List Nd} {v0 : Value} {out es : List Px} {ad : Option Addr} {n cp : Nat} {A l : Int} (h : WiS (w.alloc (objX A l)) base v0 es ad n cp W) (hT : TrM w N g cap most cnt ns) (hO : OwnX w base v0 n0 out) (hN : N < base) (hg : g < base) (hbw : base ≤ w.heap.size) :
    TrM W N g cap most cnt ns ∧ W.cell? ⟨w.heap.size, 0, none⟩ = some (.int .u32 A) ∧ W.cell? ⟨w.heap.size, 1, none⟩ = some (.int .i64 l) ∧ w.heap.size < W.heap.size ∧ base ≤ W.heap.size := by
  have h1 : ¬ ownB v0 N := fun e => by have := hO.lt N e; omega
  have h2 : ¬ ownB v0 g := fun e => by have := hO.lt g e; omega
  have h3 : ¬ ownB v0 w.heap.size := fun e => by have := hO.own_lt e; omega
  have hs := h.2.1.size
  simp only [World.size_alloc] at hs
  exact ⟨(hT.later (below1 w (objX A l))).keep h.2.1 h1 h2, (h.2.1.cell (p := ⟨w.heap.size, 0, none⟩) (by simp) h3).trans (by simp [go_sem]), (h.2.1.cell (p := ⟨w.heap.size, 1, none⟩) (by simp) h3).trans (by simp [go_sem]), by omega, by omega⟩
end Go.Proofs.Ytcabeclbdjfoaaa
/- The contract of the program's within. -/
namespace Go.Proofs.Ytcabeclbdjfoaaa
open Go.RowKit

set_option maxHeartbeats 4000000 in
theorem within_yes (N g cap : Nat) (most cnt : Int) (ns : List Nd) (ws : Nat → List Bool) (base f : Nat) (hG : Good ns ws) (hNb : N < base) (hgb : g < base) (IH : WithinS N g cap most cnt ns ws base f) (i : Nat) (w : World) (ad : Option Addr) (n cp : Nat) (out : List Px) (hT : TrM w N g cap most cnt ns) (hbw : base ≤ w.heap.size) (hi : i < ns.length) (hf : (ws i).length + (f + 1) = 33) (hO : OwnX w base (.slice ad n cp) n out) (hlen : n + (lst (f + 1) ns ws i).length ≤ 90000) (hh : (nd ns i).h = true) :
    Calls Try.prog 56 #[.pointer (some ⟨N, 0, none⟩), .int .i64 (i : Int), valX (adr (ws i) 0 : Nat) ((ws i).length : Nat), .slice ad n cp] w (WithinD w base (.slice ad n cp) out (lst (f + 1) ns ws i)) := by
  have HT : Hid (TrM w N g cap most cnt ns) := hT
  have HG : Hid (Good ns ws) := hG
  have HIH : Hid (WithinS N g cap most cnt ns ws base f) := IH
  have HO : Hid (OwnX w base (.slice ad n cp) n out) := hO
  have HOl : Hid (out.length = n) := hO.len
  have HLn : Hid (n + (hereN f ns ws i 2).length ≤ 90000) := by unfold Hid; rw [here_end]; exact hlen
  rw [← here_end]
  have HHd : Hid ((nd ns i).h = true) := hh
  have HF : Hid ((ws i).length + (f + 1) = 33) := hf
  obtain ⟨z0, -, -, fz, -, -, -⟩ := hT.later (below1 w (objX (adr (ws i) 0 : Nat) ((ws i).length : Nat)))
  obtain ⟨e0, e1, -, e3, -⟩ := (hT.later (below1 w (objX (adr (ws i) 0 : Nat) ((ws i).length : Nat)))).at (at_nd hi)
  rw [hh] at e3
  have ca := (hT.cap_le).1
  have hi' : (i : Int) < (ns.length : Int) := by omega
  obtain ⟨a, ha⟩ : ∃ a, (nd ns i).a = a := ⟨_, rfl⟩
  obtain ⟨b, hb⟩ : ∃ b, (nd ns i).b = b := ⟨_, rfl⟩
  have HA : Hid ((nd ns i).a = a) := ha
  have HB : Hid ((nd ns i).b = b) := hb
  rw [ha] at e0
  rw [hb] at e1
  obtain ⟨A, hA⟩ : ∃ A, adr (ws i) 0 = A := ⟨_, rfl⟩
  obtain ⟨l, hl⟩ : ∃ l, (ws i).length = l := ⟨_, rfl⟩
  have HAd : Hid (adr (ws i) 0 = A) := hA
  have HLe : Hid ((ws i).length = l) := hl
  rw [hA, hl] at z0 fz e0 e1 e3
  rw [hA, hl]
  rw [hl] at hf
  have hbw1 : base ≤ (w.alloc (objX (A : Int) (l : Int))).heap.size := by simp; omega
  have i0 := idx0 (.int .i64 (a : Int)) (.int .i64 (b : Int))
  have i1 := idx1 (.int .i64 (a : Int)) (.int .i64 (b : Int))
  have hn1 : n + 1 ≤ 100000 := by omega
  have hl33 : (l : Int) ≤ 32 := by omega
  clear hT hG IH hO hlen hh ha hb hA hl
  go_enter Try.func56, Try.ntmps56
  have HH1 : Hid ((hereN f ns ws i 0).map keyX = [⟨(A : Int), (l : Int)⟩]) := here_h1 f HHd.out HAd.out HLe.out
  go_wp2_with (at_builtin; go_loud (refine wpList_appXg rfl (.tmp 20) (.tmp 22) rfl base _ n out rfl ((HO.out.later (below1 _ _)).later (below1 _ _)) _ _ ⟨(A : Int), (l : Int)⟩ rfl (X2.newAt (w.alloc (objX (A : Int) (l : Int))) (w.heap.size + 1) (by simp) (A : Int) (l : Int)) hn1 (by simp; omega) ?_; intro a2 c2 W2 own2 k2 b2; have hW : WiS (w.alloc (objX (A : Int) (l : Int))) base (.slice ad n cp) (out ++ (hereN f ns ws i 0).map keyX) a2 (n + 1) c2 W2 := ⟨(by rw [HH1.out]; exact own2), keep_then (below1 _ _) k2, (fun k hk => (b2 k hk).imp id fun h => by rw [h]; simp)⟩; have HW : Hid (WiS (w.alloc (objX (A : Int) (l : Int))) base (.slice ad n cp) (out ++ (hereN f ns ws i 0).map keyX) a2 (n + 1) c2 W2) := hW; clear own2 k2 b2 hW; obtain ⟨hT2, -, -, hs2, -⟩ := HW.out.facts HT.out HO.out hNb hgb hbw; have z0 := hT2.c0; obtain ⟨e0, e1, -, -, -⟩ := hT2.at (at_nd hi); rw [HA.out] at e0; rw [HB.out] at e1; clear hT2))
  go_loopw [3, 32] (fun o_ s_ W => WiR (w.alloc (objX (A : Int) (l : Int))) base (.slice ad n cp) out f ns ws i o_ s_ W) (fun _ s_ _ => 2 - (intOf s_).toNat)
  case atStart => exact ⟨0, _, _, _, .inl ⟨rfl, rfl⟩, rfl, HW.out⟩
  case round =>
    clear z0 fz e0 e1 e3 hs2
    obtain ⟨j, a2, n2, c2, hc, rfl, hW⟩ := hrel
    have HW : Hid (WiS (w.alloc (objX (A : Int) (l : Int))) base (.slice ad n cp) (out ++ (hereN f ns ws i j).map keyX) a2 n2 c2 wr) := hW
    obtain ⟨hTr, x0, x1, hs, hbr⟩ := hW.facts HT.out HO.out hNb hgb hbw
    have HTr : Hid (TrM wr N g cap most cnt ns) := hTr
    have hbr1 : base ≤ (wr.alloc (objX (A : Int) ((l : Int) + 1))).heap.size := by simp; omega
    clear hTr
    clear hW
    obtain ⟨rfl, rfl⟩ | ⟨rfl, rfl⟩ | ⟨rfl, rfl⟩ := hc
    · by_cases ha0 : a = 0
      · have t1 : ((a : Int) != 0) = false := by rw [bne_eq_false_iff_eq]; omega
        have HE : Hid (hereN f ns ws i 1 = hereN f ns ws i 0) := here_a0 (by rw [HA.out]; exact ha0)
        clear ha0
        go_wp2
        go_roundw
        case rel => exact ⟨1, _, _, _, .inr (.inl ⟨rfl, rfl⟩), rfl, by rw [HE.out]; exact HW.out⟩
        case measure => simp [intOf]
      · have t1 : ((a : Int) != 0) = true := by rw [bne_iff_ne]; omega
        have hor := or_zero (A := A) (by rw [← HAd.out]; have := adr_lt (ws i) 0 (by rw [HLe.out]; omega); simpa using this)
        have HC : Hid ((nd ns i).kid false = a ∧ a ≠ 0 ∧ adr (ws i ++ [false]) 0 = A ∧ l + (f + 1) = 33) := ⟨HA.out, ha0, by rw [adr_zero, HAd.out], hf⟩
        have HE : Hid (hereN f ns ws i 1 = hereN f ns ws i 0 ++ lst f ns ws a) := by unfold Hid; rw [here_a1 (by rw [HA.out]; exact ha0), HA.out]
        have HN2 : Hid (n2 + (lst f ns ws a).length ≤ 90000) := by
          have h1 := (here_le f ns ws i).2
          rw [HE.out, List.length_append] at h1
          have h2 := HW.out.1.len
          rw [List.length_append, List.length_map, HOl.out] at h2
          have := HLn.out
          unfold Hid; omega
        clear ha0 hf
        go_wp2_with (go_at_call 56; refine (WithinS.kid HIH.out HG.out hi HC.out.1 HC.out.2.1 HC.out.2.2.1 HLe.out HC.out.2.2.2 (wr.alloc (objX (A : Int) ((l : Int) + 1))) a2 n2 c2 _ (HTr.out.later (below1 _ _)) hbr1 (HW.out.1.later (below1 _ _)) HN2.out).mono ?_; rintro e W3 ⟨a3, n3, c3, rfl, o3, k3, b3⟩; have HW3 : Hid (WiS (w.alloc (objX (A : Int) (l : Int))) base (.slice ad n cp) ((out ++ (hereN f ns ws i 0).map keyX) ++ (lst f ns ws a).map keyX) a3 n3 c3 W3) := HW.out.call o3 k3 b3; clear o3 k3 b3)
        go_roundw
        case rel => exact ⟨1, _, _, _, .inr (.inl ⟨rfl, rfl⟩), rfl, by rw [HE.out, List.map_append, ← List.append_assoc]; exact HW3.out⟩
        case measure => simp [intOf]
    · by_cases hb0 : b = 0
      · have t1 : ((b : Int) != 0) = false := by rw [bne_eq_false_iff_eq]; omega
        have HE : Hid (hereN f ns ws i 2 = hereN f ns ws i 1) := here_b0 (by rw [HB.out]; exact hb0)
        clear hb0
        go_wp2
        go_roundw
        case rel => exact ⟨2, _, _, _, .inr (.inr ⟨rfl, rfl⟩), rfl, by rw [HE.out]; exact HW.out⟩
        case measure => simp [intOf]
      · have t1 : ((b : Int) != 0) = true := by rw [bne_iff_ne]; omega
        have hl31 : (l : Int) ≤ 31 := by
          obtain ⟨k1, k2, -⟩ := HG.out.kid_nd hi true (by rw [show (nd ns i).kid true = b from HB.out]; exact hb0)
          have := HG.out.d _ k1
          rw [k2, List.length_append, HLe.out] at this
          simp at this
          omega
        obtain ⟨X, hX⟩ : ∃ X, adr (ws i ++ [true]) 0 = X := ⟨_, rfl⟩
        have hor := or_bit' HLe.out (by omega) HAd.out hX
        have HC : Hid ((nd ns i).kid true = b ∧ b ≠ 0 ∧ adr (ws i ++ [true]) 0 = X ∧ l + (f + 1) = 33) := ⟨HB.out, hb0, hX, hf⟩
        have hbr2 : base ≤ (wr.alloc (objX (X : Int) ((l : Int) + 1))).heap.size := by simp; omega
        have HE : Hid (hereN f ns ws i 2 = hereN f ns ws i 1 ++ lst f ns ws b) := by unfold Hid; rw [here_b1 (by rw [HB.out]; exact hb0), HB.out]
        have HN2 : Hid (n2 + (lst f ns ws b).length ≤ 90000) := by
          have h2 := HW.out.1.len
          rw [List.length_append, List.length_map, HOl.out] at h2
          have h3 := HLn.out
          rw [HE.out, List.length_append] at h3
          unfold Hid; omega
        clear hb0 hf hX hbr1
        go_wp2_with (go_at_call 56; refine (WithinS.kid HIH.out HG.out hi HC.out.1 HC.out.2.1 HC.out.2.2.1 HLe.out HC.out.2.2.2 (wr.alloc (objX (X : Int) ((l : Int) + 1))) a2 n2 c2 _ (HTr.out.later (below1 _ _)) hbr2 (HW.out.1.later (below1 _ _)) HN2.out).mono ?_; rintro e W3 ⟨a3, n3, c3, rfl, o3, k3, b3⟩; have HW3 : Hid (WiS (w.alloc (objX (A : Int) (l : Int))) base (.slice ad n cp) ((out ++ (hereN f ns ws i 1).map keyX) ++ (lst f ns ws b).map keyX) a3 n3 c3 W3) := HW.out.call o3 k3 b3; clear o3 k3 b3)
        go_roundw
        case rel => exact ⟨2, _, _, _, .inr (.inr ⟨rfl, rfl⟩), rfl, by rw [HE.out, List.map_append, ← List.append_assoc]; exact HW3.out⟩
        case measure => simp [intOf]
    · go_wp2
      go_ret
      exact ⟨_, _, _, rfl, HW.out.1, keep_then (below1 _ _) HW.out.2.1, fun k hk => (HW.out.2.2 k hk).imp id fun h => by simp at h; omega⟩
end Go.Proofs.Ytcabeclbdjfoaaa
/- The contracts of the program's within and All. -/
namespace Go.Proofs.Ytcabeclbdjfoaaa
open Go.RowKit

set_option maxHeartbeats 4000000 in
theorem within_no (N g cap : Nat) (most cnt : Int) (ns : List Nd) (ws : Nat → List Bool) (base f : Nat) (hG : Good ns ws) (hNb : N < base) (hgb : g < base) (IH : WithinS N g cap most cnt ns ws base f) (i : Nat) (w : World) (ad : Option Addr) (n cp : Nat) (out : List Px) (hT : TrM w N g cap most cnt ns) (hbw : base ≤ w.heap.size) (hi : i < ns.length) (hf : (ws i).length + (f + 1) = 33) (hO : OwnX w base (.slice ad n cp) n out) (hlen : n + (lst (f + 1) ns ws i).length ≤ 90000) (hh : (nd ns i).h = false) :
    Calls Try.prog 56 #[.pointer (some ⟨N, 0, none⟩), .int .i64 (i : Int), valX (adr (ws i) 0 : Nat) ((ws i).length : Nat), .slice ad n cp] w (WithinD w base (.slice ad n cp) out (lst (f + 1) ns ws i)) := by
  have HT : Hid (TrM w N g cap most cnt ns) := hT
  have HG : Hid (Good ns ws) := hG
  have HIH : Hid (WithinS N g cap most cnt ns ws base f) := IH
  have HO : Hid (OwnX w base (.slice ad n cp) n out) := hO
  have HOl : Hid (out.length = n) := hO.len
  have HLn : Hid (n + (hereN f ns ws i 2).length ≤ 90000) := by unfold Hid; rw [here_end]; exact hlen
  rw [← here_end]
  have HHd : Hid ((nd ns i).h = false) := hh
  have HF : Hid ((ws i).length + (f + 1) = 33) := hf
  obtain ⟨z0, -, -, fz, -, -, -⟩ := hT.later (below1 w (objX (adr (ws i) 0 : Nat) ((ws i).length : Nat)))
  obtain ⟨e0, e1, -, e3, -⟩ := (hT.later (below1 w (objX (adr (ws i) 0 : Nat) ((ws i).length : Nat)))).at (at_nd hi)
  rw [hh] at e3
  have ca := (hT.cap_le).1
  have hi' : (i : Int) < (ns.length : Int) := by omega
  obtain ⟨a, ha⟩ : ∃ a, (nd ns i).a = a := ⟨_, rfl⟩
  obtain ⟨b, hb⟩ : ∃ b, (nd ns i).b = b := ⟨_, rfl⟩
  have HA : Hid ((nd ns i).a = a) := ha
  have HB : Hid ((nd ns i).b = b) := hb
  rw [ha] at e0
  rw [hb] at e1
  obtain ⟨A, hA⟩ : ∃ A, adr (ws i) 0 = A := ⟨_, rfl⟩
  obtain ⟨l, hl⟩ : ∃ l, (ws i).length = l := ⟨_, rfl⟩
  have HAd : Hid (adr (ws i) 0 = A) := hA
  have HLe : Hid ((ws i).length = l) := hl
  rw [hA, hl] at z0 fz e0 e1 e3
  rw [hA, hl]
  rw [hl] at hf
  have hbw1 : base ≤ (w.alloc (objX (A : Int) (l : Int))).heap.size := by simp; omega
  have i0 := idx0 (.int .i64 (a : Int)) (.int .i64 (b : Int))
  have i1 := idx1 (.int .i64 (a : Int)) (.int .i64 (b : Int))
  have hl33 : (l : Int) ≤ 32 := by omega
  clear hT hG IH hO hlen hh ha hb hA hl
  go_enter Try.func56, Try.ntmps56
  have HW : Hid (WiS (w.alloc (objX (A : Int) (l : Int))) base (.slice ad n cp) (out ++ (hereN f ns ws i 0).map keyX) ad n cp (w.alloc (objX (A : Int) (l : Int)))) := ⟨by rw [here_h0 f HHd.out, List.append_nil]; exact HO.out.later (below1 _ _), Keep.refl _ _, fun k hk => .inl hk⟩
  go_wp2
  go_loopw [3, 32] (fun o_ s_ W => WiR (w.alloc (objX (A : Int) (l : Int))) base (.slice ad n cp) out f ns ws i o_ s_ W) (fun _ s_ _ => 2 - (intOf s_).toNat)
  case atStart => exact ⟨0, _, _, _, .inl ⟨rfl, rfl⟩, rfl, HW.out⟩
  case round =>
    clear z0 fz e0 e1 e3
    obtain ⟨j, a2, n2, c2, hc, rfl, hW⟩ := hrel
    have HW : Hid (WiS (w.alloc (objX (A : Int) (l : Int))) base (.slice ad n cp) (out ++ (hereN f ns ws i j).map keyX) a2 n2 c2 wr) := hW
    obtain ⟨hTr, x0, x1, hs, hbr⟩ := hW.facts HT.out HO.out hNb hgb hbw
    have HTr : Hid (TrM wr N g cap most cnt ns) := hTr
    have hbr1 : base ≤ (wr.alloc (objX (A : Int) ((l : Int) + 1))).heap.size := by simp; omega
    clear hTr
    clear hW
    obtain ⟨rfl, rfl⟩ | ⟨rfl, rfl⟩ | ⟨rfl, rfl⟩ := hc
    · by_cases ha0 : a = 0
      · have t1 : ((a : Int) != 0) = false := by rw [bne_eq_false_iff_eq]; omega
        have HE : Hid (hereN f ns ws i 1 = hereN f ns ws i 0) := here_a0 (by rw [HA.out]; exact ha0)
        clear ha0
        go_wp2
        go_roundw
        case rel => exact ⟨1, _, _, _, .inr (.inl ⟨rfl, rfl⟩), rfl, by rw [HE.out]; exact HW.out⟩
        case measure => simp [intOf]
      · have t1 : ((a : Int) != 0) = true := by rw [bne_iff_ne]; omega
        have hor := or_zero (A := A) (by rw [← HAd.out]; have := adr_lt (ws i) 0 (by rw [HLe.out]; omega); simpa using this)
        have HC : Hid ((nd ns i).kid false = a ∧ a ≠ 0 ∧ adr (ws i ++ [false]) 0 = A ∧ l + (f + 1) = 33) := ⟨HA.out, ha0, by rw [adr_zero, HAd.out], hf⟩
        have HE : Hid (hereN f ns ws i 1 = hereN f ns ws i 0 ++ lst f ns ws a) := by unfold Hid; rw [here_a1 (by rw [HA.out]; exact ha0), HA.out]
        have HN2 : Hid (n2 + (lst f ns ws a).length ≤ 90000) := by
          have h1 := (here_le f ns ws i).2
          rw [HE.out, List.length_append] at h1
          have h2 := HW.out.1.len
          rw [List.length_append, List.length_map, HOl.out] at h2
          have := HLn.out
          unfold Hid; omega
        clear ha0 hf
        go_wp2_with (go_at_call 56; refine (WithinS.kid HIH.out HG.out hi HC.out.1 HC.out.2.1 HC.out.2.2.1 HLe.out HC.out.2.2.2 (wr.alloc (objX (A : Int) ((l : Int) + 1))) a2 n2 c2 _ (HTr.out.later (below1 _ _)) hbr1 (HW.out.1.later (below1 _ _)) HN2.out).mono ?_; rintro e W3 ⟨a3, n3, c3, rfl, o3, k3, b3⟩; have HW3 : Hid (WiS (w.alloc (objX (A : Int) (l : Int))) base (.slice ad n cp) ((out ++ (hereN f ns ws i 0).map keyX) ++ (lst f ns ws a).map keyX) a3 n3 c3 W3) := HW.out.call o3 k3 b3; clear o3 k3 b3)
        go_roundw
        case rel => exact ⟨1, _, _, _, .inr (.inl ⟨rfl, rfl⟩), rfl, by rw [HE.out, List.map_append, ← List.append_assoc]; exact HW3.out⟩
        case measure => simp [intOf]
    · by_cases hb0 : b = 0
      · have t1 : ((b : Int) != 0) = false := by rw [bne_eq_false_iff_eq]; omega
        have HE : Hid (hereN f ns ws i 2 = hereN f ns ws i 1) := here_b0 (by rw [HB.out]; exact hb0)
        clear hb0
        go_wp2
        go_roundw
        case rel => exact ⟨2, _, _, _, .inr (.inr ⟨rfl, rfl⟩), rfl, by rw [HE.out]; exact HW.out⟩
        case measure => simp [intOf]
      · have t1 : ((b : Int) != 0) = true := by rw [bne_iff_ne]; omega
        have hl31 : (l : Int) ≤ 31 := by
          obtain ⟨k1, k2, -⟩ := HG.out.kid_nd hi true (by rw [show (nd ns i).kid true = b from HB.out]; exact hb0)
          have := HG.out.d _ k1
          rw [k2, List.length_append, HLe.out] at this
          simp at this
          omega
        obtain ⟨X, hX⟩ : ∃ X, adr (ws i ++ [true]) 0 = X := ⟨_, rfl⟩
        have hor := or_bit' HLe.out (by omega) HAd.out hX
        have HC : Hid ((nd ns i).kid true = b ∧ b ≠ 0 ∧ adr (ws i ++ [true]) 0 = X ∧ l + (f + 1) = 33) := ⟨HB.out, hb0, hX, hf⟩
        have hbr2 : base ≤ (wr.alloc (objX (X : Int) ((l : Int) + 1))).heap.size := by simp; omega
        have HE : Hid (hereN f ns ws i 2 = hereN f ns ws i 1 ++ lst f ns ws b) := by unfold Hid; rw [here_b1 (by rw [HB.out]; exact hb0), HB.out]
        have HN2 : Hid (n2 + (lst f ns ws b).length ≤ 90000) := by
          have h2 := HW.out.1.len
          rw [List.length_append, List.length_map, HOl.out] at h2
          have h3 := HLn.out
          rw [HE.out, List.length_append] at h3
          unfold Hid; omega
        clear hb0 hf hX hbr1
        go_wp2_with (go_at_call 56; refine (WithinS.kid HIH.out HG.out hi HC.out.1 HC.out.2.1 HC.out.2.2.1 HLe.out HC.out.2.2.2 (wr.alloc (objX (X : Int) ((l : Int) + 1))) a2 n2 c2 _ (HTr.out.later (below1 _ _)) hbr2 (HW.out.1.later (below1 _ _)) HN2.out).mono ?_; rintro e W3 ⟨a3, n3, c3, rfl, o3, k3, b3⟩; have HW3 : Hid (WiS (w.alloc (objX (A : Int) (l : Int))) base (.slice ad n cp) ((out ++ (hereN f ns ws i 1).map keyX) ++ (lst f ns ws b).map keyX) a3 n3 c3 W3) := HW.out.call o3 k3 b3; clear o3 k3 b3)
        go_roundw
        case rel => exact ⟨2, _, _, _, .inr (.inr ⟨rfl, rfl⟩), rfl, by rw [HE.out, List.map_append, ← List.append_assoc]; exact HW3.out⟩
        case measure => simp [intOf]
    · go_wp2
      go_ret
      exact ⟨_, _, _, rfl, HW.out.1, keep_then (below1 _ _) HW.out.2.1, fun k hk => (HW.out.2.2 k hk).imp id fun h => by simp at h; omega⟩
theorem within_any (N g cap : Nat) (most cnt : Int) (ns : List Nd) (ws : Nat → List Bool) (base : Nat) (hG : Good ns ws) (hNb : N < base) (hgb : g < base) : ∀ f, WithinS N g cap most cnt ns ws base f
  | 0 => fun i w ad n cp out _ _ hi hf _ _ => by have := hG.d i hi; omega
  | f + 1 => fun i w ad n cp out hT hb hi hf hO hn => by
    have IH := within_any N g cap most cnt ns ws base hG hNb hgb f
    cases hh : (nd ns i).h
    · exact within_no N g cap most cnt ns ws base f hG hNb hgb IH i w ad n cp out hT hb hi hf hO hn hh
    · exact within_yes N g cap most cnt ns ws base f hG hNb hgb IH i w ad n cp out hT hb hi hf hO hn hh
theorem withinZ (N g cap : Nat) (most cnt : Int) (ns : List Nd) (ws : Nat → List Bool) (L : List Pr) (w : World) (hT : TrM w N g cap most cnt ns) (hG : Good ns ws) (hH : Holds ns ws L) (hS : Srt L) (hl : L.length ≤ 90000) :
    Calls Try.prog 56 #[.pointer (some ⟨N, 0, none⟩), .int .i64 0, .agg #[.int .u32 0, .int .i64 0], .slice none 0 0] w (WithinD w w.heap.size (.slice none 0 0) [] L) := by
  have h := within_any N g cap most cnt ns ws w.heap.size hG hT.lt hT.g_lt 33 0 w none 0 0 [] hT (Nat.le_refl _) hG.r (by rw [hG.w]; rfl) (ownX_nil _ _) (by rw [lst_is hG hH hS]; omega)
  rw [lst_is hG hH hS, hG.w] at h
  exact h
set_option maxHeartbeats 400000 in
theorem all_any (N g cap : Nat) (most cnt : Int) (ns : List Nd) (ws : Nat → List Bool) (L : List Pr) (w : World) (hT : TrM w N g cap most cnt ns) (hG : Good ns ws) (hH : Holds ns ws L) (hS : Srt L) (hl : L.length ≤ 90000) :
    Calls Try.prog 41 #[.pointer (some ⟨N, 0, none⟩)] w fun e w' => ∃ ad n cap, e = .returned (.slice ad n cap) ∧ OwnX w' w.heap.size (.slice ad n cap) n (L.map keyX) ∧ Below w.heap.size w w' := by
  have HC : Hid (TrM w N g cap most cnt ns ∧ Good ns ws ∧ Holds ns ws L ∧ Srt L ∧ L.length ≤ 90000) := ⟨hT, hG, hH, hS, hl⟩
  clear hT hG hH hS hl
  go_enter Try.func41, Try.ntmps41
  go_wp2_with (go_at_call 56; refine (withinZ N g cap most cnt ns ws L w HC.out.1 HC.out.2.1 HC.out.2.2.1 HC.out.2.2.2.1 HC.out.2.2.2.2).mono ?_; rintro e W1 ⟨ad, n, cp, rfl, o1, k1, -⟩)
  go_ret
  exact ⟨_, _, _, rfl, by simpa using o1, ⟨k1.os, k1.tape, k1.output, k1.size, fun k hk => k1.block k hk (fun h => by cases h)⟩⟩
end Go.Proofs.Ytcabeclbdjfoaaa
