/- The contract of the program's within: what is behind one step of it. -/
import Derived.Test.YtifokdebocgaiaaPaveA
import Derived.Test.YtifokdebocgaiaaNodC
namespace Go.Proofs.Ytifokdebocgaiaa
open Go.RowKit

def ownB (v : Value) (k : Nat) : Prop := v.ownBlock = some k
theorem wpList_appXg {W : World} {ops : Array Oper} {rest : List Oper} {o : Oper} {a : Act} {Q : Exit → Act → World → Prop} (hgd : o.guard = none) (s x : Operand)
    (ho : o.op = .call { callee := .builtin .append, args := #[s, x], argTypes := #[43, 43] }) (base : Nat) (v : Value) (n : Nat) (es : List Px) (hs : a.eval s = v) (hown : OwnX W base v n es) (M c : Nat) (e : Px) (hx : a.eval x = .slice (some ⟨M, 0, none⟩) 1 c) (h2 : X2 W M 0 e) (hlen : n + 1 ≤ 100000) (hbase : base ≤ W.heap.size)
    (h : ∀ a' c' w', OwnX w' base (.slice a' (n + 1) c') (n + 1) (es ++ [e]) → Keep (ownB v) W w' → (∀ k, ownB (.slice a' (n + 1) c') k → ownB v k ∨ k = W.heap.size) → wpList Try.prog ops Q rest (a.put o.dst (.slice a' (n + 1) c')) w') : wpList Try.prog ops Q (o :: rest) a W := by
  obtain ⟨i, hi, hzz⟩ := Option.map_eq_some_iff.1 infoX
  simp only [Prod.mk.injEq] at hzz
  obtain ⟨hz0, hz1, hz2⟩ := hzz
  refine wpList_append_own_at W hgd s x 43 ho base 32 i _ 2 16 Try.underlying43 hi hz0 hz1 hz2 rfl (by decide) _ n _ hs hown ⟨M, 0, none⟩ 1 c ([e].flatMap Px.cs) hx (by rw [csX_flat_len]; rfl) ?_ ?_ (by unfold maxLen; omega) (by omega) hbase ?_
  · intro j u hj
    obtain ⟨c0, c1⟩ := h2
    rw [Go.WideShapes.add_plain]
    simp only [List.flatMap_cons, List.flatMap_nil, List.append_nil] at hj
    match j, hj with
    | 0, hj => simp [Px.cs] at hj; rw [← hj]; exact c0
    | 1, hj => simp [Px.cs] at hj; rw [← hj]; exact c1
    | j + 2, hj => simp [Px.cs] at hj
  · intro u hu
    simp [Px.cs] at hu
    rcases hu with rfl | rfl <;> rfl
  · intro v' w' hown' hgr _ hat
    have ho : OwnX w' base v' (n + 1) (es ++ [e]) := by unfold OwnX; rw [List.flatMap_append]; exact hown'
    obtain ⟨a', c', rfl⟩ := ho.shape
    refine h a' c' w' ho ⟨hgr.os, hgr.tape, hgr.output, hgr.size, fun k hk hn => hgr.block k hk (fun e => hn e.symm)⟩ fun k hk => ?_
    unfold ownB at hk ⊢
    rcases hat with e | e
    · left; rw [← e]; exact hk
    · right; rw [e] at hk; simpa using hk.symm
/-- What within answers. -/
def WithinD (w : World) (base : Nat) (v : Value) (out : List Px) (L : List Pr) (e : Ending) (w' : World) : Prop :=
  ∃ (ad : Option Addr) (n cp : Nat), e = .returned (.slice ad n cp) ∧ OwnX w' base (.slice ad n cp) n (out ++ L.map keyX) ∧ Keep (ownB v) w w' ∧ ∀ k, ownB (.slice ad n cp) k → ownB v k ∨ w.heap.size ≤ k
def WithinS (N g cap : Nat) (most cnt : Int) (ns : List Nd) (ws : Nat → List Bool) (base f : Nat) : Prop :=
  ∀ (i : Nat) (w : World) (ad : Option Addr) (n cp : Nat) (out : List Px), TrM w N g cap most cnt ns → base ≤ w.heap.size → i < ns.length → (ws i).length + f = 33 → OwnX w base (.slice ad n cp) n out → n + (lst f ns ws i).length ≤ 90000 →
    Calls Try.prog 34 #[.pointer (some ⟨N, 0, none⟩), .int .i64 (i : Int), valX (adr (ws i) 0 : Nat) ((ws i).length : Nat), .slice ad n cp] w (WithinD w base (.slice ad n cp) out (lst f ns ws i))
/-- What stands in a round: the row so far, and what may have turned since. -/
def WiS (w1 : World) (base : Nat) (v0 : Value) (es : List Px) (ad : Option Addr) (n cp : Nat) (W : World) : Prop :=
  OwnX W base (.slice ad n cp) n es ∧ Keep (ownB v0) w1 W ∧ ∀ k, ownB (.slice ad n cp) k → ownB v0 k ∨ w1.heap.size ≤ k
theorem WiS.call {w1 W W' : World} {base : Nat} {v0 : Value} {es : List Px} {ad : Option Addr} {n cp : Nat} {L : List Pr} (h : WiS w1 base v0 es ad n cp W) {o : Obj} {ad' : Option Addr} {n' cp' : Nat} (h1 : OwnX W' base (.slice ad' n' cp') n' (es ++ L.map keyX)) (h2 : Keep (ownB (.slice ad n cp)) (W.alloc o) W') (h3 : ∀ k, ownB (.slice ad' n' cp') k → ownB (.slice ad n cp) k ∨ (W.alloc o).heap.size ≤ k) : WiS w1 base v0 (es ++ L.map keyX) ad' n' cp' W' := by
  have hs := h.2.1.size
  refine ⟨h1, (h.2.1.alloc o).trans h2 fun k hk hb => ?_, fun k hk => ?_⟩
  · rcases h.2.2 k hb with h | h
    · exact h
    · omega
  · rcases h3 k hk with h' | h'
    · exact h.2.2 k h'
    · right
      simp at h'
      omega
/-- The rows of the three rounds. -/
def hereN (f : Nat) (ns : List Nd) (ws : Nat → List Bool) (i j : Nat) : List Pr :=
  (if (nd ns i).h = true then [prN (ws i) (nd ns i).n] else []) ++ ((if 1 ≤ j ∧ (nd ns i).a ≠ 0 then lst f ns ws (nd ns i).a else []) ++ (if 2 ≤ j ∧ (nd ns i).b ≠ 0 then lst f ns ws (nd ns i).b else []))
theorem here_end (f : Nat) (ns : List Nd) (ws : Nat → List Bool) (i : Nat) : hereN f ns ws i 2 = lst (f + 1) ns ws i := by
  unfold hereN
  rw [lst]
  by_cases h1 : (nd ns i).a = 0 <;> by_cases h2 : (nd ns i).b = 0 <;> simp [h1, h2]
theorem here_a0 {f : Nat} {ns : List Nd} {ws : Nat → List Bool} {i : Nat} (h : (nd ns i).a = 0) : hereN f ns ws i 1 = hereN f ns ws i 0 := by unfold hereN; simp [h]
theorem here_a1 {f : Nat} {ns : List Nd} {ws : Nat → List Bool} {i : Nat} (h : (nd ns i).a ≠ 0) : hereN f ns ws i 1 = hereN f ns ws i 0 ++ lst f ns ws (nd ns i).a := by unfold hereN; simp [h]
theorem here_b0 {f : Nat} {ns : List Nd} {ws : Nat → List Bool} {i : Nat} (h : (nd ns i).b = 0) : hereN f ns ws i 2 = hereN f ns ws i 1 := by unfold hereN; simp [h]
theorem here_b1 {f : Nat} {ns : List Nd} {ws : Nat → List Bool} {i : Nat} (h : (nd ns i).b ≠ 0) : hereN f ns ws i 2 = hereN f ns ws i 1 ++ lst f ns ws (nd ns i).b := by unfold hereN; simp [h]
theorem here_le (f : Nat) (ns : List Nd) (ws : Nat → List Bool) (i : Nat) : (hereN f ns ws i 0).length ≤ (hereN f ns ws i 1).length ∧ (hereN f ns ws i 1).length ≤ (hereN f ns ws i 2).length := by
  constructor
  · by_cases h : (nd ns i).a = 0
    · rw [here_a0 h]; exact Nat.le_refl _
    · rw [here_a1 h, List.length_append]; omega
  · by_cases h : (nd ns i).b = 0
    · rw [here_b0 h]; exact Nat.le_refl _
    · rw [here_b1 h, List.length_append]; omega
theorem here_h1 (f : Nat) {ns : List Nd} {ws : Nat → List Bool} {i A l : Nat} (h : (nd ns i).h = true) (hA : adr (ws i) 0 = A) (hl : (ws i).length = l) : (hereN f ns ws i 0).map keyX = [⟨(A : Int), (l : Int)⟩] := by
  unfold hereN
  rw [h, ← hA, ← hl]
  simp [keyX, prN]
theorem here_h0 (f : Nat) {ns : List Nd} {ws : Nat → List Bool} {i : Nat} (h : (nd ns i).h = false) : (hereN f ns ws i 0).map keyX = [] := by
  unfold hereN
  rw [h]
  simp
def WiR (w1 : World) (base : Nat) (v0 : Value) (out : List Px) (f : Nat) (ns : List Nd) (ws : Nat → List Bool) (i : Nat) (o_ s_ : Value) (W : World) : Prop :=
  ∃ (j : Nat) (ad : Option Addr) (n cp : Nat), ((s_ = .int .i64 0 ∧ j = 0) ∨ (s_ = .int .i64 1 ∧ j = 1) ∨ (s_ = .int .i64 2 ∧ j = 2)) ∧ o_ = .slice ad n cp ∧ WiS w1 base v0 (out ++ (hereN f ns ws i j).map keyX) ad n cp W
theorem WithinS.kid {N g cap : Nat} {most cnt : Int} {ns : List Nd} {ws : Nat → List Bool} {base f : Nat} (IH : WithinS N g cap most cnt ns ws base f) (hG : Good ns ws) {i c X l : Nat} {s : Bool} (hi : i < ns.length) (hc : (nd ns i).kid s = c) (h0 : c ≠ 0) (hX : adr (ws i ++ [s]) 0 = X) (hl : (ws i).length = l) (hf : l + (f + 1) = 33) :
    ∀ (W : World) (ad : Option Addr) (n cp : Nat) (out : List Px), TrM W N g cap most cnt ns → base ≤ W.heap.size → OwnX W base (.slice ad n cp) n out → n + (lst f ns ws c).length ≤ 90000 →
      Calls Try.prog 34 #[.pointer (some ⟨N, 0, none⟩), .int .i64 (c : Int), .agg #[.int .u32 (X : Int), .int .i64 ((l : Int) + 1)], .slice ad n cp] W (WithinD W base (.slice ad n cp) out (lst f ns ws c)) := by
  intro W ad n cp out hT hb hO hn
  obtain ⟨k1, k2, -⟩ := hG.kid_nd hi s (by rw [hc]; exact h0)
  rw [hc] at k1 k2
  have h2 : (ws c).length = l + 1 := by rw [k2, List.length_append, hl]; rfl
  have := IH c W ad n cp out hT hb k1 (by rw [h2]; omega) hO hn
  rw [h2, k2, hX] at this
  exact this
theorem or_zero {A : Nat} (h : A < 4294967296) : bits .or .u32 (A : Int) 0 = (A : Int) := by
  have := u32_or_nat A 0 h (by decide)
  simpa using this
theorem or_bit {p : List Bool} {l : Nat} (hl : p.length = l) (h : l < 32) : bits .or .u32 ((adr p 0 : Nat) : Int) ((2 ^ (31 - l) : Nat) : Int) = ((adr (p ++ [true]) 0 : Nat) : Int) := by
  have h1 := adr_mult p 0 (by omega)
  rw [hl, Nat.sub_zero] at h1
  have h2 := adr_lt p 0 (by omega)
  have h3 : 2 ^ (31 - l) < 2 ^ (32 - l) := Nat.pow_lt_pow_right (by omega) (by omega)
  have h4 : 2 ^ (32 - l) ≤ 2 ^ 32 := Nat.pow_le_pow_right (by omega) (by omega)
  obtain ⟨q, hq⟩ := Nat.dvd_of_mod_eq_zero h1
  rw [u32_or_nat _ _ (by omega) (by omega), adr_snoc, hl, Nat.zero_add, if_pos rfl, hq, Nat.two_pow_add_eq_or_of_lt h3]
theorem or_bit' {p : List Bool} {l A X : Nat} (hl : p.length = l) (h : l ≤ 31) (hA : adr p 0 = A) (hX : adr (p ++ [true]) 0 = X) : bits .or .u32 (A : Int) ((2 : Int) ^ (31 - l) % 4294967296) = (X : Int) := by
  have h3 : 2 ^ (31 - l) < 2 ^ 32 := Nat.pow_lt_pow_right (by omega) (by omega)
  have e : (2 : Int) ^ (31 - l) % 4294967296 = ((2 ^ (31 - l) : Nat) : Int) := by
    have e1 : (2 : Int) ^ (31 - l) = ((2 ^ (31 - l) : Nat) : Int) := by rw [Int.natCast_pow]; rfl
    rw [e1]
    generalize 2 ^ (31 - l) = q at h3
    omega
  rw [e, ← hA, ← hX]
  exact or_bit hl (by omega)
theorem adr_zero (p : List Bool) : adr (p ++ [false]) 0 = adr p 0 := by rw [adr_snoc]; simp
theorem WiS.facts {w W : World} {base N g cap n0 : Nat} {most cnt : Int} {ns : List Nd} {v0 : Value} {out es : List Px} {ad : Option Addr} {n cp : Nat} {A l : Int} (h : WiS (w.alloc (objX A l)) base v0 es ad n cp W) (hT : TrM w N g cap most cnt ns) (hO : OwnX w base v0 n0 out) (hN : N < base) (hg : g < base) (hbw : base ≤ w.heap.size) :
    TrM W N g cap most cnt ns ∧ W.cell? ⟨w.heap.size, 0, none⟩ = some (.int .u32 A) ∧ W.cell? ⟨w.heap.size, 1, none⟩ = some (.int .i64 l) ∧ w.heap.size < W.heap.size ∧ base ≤ W.heap.size := by
  have h1 : ¬ ownB v0 N := fun e => by have := hO.lt N e; omega
  have h2 : ¬ ownB v0 g := fun e => by have := hO.lt g e; omega
  have h3 : ¬ ownB v0 w.heap.size := fun e => by have := hO.own_lt e; omega
  have hs := h.2.1.size
  simp only [World.size_alloc] at hs
  exact ⟨(hT.later (below1 w (objX A l))).keep h.2.1 h1 h2, (h.2.1.cell (p := ⟨w.heap.size, 0, none⟩) (by simp) h3).trans (by simp [go_sem]), (h.2.1.cell (p := ⟨w.heap.size, 1, none⟩) (by simp) h3).trans (by simp [go_sem]), by omega, by omega⟩
end Go.Proofs.Ytifokdebocgaiaa
