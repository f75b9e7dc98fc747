/- Tags as numbers whose bits are domains: plain mathematics. No program is named here. -/
import Derived.Laws.BitsAllLaws
import Derived.Test.YtcabeclbdjfoaaaMat9
import Derived.Below
import Derived.Laws.AppendOwn
import Derived.OwnWalk
import Derived.WalkKit
import Derived.WalkSpells
import Derived.ProofKit
import Derived.OpenShut
import Derived.Test.YtcabeclbdjfoaaaRibA
import Derived.WalkSmall
namespace Go.Proofs.Ytcabeclbdjfoaaa

def domB (d : Int) : Bool := decide (0 ≤ d ∧ d < 16)
def hasT (t : Nat) (d : Int) : Bool := domB d && t.testBit d.toNat
/-- The places of the lowest k bits that are 1, rising. -/
def allK : Nat → Nat → List Int
  | 0, _ => []
  | k + 1, t => if t.testBit k then allK k t ++ [(k : Int)] else allK k t
def addT (t : Nat) (d : Int) : Nat := if domB d then if t.testBit d.toNat then 0 else t ||| 2 ^ d.toNat else 0
def addE (t : Nat) (d : Int) : Nat := if domB d then if t.testBit d.toNat then 6 else 0 else 1
theorem domB_true {d : Int} (h0 : 0 ≤ d) (h1 : d < 16) : domB d = true := by simp [domB, h0, h1]
theorem domB_lo {d : Int} (h : d < 0) : domB d = false := by simp [domB]; omega
theorem domB_hi {d : Int} (h : 16 ≤ d) : domB d = false := by simp [domB]; omega
theorem domB_iff {d : Int} : domB d = true ↔ 0 ≤ d ∧ d < 16 := by simp [domB]

theorem pow_bd {n : Nat} (h : n < 16) : 0 < 2 ^ n ∧ 2 ^ n ≤ 32768 := by
  have h1 : 2 ^ n ≤ 2 ^ 15 := Nat.pow_le_pow_right (by omega) (by omega)
  exact ⟨Nat.two_pow_pos _, by simpa using h1⟩

theorem and_pow (t n : Nat) : t &&& 2 ^ n = if t.testBit n then 2 ^ n else 0 := by
  apply Nat.eq_of_testBit_eq
  intro i
  rw [Nat.testBit_and, Nat.testBit_two_pow]
  by_cases h : n = i
  · subst h; cases t.testBit n <;> simp
  · cases t.testBit n <;> simp [h]
theorem bit_and (t n : Nat) : (t &&& 2 ^ n != 0) = t.testBit n := by
  rw [and_pow]
  have := Nat.two_pow_pos n
  cases t.testBit n <;> simp
theorem or_lt {a b : Nat} (ha : a < 65536) (hb : b < 65536) : a ||| b < 65536 := Nat.or_lt_two_pow (n := 16) ha hb
theorem and_lt {a b : Nat} (ha : a < 65536) : a &&& b < 65536 := Nat.lt_of_le_of_lt Nat.and_le_left ha
theorem allK_succ (k t : Nat) : allK (k + 1) t = if t.testBit k then allK k t ++ [(k : Int)] else allK k t := rfl
theorem allK_len (k t : Nat) : (allK k t).length = cnt k t := by
  induction k with
  | zero => rfl
  | succ k ih =>
    simp only [allK, cnt]
    cases t.testBit k <;> simp [ih]

theorem addT_lt {t : Nat} (h : t < 65536) (d : Int) : addT t d < 65536 := by
  unfold addT
  split
  · rename_i hd
    split
    · omega
    · have h2 := domB_iff.1 hd
      have := pow_bd (n := d.toNat) (by omega)
      exact or_lt h (by omega)
  · omega
theorem addE_zero {t : Nat} {d : Int} : addE t d = 0 ↔ domB d = true ∧ t.testBit d.toNat = false := by
  unfold addE
  cases domB d <;> cases t.testBit d.toNat <;> simp
theorem addE_ok {t : Nat} {d : Int} (h : domB d = true) (k : t.testBit d.toNat = false) : addE t d = 0 ∧ addT t d = t ||| 2 ^ d.toNat := by
  unfold addE addT
  rw [if_pos h, if_pos h, if_neg (by simp [k]), if_neg (by simp [k])]
  exact ⟨rfl, rfl⟩
end Go.Proofs.Ytcabeclbdjfoaaa
/- Rows of ints: those that came in, and those of one's own with append of one number. No program is named here. -/
namespace Go.Proofs.Ytcabeclbdjfoaaa
open Go.RowKit

/-- A slice of ints that reads l. -/
def RowZ (w : World) (a : Option Addr) (len : Nat) (l : List Int) : Prop :=
  l.length = len ∧ len ≤ 140737488351232 ∧ ∀ i, i < len → ∃ b off, a = some ⟨b, off, none⟩ ∧ w.cell? ⟨b, off + i, none⟩ = some (.int .i64 (l[i]?.getD 0))
theorem RowZ.later {w w' : World} {a : Option Addr} {len : Nat} {l : List Int} (h : RowZ w a len l) (hb : Below w.heap.size w w') : RowZ w' a len l :=
  ⟨h.1, h.2.1, fun i hi => by obtain ⟨b, off, e, hc⟩ := h.2.2 i hi; exact ⟨b, off, e, cell_later hb hc⟩⟩
theorem rowZ_of {w : World} {a : Option Addr} {len cap : Nat} {zs : List Int}
    (h : (a = none ∧ len = 0 ∧ cap = 0 ∧ zs = []) ∨ ∃ x, a = some x ∧ len ≤ cap ∧ cap ≤ maxLen ∧ zs.length = cap ∧ (∀ i, i < zs.length → w.cell? (x.add i) = some (.int .i64 (zs.getD i 0))) ∧ ∀ n ∈ zs, (Lit.int .i64 n).wf = true) (hle : len ≤ 3000) :
    RowZ w a len (zs.take len) := by
  rcases h with ⟨rfl, rfl, rfl, rfl⟩ | ⟨x, rfl, hlc, hcap, hz, hc, hwf⟩
  · exact ⟨rfl, by omega, fun i hi => by omega⟩
  · refine ⟨by simp; omega, by omega, fun i hi => ?_⟩
    obtain ⟨b, off, rfl, hc'⟩ := ints_at hc (by omega)
    refine ⟨b, off, rfl, ?_⟩
    rw [hc' i (by omega)]
    simp [hi]
theorem rowZ_new (w : World) (l : List Int) (t : TypeId) (hm : l.length ≤ 3000) :
    RowZ (w.alloc (.cells (l.map (Value.int .i64)).toArray t)) (some ⟨w.heap.size, 0, none⟩) l.length l := by
  refine ⟨rfl, by omega, fun i hi => ⟨_, _, rfl, ?_⟩⟩
  rw [World.cell?_alloc_new]
  simp [hi]

/-- The slice value v, of n ints l, is a row of one's own, from block base on. -/
def OwnZ (w : World) (base : Nat) (e : TypeId) (v : Value) (n : Nat) (l : List Int) : Prop := w.ownsRow base e 1 v n (l.map (Value.int .i64))

theorem OwnZ.shape {w : World} {base : Nat} {e : TypeId} {v : Value} {n : Nat} {l : List Int} (h : OwnZ w base e v n l) : ∃ a cap, v = .slice a n cap := by
  rcases h.2 with ⟨rfl, rfl⟩ | ⟨g, c, cur, hv, _⟩
  · exact ⟨_, _, rfl⟩
  · exact ⟨_, _, hv⟩
theorem OwnZ.len {w : World} {base : Nat} {e : TypeId} {v : Value} {n : Nat} {l : List Int} (h : OwnZ w base e v n l) : l.length = n := by have := h.1; simpa using this
theorem ownZ_nil (w : World) (base : Nat) (e : TypeId) : OwnZ w base e (.slice none 0 0) 0 [] := World.ownsRow_nil w base e 1
theorem OwnZ.lt {w : World} {base : Nat} {e : TypeId} {v : Value} {n : Nat} {l : List Int} (h : OwnZ w base e v n l) : ∀ k, v.ownBlock = some k → base ≤ k := fun k hk => (World.ownsRow.lt h k hk).1
/-- Where the row lies, and its cells. -/
theorem OwnZ.cells {w : World} {base : Nat} {e : TypeId} {a : Option Addr} {n m cap : Nat} {l : List Int} (h : OwnZ w base e (.slice a m cap) n l) (h0 : 0 < n) :
    ∃ g, a = some ⟨g, 0, none⟩ ∧ base ≤ g ∧ g < w.heap.size ∧ ∀ i, i < n → w.cell? ⟨g, i, none⟩ = some (.int .i64 (l[i]?.getD 0)) := by
  have hl := h.len
  rcases h.2 with ⟨_, h1⟩ | ⟨g, c, cur, hv, _⟩
  · omega
  · have hlt := World.ownsRow.lt h g (by rw [hv]; rfl)
    have hc := fun i hi => World.ownsRow.cells h (g := g) (by rw [hv]; rfl) i (.int .i64 (l[i]?.getD 0)) hi
    simp only [Value.slice.injEq] at hv
    refine ⟨g, hv.1, hlt.1, hlt.2, fun i hi => ?_⟩
    have := hc i (by simp [hl, hi])
    simpa [Go.WideShapes.add_plain] using this
theorem OwnZ.row {w : World} {base : Nat} {e : TypeId} {a : Option Addr} {n m cap : Nat} {l : List Int} (h : OwnZ w base e (.slice a m cap) n l) (hn : n ≤ 100000) : RowZ w a n l := by
  refine ⟨h.len, by omega, fun i hi => ?_⟩
  obtain ⟨g, e, _, _, hc⟩ := h.cells (by omega)
  exact ⟨g, 0, e, by simpa using hc i hi⟩
/-- A new block changes nothing of it. -/
theorem OwnZ.later {w w' : World} {base : Nat} {e : TypeId} {v : Value} {n : Nat} {l : List Int} (h : OwnZ w base e v n l) (hb : Below w.heap.size w w') : OwnZ w' base e v n l := by
  refine ⟨h.1, ?_⟩
  rcases h.2 with h2 | ⟨g, c, cur, hv, h3, h4, h5, h6, h7⟩
  · exact .inl h2
  · refine .inr ⟨g, c, cur, hv, h3, ?_, h5, h6, h7⟩
    have hlt := (World.ownsRow.lt h g (by rw [hv]; rfl)).2
    rw [hb.block g hlt]
    exact h4

section
variable {P : Program} (w : World)
theorem run_appZ (base : Nat) (t ty e : TypeId) (ht : P.underlying t = some (.slice e)) (hinfo : (P.info? e).map (fun i => (i.zero, i.size, i.bytes)) = some (some (.int .i64 0), 1, 8))
    (v : Value) (n : Nat) (l1 : List Int) (hown : OwnZ w base e v n l1) (g : Nat) (c : Nat) (x : Int) (h2 : w.cell? ⟨g, 0, none⟩ = some (.int .i64 x)) (hlen : n ≤ 100000) (hbase : base ≤ w.heap.size) :
    ∃ a' c' w', (Builtin.append_ #[t, t] ty #[v, .slice (some ⟨g, 0, none⟩) 1 c]).run P w = .ok (.slice a' (n + 1) c') w' ∧ OwnZ w' base e (.slice a' (n + 1) c') (n + 1) (l1 ++ [x]) ∧ Below base w w' := by
  obtain ⟨i, hi, hzz⟩ := Option.map_eq_some_iff.1 hinfo
  simp only [Prod.mk.injEq] at hzz
  obtain ⟨hz, hs, hb⟩ := hzz
  have hnews : ∀ j u, ([Value.int .i64 x] : List Value)[j]? = some u → w.cell? ((⟨g, 0, none⟩ : Addr).add j) = some u := by
    intro j u hj
    cases j with
    | zero => simp at hj; subst hj; simpa [Go.WideShapes.add_plain] using h2
    | succ j => simp at hj
  obtain ⟨v', w', hr, h3, h4, _⟩ := run_append_own (P := P) w base t ty e i (.int .i64 0) 1 8 ht hi hz hs hb rfl (by decide) v n _ hown ⟨g, 0, none⟩ 1 c [Value.int .i64 x] (by simp) hnews
    (by intro u hu; simp at hu; subst hu; rfl) (by unfold maxLen; omega) (by omega) hbase
  have h5 : OwnZ w' base e v' (n + 1) (l1 ++ [x]) := by unfold OwnZ; rw [List.map_append]; exact h3
  obtain ⟨a', c', rfl⟩ := h5.shape
  exact ⟨a', c', w', hr, h5, (Below.refl _ _).grown h4 hbase hown.lt⟩

theorem wpList_appZ {ops : Array Oper} {rest : List Oper} {o : Oper} {a : Act} {Q : Exit → Act → World → Prop} (hgd : o.guard = none) (s x : Operand) (t e : TypeId)
    (ho : o.op = .call { callee := .builtin .append, args := #[s, x], argTypes := #[t, t] }) (base : Nat)
    (ht : P.underlying t = some (.slice e)) (hinfo : (P.info? e).map (fun i => (i.zero, i.size, i.bytes)) = some (some (.int .i64 0), 1, 8))
    (v : Value) (n : Nat) (l1 : List Int) (hs : a.eval s = v) (hown : OwnZ w base e v n l1) (g c : Nat) (y : Int) (hx : a.eval x = .slice (some ⟨g, 0, none⟩) 1 c) (h2 : w.cell? ⟨g, 0, none⟩ = some (.int .i64 y)) (hlen : n ≤ 100000) (hbase : base ≤ w.heap.size)
    (h : ∀ a' c' w', OwnZ w' base e (.slice a' (n + 1) c') (n + 1) (l1 ++ [y]) → Below base w w' → wpList P ops Q rest (a.put o.dst (.slice a' (n + 1) c')) w') : wpList P ops Q (o :: rest) a w := by
  refine wpList_plain hgd fun _ hK => ?_
  obtain ⟨a', c', w', hr, h3, h4⟩ := run_appZ (P := P) w base t o.type e ht hinfo v n l1 hown g c y h2 hlen hbase
  unfold Oper.wp execOp
  simp only [ho, resolve, invoke, builtin, Sem.run_bind, Sem.run_pure, Result.andThen_ok, List.map_toArray, List.map_cons, List.map_nil, hs, hx, hr]
  exact hK _ _ (h a' c' w' h3 h4)
end
end Go.Proofs.Ytcabeclbdjfoaaa
/- Contracts of tags. -/
namespace Go.Proofs.Ytcabeclbdjfoaaa
open Go.RowKit

theorem isDomain_any (d : Int) (w : World) {v : Bool} (hv : domB d = v) :
    Calls Try.prog 48 #[.int .i64 d] w fun e w' => e = .returned (.bool v) ∧ w' = w := by
  subst hv
  by_cases h0 : 0 ≤ d <;> by_cases h1 : d < 16
  all_goals
    go_enter Try.func48, Try.ntmps48
    go_wp2
    go_ret
    exact ⟨ret_bool (by simp [domB, h0, h1]), rfl⟩
theorem bitT_any (n p : Nat) (w : World) (hn : n < 16) (hp : p = 2 ^ n) :
    Calls Try.prog 50 #[.int .i64 (n : Int)] w fun e w' => e = .returned (.int .u16 (p : Int)) ∧ w' = w := by
  subst hp
  have hm : min n 16 = n := by omega
  have hb := pow_bd hn
  have hb2 : (0 : Int) < 2 ^ n ∧ (2 : Int) ^ n ≤ 32768 := by
    have e : ((2 ^ n : Nat) : Int) = 2 ^ n := by simp
    omega
  go_enter Try.func50, Try.ntmps50
  go_wp2
  go_ret
  exact ⟨ret_int (by simp), rfl⟩

theorem hasT_any (t : Nat) (d : Int) (w : World) (ht : t < 65536) {v : Bool} (hv : hasT t d = v) :
    Calls Try.prog 49 #[.int .u16 (t : Int), .int .i64 d] w fun e w' => e = .returned (.bool v) ∧ w' = w := by
  cases hd : domB d
  · obtain rfl : v = false := by rw [← hv]; simp [hasT, hd]
    clear hv
    go_enter Try.func49, Try.ntmps49
    go_wp2_with (go_at_call 48; refine (isDomain_any _ _ hd).mono ?_; rintro e w' ⟨rfl, rfl⟩)
    go_ret
    exact ⟨rfl, rfl⟩
  · have h01 := domB_iff.1 hd
    obtain ⟨n, rfl⟩ := Int.eq_ofNat_of_zero_le h01.1
    have hn : n < 16 := by omega
    obtain ⟨p, hp⟩ : ∃ p, p = 2 ^ n := ⟨_, rfl⟩
    have hb := pow_bd hn
    rw [← hp] at hb
    have hq : (bits .and .u16 (t : Int) (p : Int) != 0) = v := by
      rw [u16_and_nat t p ht (by omega), ← hv]
      have := bit_and t n
      rw [← hp] at this
      simp only [hasT, hd, Bool.true_and, Int.toNat_natCast]
      rw [← this, Bool.eq_iff_iff]
      simp
    have HP : Hid (p = 2 ^ n) := hp
    clear hp hv h01
    go_enter Try.func49, Try.ntmps49
    go_wp2_with (first
      | (go_at_call 48; refine (isDomain_any _ _ hd).mono ?_; rintro e w' ⟨rfl, rfl⟩)
      | (go_at_call 50; refine (bitT_any n p _ hn HP.out).mono ?_; rintro e w' ⟨rfl, rfl⟩))
    go_ret
    exact ⟨rfl, rfl⟩

theorem addT_any (t : Nat) (d : Int) (w : World) (ht : t < 65536) {x y : Nat} (hx : addT t d = x) (hy : addE t d = y) :
    Calls Try.prog 35 #[.int .u16 (t : Int), .int .i64 d] w fun e w' => e = .returned (.tuple #[.int .u16 (x : Int), .int .i64 (y : Int)]) ∧ w' = w := by
  cases hd : domB d
  · obtain rfl : x = 0 := by rw [← hx]; simp [addT, hd]
    obtain rfl : y = 1 := by rw [← hy]; simp [addE, hd]
    clear hx hy
    go_enter Try.func35, Try.ntmps35
    go_wp2_with (go_at_call 48; refine (isDomain_any _ _ hd).mono ?_; rintro e w' ⟨rfl, rfl⟩)
    go_ret2
    exact ⟨rfl, rfl⟩
  · have h01 := domB_iff.1 hd
    obtain ⟨n, rfl⟩ := Int.eq_ofNat_of_zero_le h01.1
    have hn : n < 16 := by omega
    clear h01
    cases h1 : t.testBit n
    · have hh : hasT t (n : Int) = false := by simp [hasT, h1]
      obtain ⟨p, hp⟩ : ∃ p, p = 2 ^ n := ⟨_, rfl⟩
      have hb := pow_bd hn
      rw [← hp] at hb
      obtain rfl : y = 0 := by rw [← hy]; simp [addE, hd, h1]
      have hq : bits .or .u16 (t : Int) (p : Int) = (x : Int) := by
        rw [u16_or_nat t p ht (by omega), ← hx, addT, if_pos hd]
        simp [h1, hp]
      have HP : Hid (p = 2 ^ n) := hp
      clear hp hx hy h1
      go_enter Try.func35, Try.ntmps35
      go_wp2_with (first
        | (go_at_call 48; refine (isDomain_any _ _ hd).mono ?_; rintro e w' ⟨rfl, rfl⟩)
        | (go_at_call 49; refine (hasT_any t _ _ ht hh).mono ?_; rintro e w' ⟨rfl, rfl⟩)
        | (go_at_call 50; refine (bitT_any n p _ hn HP.out).mono ?_; rintro e w' ⟨rfl, rfl⟩))
      go_ret2
      exact ⟨rfl, rfl⟩
    · have hh : hasT t (n : Int) = true := by simp [hasT, h1, hd]
      obtain rfl : x = 0 := by rw [← hx]; simp [addT, h1]
      obtain rfl : y = 6 := by rw [← hy]; simp [addE, hd, h1]
      clear hx hy h1
      go_enter Try.func35, Try.ntmps35
      go_wp2_with (first
        | (go_at_call 48; refine (isDomain_any _ _ hd).mono ?_; rintro e w' ⟨rfl, rfl⟩)
        | (go_at_call 49; refine (hasT_any t _ _ ht hh).mono ?_; rintro e w' ⟨rfl, rfl⟩))
      go_ret2
      exact ⟨rfl, rfl⟩

theorem info3 : (Try.prog.info? 3).map (fun i => (i.zero, i.size, i.bytes)) = some (some (.int .i64 0), 1, 8) := by kernel_rfl
theorem int_cell (W : World) (x : Value) : (W.alloc (.cells #[x] 3)).cell? ⟨W.heap.size, 0, none⟩ = some x := by simp [go_sem]
set_option maxHeartbeats 1000000 in
theorem allT_any (t : Nat) (w : World) (ht : t < 65536) :
    Calls Try.prog 57 #[.int .u16 (t : Int)] w fun e w' => ∃ a c, e = .returned (.slice a (dep t) c) ∧ OwnZ w' w.heap.size 3 (.slice a (dep t) c) (dep t) (allK 16 t) ∧ Below w.heap.size w w' := by
  go_enter Try.func57, Try.ntmps57
  go_wp2
  go_loopw [3, 5] (fun v i w' => ∃ k : Nat, k ≤ 16 ∧ i = .int .i64 k ∧ OwnZ w' w.heap.size 3 v (cnt k t) (allK k t) ∧ Below w.heap.size w w') (fun _ i _ => 16 - (intOf i).toNat)
  case atStart => exact ⟨0, by omega, rfl, ownZ_nil _ _ _, Below.refl _ _⟩
  case round =>
    obtain ⟨k, hk, rfl, hown, hb⟩ := hrel
    have HO : Hid (OwnZ wr w.heap.size 3 u3 (cnt k t) (allK k t)) := hown
    clear hown
    have hz : w.heap.size ≤ wr.heap.size := hb.size
    have hcl := cnt_le k t
    by_cases hlt : k < 16
    · have hd : domB (k : Int) = true := domB_true (by omega) (by omega)
      cases h1 : t.testBit k
      · have hh : hasT t (k : Int) = false := by simp [hasT, h1]
        have HE : Hid (cnt (k + 1) t = cnt k t ∧ allK (k + 1) t = allK k t) := by simp [Hid, cnt, allK, h1]
        clear h1
        go_wp2_with (go_at_call 49; refine (hasT_any t _ _ ht hh).mono ?_; rintro e w' ⟨rfl, rfl⟩)
        go_roundw
        case rel => exact ⟨k + 1, by omega, by go_num, by rw [HE.out.1, HE.out.2]; exact HO.out, hb⟩
        case measure => simp [intOf]; omega
      · have hh : hasT t (k : Int) = true := by simp [hasT, h1, hd]
        have HE : Hid (cnt (k + 1) t = cnt k t + 1 ∧ allK (k + 1) t = allK k t ++ [(k : Int)]) := by simp [Hid, cnt, allK, h1]
        clear h1
        go_wp2_with (first
          | (go_at_call 49; refine (hasT_any t _ _ ht hh).mono ?_; rintro e w' ⟨rfl, rfl⟩)
          | (at_builtin; refine wpList_appZ _ rfl (.tmp 11) (.tmp 13) 95 3 rfl w.heap.size Try.underlying95 info3 u3 (cnt k t) (allK k t) rfl (HO.out.later (below1 _ _)) _ 1 (k : Int) rfl (int_cell _ _) (by omega) (by simp; omega) ?_; intro a1 c1 w1 own1 hb1))
        go_roundw
        case rel => exact ⟨k + 1, by omega, by go_num, by rw [HE.out.1, HE.out.2]; exact own1, (hb.alloc hz _).trans hb1⟩
        case measure => simp [intOf]; omega
    · obtain rfl : k = 16 := by omega
      obtain ⟨a1, c1, hv⟩ := HO.out.shape
      subst hv
      go_wp2
      go_ret
      exact ⟨a1, c1, rfl, HO.out, hb⟩

end Go.Proofs.Ytcabeclbdjfoaaa
