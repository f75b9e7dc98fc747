/- Plain laws of rows of bytes: what is known of one that came in, of one of one's own, append onto it; numbers out of bytes. No program is named here. -/
import Derived.Below
import Derived.Laws.BytesArg
import Derived.WalkSpells
import Derived.Laws.BitsAll
import Derived.Laws.BitsAllLaws
import Derived.Laws.AppendOwn
import Derived.OwnWalk
namespace Go.Proofs.Ytofmgkpghkeegaa
open Go.RowKit
def Bytes (l : List Int) : Prop := ∀ n ∈ l, 0 ≤ n ∧ n ≤ 255
theorem Bytes.at {l : List Int} (h : Bytes l) (k : Nat) : 0 ≤ l[k]?.getD 0 ∧ l[k]?.getD 0 ≤ 255 := by
  by_cases hk : k < l.length
  · rw [List.getElem?_eq_getElem hk]; exact h _ (List.getElem_mem hk)
  · rw [List.getElem?_eq_none (by omega)]; simp
/-- What is known of a slice of bytes: its bytes are those of l. -/
def Row8 (w : World) (a : Option Addr) (len : Nat) (l : List Int) : Prop :=
  l.length = len ∧ len ≤ 140737488351232 ∧ Bytes l ∧ ∀ i, i < len → ∃ b off, a = some ⟨b, off, none⟩ ∧ w.cell? ⟨b, off + i, none⟩ = some (.int .u8 (l[i]?.getD 0))
theorem Row8.later {w w' : World} {a : Option Addr} {len : Nat} {l : List Int} (h : Row8 w a len l) (hb : Below w.heap.size w w') : Row8 w' a len l :=
  ⟨h.1, h.2.1, h.2.2.1, fun i hi => by obtain ⟨b, off, e, hc⟩ := h.2.2.2 i hi; exact ⟨b, off, e, cell_later hb hc⟩⟩
/-- The bytes of a list in a new block. -/
theorem row8_new (w : World) (l : List Int) (t : TypeId) (hB : Bytes l) (hm : l.length ≤ 140737488351232) :
    Row8 (w.alloc (.cells (l.map (Value.int .u8)).toArray t)) (some ⟨w.heap.size, 0, none⟩) l.length l := by
  refine ⟨rfl, hm, hB, fun i hi => ⟨_, _, rfl, ?_⟩⟩
  rw [World.cell?_alloc_new]
  simp [hi]
theorem below_alloc (w : World) (o : Obj) : Below w.heap.size w (w.alloc o) := (Below.refl _ _).alloc (Nat.le_refl _) o
theorem below_alloc2 (w : World) (o p : Obj) : Below w.heap.size w ((w.alloc o).alloc p) := (below_alloc w o).alloc (by simp) p
/-- string(b) of bytes that are known. -/
theorem conv8 {P : Program} (src e dst : TypeId) (hs : P.underlying src = some (.slice e)) (he : P.underlying e = some (.int .u8)) (hd : P.underlying dst = some .string)
    {w : World} {a : Option Addr} {len : Nat} (cap : Nat) {l : List Int} (h : Row8 w a len l) :
    (convert src dst (.slice a len cap)).run P w = .ok (.string (strOfNums l)) w := by
  obtain ⟨h1, -, -, h4⟩ := h
  by_cases h0 : len = 0
  · subst h0
    obtain rfl : l = [] := by simpa using h1
    cases a with
    | none => rw [run_convert_bytes_nil w src e hs he 0 cap dst hd]; rfl
    | some x => rw [run_convert_bytes_string w src dst e _ 0 cap hs he hd, run_bytesToString w x 0 cap [] (run_loadCells_list (P := P) w x [] (by simp))]; rfl
  · obtain ⟨b, off, rfl, _⟩ := h4 0 (by omega)
    exact run_convert_bytes_arg w src e hs he b off len cap l h1 (fun i hi => by
      obtain ⟨b', off', e, hc⟩ := h4 i hi
      simp at e
      obtain ⟨rfl, rfl⟩ := e
      simpa [List.getD] using hc) dst hd
/-- The number of k bytes from place p on, the highest first. -/
def getV (l : List Int) (p : Nat) : Nat → Int
  | 0 => 0
  | k + 1 => getV l p k * 256 + l[p + k]?.getD 0
theorem getV_bd {l : List Int} (h : Bytes l) (p k : Nat) : 0 ≤ getV l p k ∧ getV l p k < 256 ^ k := by
  induction k with
  | zero => simp [getV]
  | succ k ih =>
    have := h.at (p + k)
    rw [Int.pow_succ]
    simp only [getV]
    omega
theorem getV_small {l : List Int} (h : Bytes l) (p k : Nat) (hk : k ≤ 3) : 0 ≤ getV l p k ∧ getV l p k < 16777216 := by
  have := getV_bd h p k
  have : k = 0 ∨ k = 1 ∨ k = 2 ∨ k = 3 := by omega
  rcases this with rfl | rfl | rfl | rfl <;> simp at * <;> omega
theorem or_low (n b : Int) (hn : 0 ≤ n ∧ n < 16777216) (hb : 0 ≤ b ∧ b ≤ 255) : bits .or .u32 (n * 256) b = n * 256 + b := by
  rw [u32_or _ _ (by omega) (by omega) (by omega) (by omega)]
  have := nat_join 8 (n * 256).toNat b.toNat (by omega) (by omega)
  rw [this]; omega
theorem Bytes.append {l m : List Int} (h : Bytes l) (k : Bytes m) : Bytes (l ++ m) := fun n hn => by
  rcases List.mem_append.1 hn with hn | hn
  · exact h n hn
  · exact k n hn

/-- The slice value v, of n bytes l, is a row of one's own, from block base on. -/
def Own8 (w : World) (base : Nat) (e : TypeId) (v : Value) (n : Nat) (l : List Int) : Prop := w.ownsRow base e 1 v n (l.map (Value.int .u8))

theorem Own8.row {w : World} {base : Nat} {e : TypeId} {a : Option Addr} {n m cap : Nat} {l : List Int} (h : Own8 w base e (.slice a m cap) n l) (hB : Bytes l) (hn : n ≤ 100000) : Row8 w a n l := by
  have hl : l.length = n := by have := h.1; simpa using this
  refine ⟨hl, by omega, hB, fun i hi => ?_⟩
  rcases h.2 with ⟨_, h0⟩ | ⟨g, c, cur, hv, _⟩
  · omega
  · have hc := World.ownsRow.cells h (g := g) (by rw [hv]; rfl) i (.int .u8 (l[i]?.getD 0)) (by simp [hl, hi])
    simp only [Value.slice.injEq] at hv
    refine ⟨g, 0, hv.1, ?_⟩
    rw [← Go.WideShapes.add_plain]; exact hc

theorem Own8.shape {w : World} {base : Nat} {e : TypeId} {v : Value} {n : Nat} {l : List Int} (h : Own8 w base e v n l) : ∃ a cap, v = .slice a n cap := by
  rcases h.2 with ⟨rfl, rfl⟩ | ⟨g, c, cur, hv, _⟩
  · exact ⟨_, _, rfl⟩
  · exact ⟨_, _, hv⟩

theorem own8_nil (w : World) (base : Nat) (e : TypeId) : Own8 w base e (.slice none 0 0) 0 [] := World.ownsRow_nil w base e 1

theorem own8_new (w : World) (base : Nat) (e : TypeId) (l : List Int) (hb : base ≤ w.heap.size) (hl : l.length ≤ 100000) :
    Own8 (w.alloc (.cells (l.map (Value.int .u8)).toArray e)) base e (.slice (some ⟨w.heap.size, 0, none⟩) l.length l.length) l.length l :=
  ⟨by simp, .inr ⟨w.heap.size, l.length, _, rfl, hb, heap_alloc_new w _, Nat.le_refl _, by unfold maxLen; omega, by simp, by rw [List.take_of_length_le (by simp)]⟩⟩

theorem Own8.lt {w : World} {base : Nat} {e : TypeId} {v : Value} {n : Nat} {l : List Int} (h : Own8 w base e v n l) : ∀ k, v.ownBlock = some k → base ≤ k := fun k hk => (World.ownsRow.lt h k hk).1

section
variable {P : Program} (w : World)

theorem run_app8_nil (t ty e : TypeId) (i : TypeInfo) (ht : P.underlying t = some (.slice e)) (hi : P.info? e = some i) (base : Nat) (v : Value) (n : Nat) (l : List Int) (hown : Own8 w base e v n l) (c : Nat) :
    (Builtin.append_ #[t, t] ty #[v, .slice none 0 c]).run P w = .ok v w := by
  rcases hown.2 with ⟨rfl, rfl⟩ | ⟨g, cap, cur, rfl, hb, hg, hle, _⟩
  · simp [Builtin.append_, run_underlying ht, sizeOf, typeInfo, hi, Builtin.lenOf, Builtin.firstCells]
  · simp [Builtin.append_, run_underlying ht, sizeOf, typeInfo, hi, Builtin.lenOf, Builtin.firstCells, hle, storeCells]

theorem run_app8 (base : Nat) (t ty e : TypeId) (ht : P.underlying t = some (.slice e)) (hinfo : (P.info? e).map (fun i => (i.zero, i.size, i.bytes)) = some (some (.int .u8 0), 1, 1))
    (v : Value) (n : Nat) (l1 : List Int) (hown : Own8 w base e v n l1) (ad : Option Addr) (m c : Nat) (l2 : List Int) (h2 : Row8 w ad m l2) (hlen : n + m ≤ 100000) (hbase : base ≤ w.heap.size) :
    ∃ a' c' w', (Builtin.append_ #[t, t] ty #[v, .slice ad m c]).run P w = .ok (.slice a' (n + m) c') w' ∧ Own8 w' base e (.slice a' (n + m) c') (n + m) (l1 ++ l2) ∧ Below base w w' := by
  obtain ⟨i, hi, hzz⟩ := Option.map_eq_some_iff.1 hinfo
  simp only [Prod.mk.injEq] at hzz
  obtain ⟨hz, hs, hb⟩ := hzz
  obtain ⟨hl2, _, _, hc2⟩ := h2
  cases ad with
  | none =>
    have hm : m = 0 := by
      rcases Nat.eq_zero_or_pos m with h | h
      · exact h
      · obtain ⟨_, _, h, _⟩ := hc2 0 h; cases h
    subst hm
    obtain rfl : l2 = [] := List.eq_nil_of_length_eq_zero hl2
    obtain ⟨a', c', rfl⟩ := hown.shape
    refine ⟨a', c', w, run_app8_nil w t ty e i ht hi base _ n l1 hown c, ?_, Below.refl _ _⟩
    simpa using hown
  | some x =>
    have hnews : ∀ j u, (l2.map (Value.int .u8))[j]? = some u → w.cell? (x.add j) = some u := by
      intro j u hj
      have hjl : j < l2.length := by
        rcases Nat.lt_or_ge j l2.length with h | h
        · exact h
        · simp [List.getElem?_eq_none h] at hj
      obtain ⟨b, off, e1, hc⟩ := hc2 j (by omega)
      simp only [Option.some.injEq] at e1
      subst e1
      rw [Go.WideShapes.add_plain, hc]
      simpa [List.getElem?_eq_getElem hjl] using hj
    obtain ⟨v', w', hr, h3, h4, _⟩ := run_append_own (P := P) w base t ty e i (.int .u8 0) 1 1 ht hi hz hs hb rfl (by decide) v n _ hown x m c (l2.map (Value.int .u8)) (by simp [hl2]) hnews
      (by intro u hu; obtain ⟨k, _, rfl⟩ := List.mem_map.1 hu; rfl) (by unfold maxLen; omega) (by omega) hbase
    have h5 : Own8 w' base e v' (n + m) (l1 ++ l2) := by unfold Own8; rw [List.map_append]; exact h3
    obtain ⟨a', c', rfl⟩ := h5.shape
    exact ⟨a', c', w', hr, h5, (Below.refl _ _).grown h4 hbase hown.lt⟩

theorem wpList_app8 {ops : Array Oper} {rest : List Oper} {o : Oper} {a : Act} {Q : Exit → Act → World → Prop} (hgd : o.guard = none) (s x : Operand) (t e : TypeId)
    (ho : o.op = .call { callee := .builtin .append, args := #[s, x], argTypes := #[t, t] }) (base : Nat)
    (ht : P.underlying t = some (.slice e)) (hinfo : (P.info? e).map (fun i => (i.zero, i.size, i.bytes)) = some (some (.int .u8 0), 1, 1))
    (v : Value) (n : Nat) (l1 : List Int) (hs : a.eval s = v) (hown : Own8 w base e v n l1) (ad : Option Addr) (m c : Nat) (l2 : List Int) (hx : a.eval x = .slice ad m c) (h2 : Row8 w ad m l2) (k : Nat) (hk : n + m = k) (l3 : List Int) (hl : l1 ++ l2 = l3) (hlen : k ≤ 100000) (hbase : base ≤ w.heap.size)
    (h : ∀ a' c' w', Own8 w' base e (.slice a' k c') k l3 → Below base w w' → wpList P ops Q rest (a.put o.dst (.slice a' k c')) w') : wpList P ops Q (o :: rest) a w := by
  subst hk hl
  refine wpList_plain hgd fun _ hK => ?_
  obtain ⟨a', c', w', hr, h3, h4⟩ := run_app8 (P := P) w base t o.type e ht hinfo v n l1 hown ad m c l2 h2 hlen hbase
  unfold Oper.wp execOp
  simp only [ho, resolve, invoke, builtin, Sem.run_bind, Sem.run_pure, Result.andThen_ok, List.map_toArray, List.map_cons, List.map_nil, hs, hx, hr]
  exact hK _ _ (h a' c' w' h3 h4)
end
/-- Numbers come back from their bytes. -/
theorem getV_put4 (l m : List Int) (n : Int) : getV (l ++ [n / 16777216, n / 65536 % 256, n / 256 % 256, n % 256] ++ m) l.length 4 = n := by
  simp only [getV, List.append_assoc]
  simp
  omega
theorem getV_put2 (l : List Int) (n : Int) : getV (l ++ [n / 256, n % 256]) l.length 2 = n := by
  simp only [getV]
  simp
  omega
theorem row8_at (w : World) (n : Nat) (hn : n = w.heap.size) (l : List Int) (t : TypeId) (k : Nat) (hk : k = l.length) (hB : Bytes l) (hm : l.length ≤ 140737488351232) :
    Row8 (w.alloc (.cells (l.map (Value.int .u8)).toArray t)) (some ⟨n, 0, none⟩) k l := by
  subst hn hk
  exact row8_new w l t hB hm
theorem own8_at (w : World) (n : Nat) (hn : n = w.heap.size) (base : Nat) (e : TypeId) (l : List Int) (hb : base ≤ n) (hl : l.length ≤ 100000) :
    Own8 (w.alloc (.cells (l.map (Value.int .u8)).toArray e)) base e (.slice (some ⟨n, 0, none⟩) l.length l.length) l.length l := by
  subst hn
  exact own8_new w base e l hb hl
theorem Own8.alloc {w : World} {base : Nat} {e : TypeId} {v : Value} {n : Nat} {l : List Int} (h : Own8 w base e v n l) (o : Obj) : Own8 (w.alloc o) base e v n l := World.ownsRow.alloc h o
end Go.Proofs.Ytofmgkpghkeegaa
