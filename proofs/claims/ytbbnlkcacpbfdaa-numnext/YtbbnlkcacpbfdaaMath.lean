/- Plain mathematics of sums of bytes: no program is named here. -/
import Derived.Below
import Derived.Laws.BytesArg
import Derived.WalkSpells
import Derived.Laws.BitsAll
import Derived.Laws.BitsAllLaws
namespace Go.Proofs.Ytbbnlkcacpbfdaa
open Go.RowKit

/-- The sum of the first k bytes, those at even places times 256. -/
def hs (l : List Int) : Nat → Int
  | 0 => 0
  | k + 1 => hs l k + (if k % 2 = 0 then 256 * l[k]?.getD 0 else l[k]?.getD 0)

def Bytes (l : List Int) : Prop := ∀ n ∈ l, 0 ≤ n ∧ n ≤ 255

theorem Bytes.at {l : List Int} (h : Bytes l) (k : Nat) : 0 ≤ l[k]?.getD 0 ∧ l[k]?.getD 0 ≤ 255 := by
  by_cases hk : k < l.length
  · rw [List.getElem?_eq_getElem hk]; exact h _ (List.getElem_mem hk)
  · rw [List.getElem?_eq_none (by omega)]; simp

theorem hs_bd {l : List Int} (h : Bytes l) (k : Nat) : 0 ≤ hs l k ∧ hs l k ≤ 65280 * k := by
  induction k with
  | zero => simp [hs]
  | succ k ih =>
    have := h.at k
    simp only [hs]
    split <;> omega

theorem hs_even {l : List Int} (k : Nat) (h : k % 2 = 0) : hs l (k + 1) = hs l k + 256 * l[k]?.getD 0 := by simp [hs, h]
theorem hs_odd {l : List Int} (k : Nat) (h : k % 2 = 1) : hs l (k + 1) = hs l k + l[k]?.getD 0 := by simp [hs, h]

theorem hs_two {l : List Int} (k : Nat) (h : k % 2 = 0) : hs l (k + 2) = hs l k + 256 * l[k]?.getD 0 + l[k + 1]?.getD 0 := by
  rw [hs_odd (k + 1) (by omega), hs_even k h]
theorem hs_past {l : List Int} (k : Nat) (h : k = l.length ∨ k = l.length + 1) : hs l k = hs l l.length := by
  rcases h with rfl | rfl
  · rfl
  · have e : l[l.length]?.getD 0 = 0 := by simp
    simp only [hs, e]; split <;> omega

/-- What is left when all that goes over 16 bits has been added again. -/
def foldI (s : Int) : Int := if s = 0 then 0 else (s - 1) % 65535 + 1

theorem foldI_small (s : Int) (_h0 : 0 ≤ s) (h1 : s ≤ 65535) : foldI s = s := by unfold foldI; split <;> omega
theorem foldI_step (s : Int) (h : 65535 < s) : foldI (s % 65536 + s / 65536) = foldI s := by
  unfold foldI
  rw [if_neg (by omega), if_neg (by omega)]
  omega
theorem foldI_bd (s : Int) (_h0 : 0 ≤ s) : 0 ≤ foldI s ∧ foldI s ≤ 65535 := by unfold foldI; split <;> omega

def sumI (l : List Int) : Int := 65535 - foldI (hs l l.length)

theorem sumI_bd {l : List Int} (h : Bytes l) : 0 ≤ sumI l ∧ sumI l ≤ 65535 := by
  have := foldI_bd _ (hs_bd h l.length).1
  unfold sumI; omega

theorem and_ffff (s : Int) (h0 : 0 ≤ s) (h1 : s ≤ 9187343239835811840) : bits .and .u64 s 65535 = s % 65536 := by
  rw [u64_and s 65535 h0 (by omega) (by omega) (by omega)]
  have : s.toNat &&& 65535 = s.toNat % 65536 := Nat.and_two_pow_sub_one_eq_mod s.toNat 16
  show ((s.toNat &&& 65535 : Nat) : Int) = _
  rw [this]; omega
theorem fold_next (s : Int) (h0 : 0 ≤ s) (h1 : s ≤ 9187343239835811840) (h : 0 < s / 65536) :
    IntKind.u64.wrap (bits .and .u64 s 65535 + s / 65536) = s % 65536 + s / 65536 ∧ foldI (s % 65536 + s / 65536) = foldI s ∧ 0 ≤ s % 65536 + s / 65536 ∧ s % 65536 + s / 65536 < s := by
  rw [and_ffff s h0 h1, IntKind.wrap_u64]
  refine ⟨by omega, foldI_step s (by omega), by omega, by omega⟩
theorem xor_ffff (s : Int) (h0 : 0 ≤ s) (h1 : s ≤ 65535) : bits .xor .u16 IntKind.u16.max s = 65535 - s := by
  show bits .xor .u16 65535 s = _
  rw [u16_xor 65535 s (by omega) (by omega) h0 (by omega)]
  have e : (BitVec.allOnes 16 ^^^ BitVec.ofNat 16 s.toNat) = ~~~ (BitVec.ofNat 16 s.toNat) := BitVec.allOnes_xor
  have e2 := congrArg BitVec.toNat e
  rw [BitVec.toNat_xor, BitVec.toNat_not, BitVec.toNat_ofNat, BitVec.toNat_allOnes, Nat.mod_eq_of_lt (by omega)] at e2
  have e3 : ((65535 : Int).toNat ^^^ s.toNat) = 2 ^ 16 - 1 - s.toNat := e2
  rw [e3]; omega

/-- What is known of a slice of bytes: its bytes are those of l. -/
def Row8 (w : World) (a : Option Addr) (len : Nat) (l : List Int) : Prop :=
  l.length = len ∧ len ≤ 140737488351232 ∧ Bytes l ∧ ∀ i, i < len → ∃ b off, a = some ⟨b, off, none⟩ ∧ w.cell? ⟨b, off + i, none⟩ = some (.int .u8 (l[i]?.getD 0))

theorem Row8.later {w w' : World} {a : Option Addr} {len : Nat} {l : List Int} (h : Row8 w a len l) (hb : Below w.heap.size w w') : Row8 w' a len l :=
  ⟨h.1, h.2.1, h.2.2.1, fun i hi => by obtain ⟨b, off, e, hc⟩ := h.2.2.2 i hi; exact ⟨b, off, e, cell_later hb hc⟩⟩

/-- The bytes of a list in a new block. -/
theorem row8_new (w : World) (l : List Int) (t : TypeId) (hB : Bytes l) (hm : l.length ≤ 140737488351232) :
    Row8 (w.alloc (.cells (l.map (Value.int .u8)).toArray t)) (some ⟨w.heap.size, 0, none⟩) l.length l := by
  refine ⟨rfl, hm, hB, fun i hi => ⟨_, _, rfl, ?_⟩⟩
  rw [World.cell?_alloc_new]
  simp [hi]
theorem below_alloc (w : World) (o : Obj) : Below w.heap.size w (w.alloc o) := (Below.refl _ _).alloc (Nat.le_refl _) o
theorem below_alloc2 (w : World) (o p : Obj) : Below w.heap.size w ((w.alloc o).alloc p) := (below_alloc w o).alloc (by simp) p

/-- string(b) of bytes that are known. -/
theorem conv8 {P : Program} (src e dst : TypeId) (hs : P.underlying src = some (.slice e)) (he : P.underlying e = some (.int .u8)) (hd : P.underlying dst = some .string)
    {w : World} {a : Option Addr} {len : Nat} (cap : Nat) {l : List Int} (h : Row8 w a len l) :
    (convert src dst (.slice a len cap)).run P w = .ok (.string (strOfNums l)) w := by
  obtain ⟨h1, -, -, h4⟩ := h
  by_cases h0 : len = 0
  · subst h0
    obtain rfl : l = [] := by simpa using h1
    cases a with
    | none => rw [run_convert_bytes_nil w src e hs he 0 cap dst hd]; rfl
    | some x => rw [run_convert_bytes_string w src dst e _ 0 cap hs he hd, run_bytesToString w x 0 cap [] (run_loadCells_list (P := P) w x [] (by simp))]; rfl
  · obtain ⟨b, off, rfl, _⟩ := h4 0 (by omega)
    exact run_convert_bytes_arg w src e hs he b off len cap l h1 (fun i hi => by
      obtain ⟨b', off', e, hc⟩ := h4 i hi
      simp at e
      obtain ⟨rfl, rfl⟩ := e
      simpa [List.getD] using hc) dst hd
end Go.Proofs.Ytbbnlkcacpbfdaa
