/- Parts in memory. -/
import Derived.Test.YtakikkigkmcffaaCon5
namespace Go.Proofs.Ytakikkigkmcffaa
open Go.RowKit

/-- A part in a block, and as a value. -/
abbrev objT (k s i c a l r t h : Int) : Obj := .cells #[.int .i64 k, .int .u16 s, .int .i64 i, .int .i64 c, .int .u32 a, .int .i64 l, .int .u64 r, .int .u16 t, .int .i64 h] 44
abbrev valT (k s i c a l r t h : Int) : Value := .agg #[.int .i64 k, .int .u16 s, .int .i64 i, .int .i64 c, .int .u32 a, .int .i64 l, .int .u64 r, .int .u16 t, .int .i64 h]
/-- The nine cells of a part, from offset o of block b on. -/
def T9 (W : World) (b o : Nat) (p : Tlv) : Prop :=
  W.cell? ⟨b, o, none⟩ = some (.int .i64 p.k) ∧ W.cell? ⟨b, o + 1, none⟩ = some (.int .u16 p.s) ∧ W.cell? ⟨b, o + 2, none⟩ = some (.int .i64 p.i) ∧ W.cell? ⟨b, o + 3, none⟩ = some (.int .i64 p.c) ∧ W.cell? ⟨b, o + 4, none⟩ = some (.int .u32 p.a) ∧
  W.cell? ⟨b, o + 5, none⟩ = some (.int .i64 p.l) ∧ W.cell? ⟨b, o + 6, none⟩ = some (.int .u64 p.r) ∧ W.cell? ⟨b, o + 7, none⟩ = some (.int .u16 p.t) ∧ W.cell? ⟨b, o + 8, none⟩ = some (.int .i64 p.h)
theorem T9.later {W W' : World} {b o : Nat} {p : Tlv} (h : T9 W b o p) (hb : Below W.heap.size W W') : T9 W' b o p := by
  obtain ⟨h0, h1, h2, h3, h4, h5, h6, h7, h8⟩ := h
  exact ⟨cell_later hb h0, cell_later hb h1, cell_later hb h2, cell_later hb h3, cell_later hb h4, cell_later hb h5, cell_later hb h6, cell_later hb h7, cell_later hb h8⟩
theorem T9.far {W W' : World} {N o : Nat} {p : Tlv} (h : T9 W N o p) (hf : ∀ o, W'.cell? ⟨N, o, none⟩ = W.cell? ⟨N, o, none⟩) : T9 W' N o p := by
  obtain ⟨h0, h1, h2, h3, h4, h5, h6, h7, h8⟩ := h
  exact ⟨(hf _).trans h0, (hf _).trans h1, (hf _).trans h2, (hf _).trans h3, (hf _).trans h4, (hf _).trans h5, (hf _).trans h6, (hf _).trans h7, (hf _).trans h8⟩
theorem T9.new (W : World) (k s i c a l r t h : Int) : T9 (W.alloc (objT k s i c a l r t h)) W.heap.size 0 ⟨k, s, i, c, a, l, r, t, h⟩ := by
  refine ⟨?_, ?_, ?_, ?_, ?_, ?_, ?_, ?_, ?_⟩ <;> simp [go_sem]
theorem T9.z {W : World} {N : Nat} {k s i c a l r t h : Int} (hh : T9 W N 0 ⟨k, s, i, c, a, l, r, t, h⟩) :
    W.cell? ⟨N, 0, none⟩ = some (.int .i64 k) ∧ W.cell? ⟨N, 1, none⟩ = some (.int .u16 s) ∧ W.cell? ⟨N, 2, none⟩ = some (.int .i64 i) ∧ W.cell? ⟨N, 3, none⟩ = some (.int .i64 c) ∧ W.cell? ⟨N, 4, none⟩ = some (.int .u32 a) ∧
    W.cell? ⟨N, 5, none⟩ = some (.int .i64 l) ∧ W.cell? ⟨N, 6, none⟩ = some (.int .u64 r) ∧ W.cell? ⟨N, 7, none⟩ = some (.int .u16 t) ∧ W.cell? ⟨N, 8, none⟩ = some (.int .i64 h) := by
  simpa [T9] using hh
/-- What is left of a boxed part when nothing below the next block has turned. -/
theorem boxT {w W1 : World} {k s i c a l r t h : Int} (hB : Below (w.heap.size + 1) (w.alloc (objT k s i c a l r t h)) W1) : T9 W1 w.heap.size 0 ⟨k, s, i, c, a, l, r, t, h⟩ := (T9.new w k s i c a l r t h).later (by simpa using hB)
theorem out9 {w W : World} {o : Obj} (h : Below (w.heap.size + 1) (w.alloc o) W) : Below w.heap.size w W := (below1 w o).trans (h.mono (by omega))
/-- What is known of a slice of parts: they are those of ts. -/
def RowT (W : World) (a : Option Addr) (n : Nat) (ts : List Tlv) : Prop :=
  ts.length = n ∧ Tlvs ts ∧ ∀ (i : Nat) (p : Tlv), ts[i]? = some p → ∃ b off, a = some ⟨b, off, none⟩ ∧ T9 W b (off + i * 9) p
theorem RowT.later {W W' : World} {a : Option Addr} {n : Nat} {ts : List Tlv} (h : RowT W a n ts) (hb : Below W.heap.size W W') : RowT W' a n ts :=
  ⟨h.1, h.2.1, fun i e he => by obtain ⟨b, off, e1, h5⟩ := h.2.2 i e he; exact ⟨b, off, e1, h5.later hb⟩⟩
theorem RowT.at {W : World} {a : Option Addr} {n : Nat} {ts : List Tlv} (h : RowT W a n ts) {k : Nat} (hk : k < n) : ∃ p b off, ts[k]? = some p ∧ p.Ok ∧ a = some ⟨b, off, none⟩ ∧ T9 W b (off + k * 9) p := by
  have hl : k < ts.length := by rw [h.1]; exact hk
  obtain ⟨b, off, e1, h5⟩ := h.2.2 k ts[k] (List.getElem?_eq_getElem hl)
  exact ⟨ts[k], b, off, List.getElem?_eq_getElem hl, h.2.1 _ (List.getElem_mem hl), e1, h5⟩
theorem rowT_none (W : World) : RowT W none 0 [] := ⟨rfl, none_ok, fun i e h => by simp at h⟩

theorem mayT_of {k s i c a l r t h : Int} (hm : mayB a l = true) (h1 : 0 ≤ i) (h2 : i ≤ 65535) (h3 : 0 ≤ c) (h4 : c ≤ 65535) (h5 : 0 ≤ h) (h6 : h ≤ 255) : mayT ⟨k, s, i, c, a, l, r, t, h⟩ = ownB ⟨k, s, i, c, a, l, r, t, h⟩ := by
  unfold mayT; simp [hm, fit_yes h1 h2, fit_yes h3 h4, fit_yes h5 h6]
theorem mayT_out {k s i c a l r t h : Int} (h1 : i < 0 ∨ 65535 < i ∨ c < 0 ∨ 65535 < c ∨ h < 0 ∨ 255 < h) : mayT ⟨k, s, i, c, a, l, r, t, h⟩ = false := by
  cases hm : mayT ⟨k, s, i, c, a, l, r, t, h⟩
  · rfl
  · obtain ⟨-, -, -, -, h2, h3, h4⟩ := mayT_all hm
    simp only at h2 h3 h4
    omega
end Go.Proofs.Ytakikkigkmcffaa
