/- One contract of readPrefix, whatever it answers; a prefix in a block of its own. -/
import Derived.Test.YtakikkigkmcffaaCD5
import Derived.Deep.Cut
import Derived.Test.YtakikkigkmcffaaCD4
namespace Go.Proofs.Ytakikkigkmcffaa
open Go.RowKit

theorem readPrefix_yes0 (x l : Int) (t b off n cap : Nat) (L : List Int) (w : World) (hr : Row8 w (some ⟨b, off, none⟩) n L) (hn : n ≤ 3000) (hc : n ≤ cap) (x0 : 0 ≤ x) (x1 : x < 4294967296) (l0 : 0 ≤ l) (l1 : l ≤ 32) (hd : nd l = t) (ht : t ≤ n) {z : Int} (hz : mix x 0 (L.take t) = z) {v : Bool} (hv : mayB z l = v) :
    Calls Try.prog 70 #[.int .u32 x, .int .i64 l, .int .i64 0, .slice (some ⟨b, off, none⟩) n cap] w fun e w' => e = .returned (.tuple #[.agg #[.int .u32 z, .int .i64 l], .slice (if cap = t then some ⟨b, off, none⟩ else some ⟨b, off + t, none⟩) (n - t) (cap - t), .bool v]) ∧ Below w.heap.size w w' :=
  readPrefix_yes x l 0 t b off n cap L w hr hn hc x0 x1 l0 l1 (by omega) ht hz hv
theorem wrap_in {x : Int} (h0 : -9223372036854775808 ≤ x) (h1 : x ≤ 9223372036854775807) : IntKind.i64.wrap x = x := by
  simp [IntKind.wrap, IntKind.signed, IntKind.bits]; omega
abbrev objZ : Obj := objT 0 0 0 0 0 0 0 0 0
/-- A prefix in a new block P, and nothing else has turned. -/
def PfxAt (W0 : World) (z y : Int) (P : Nat) (wx : World) : Prop := wx.cell? ⟨P, 0, none⟩ = some (.int .u32 z) ∧ wx.cell? ⟨P, 1, none⟩ = some (.int .i64 y) ∧ W0.heap.size ≤ P ∧ P < wx.heap.size ∧ Below W0.heap.size W0 wx
theorem pre_a {W0 W1 : World} {N : Nat} (hN : N = W0.heap.size) (hb : Below (W0.alloc (.cells #[.int .u32 0, .int .i64 0] 41)).drew.heap.size (W0.alloc (.cells #[.int .u32 0, .int .i64 0] 41)).drew W1) :
    W1.cell? ⟨N, 0, none⟩ = some (.int .u32 0) ∧ W1.cell? ⟨N, 1, none⟩ = some (.int .i64 0) ∧ (∀ o, W1.frozen? ⟨N, o, none⟩ = false) ∧ N < W1.heap.size ∧ Below W0.heap.size W0 W1 := by
  subst hN
  have hb' : Below (W0.alloc (.cells #[.int .u32 0, .int .i64 0] 41)).heap.size (W0.alloc (.cells #[.int .u32 0, .int .i64 0] 41)) W1 := (Below.refl _ _).drew.trans hb
  obtain ⟨c0, c1, cz⟩ := new2 W0 (.int .u32 0) (.int .i64 0) 41
  exact ⟨cell_later hb' c0, cell_later hb' c1, fun o => (hb'.frozen (p := ⟨W0.heap.size, o, none⟩) (by simp)).trans (by simp [go_sem]), by have := hb'.size; simp at this; omega, Below.out1 hb'⟩
theorem pfx_a {W0 W1 : World} {N : Nat} (z y : Int) (hN : N = W0.heap.size) (h : W1.cell? ⟨N, 0, none⟩ = some (.int .u32 0) ∧ W1.cell? ⟨N, 1, none⟩ = some (.int .i64 0) ∧ (∀ o, W1.frozen? ⟨N, o, none⟩ = false) ∧ N < W1.heap.size ∧ Below W0.heap.size W0 W1) :
    PfxAt W0 z y N ((W1.setCell ⟨N, 0, none⟩ (.int .u32 z)).setCell ⟨N, 1, none⟩ (.int .i64 y)) := by
  obtain ⟨c0, c1, cf, cz, hb⟩ := h
  exact ⟨by simp [go_sem, c0], by simp [go_sem, c1], by omega, by simpa using cz, (hb.setCell (by show W0.heap.size ≤ N; omega) _).setCell (by show W0.heap.size ≤ N; omega) _⟩
theorem pfx_b {W0 W1 : World} (z y : Int) (hb : Below W0.drew.heap.size W0.drew W1) : PfxAt W0 z y W1.heap.size (W1.alloc (.cells #[.int .u32 z, .int .i64 y] 41)) := by
  have hb' : Below W0.heap.size W0 W1 := (Below.refl _ _).drew.trans hb
  obtain ⟨c0, c1, cz⟩ := new2 W1 (.int .u32 z) (.int .i64 y) 41
  exact ⟨c0, c1, hb'.size, cz, hb'.alloc hb'.size _⟩
/-- The result's block, behind that. -/
theorem PfxAt.res {w wx : World} {z y : Int} {P : Nat} (h : PfxAt (w.alloc objZ) z y P wx) : T9 wx w.heap.size 0 ⟨0, 0, 0, 0, 0, 0, 0, 0, 0⟩ ∧ (∀ o, wx.frozen? ⟨w.heap.size, o, none⟩ = false) ∧ w.heap.size < wx.heap.size ∧ Below w.heap.size w wx ∧ w.heap.size ≠ P ∧ P ≠ w.heap.size := by
  obtain ⟨-, -, h2, h3, hb⟩ := h
  simp only [World.size_alloc] at h2
  exact ⟨(T9.new w 0 0 0 0 0 0 0 0 0).later hb, fun o => (hb.frozen (p := ⟨w.heap.size, o, none⟩) (by simp)).trans (by simp [go_sem]), by omega, Below.out1 hb, by omega, by omega⟩
/-- What readAsk and readAskSeq answer. -/
def Asked (w : World) (v : Bool) (p : Tlv) (e : Ending) (w' : World) : Prop := ∃ k s i c a l r t h, e = .returned (.tuple #[valT k s i c a l r t h, .bool v]) ∧ (v = true → (⟨k, s, i, c, a, l, r, t, h⟩ : Tlv) = p) ∧ Tlv.Ok ⟨k, s, i, c, a, l, r, t, h⟩ ∧ Below w.heap.size w w'
theorem zero_ok : Tlv.Ok ⟨0, 0, 0, 0, 0, 0, 0, 0, 0⟩ := by constructor <;> decide
theorem ask_head {l : List Int} (h : askHead l = false) : askOk l = false := by unfold askOk; rw [h]; rfl
theorem ask_pfx {l : List Int} (h : pfxOk 0 (at8 l 1) 0 (l.drop 2) = false) : askOk l = false := by unfold askOk; rw [h]; simp
theorem ask_is {l : List Int} (h : askHead l = true) {v : Bool} (hp : pfxOk 0 (at8 l 1) 0 (l.drop 2) = v) {m : Nat} (hm : (l.drop 2).length = m) : askOk l = (v && decide (m = nd (at8 l 1))) := by unfold askOk; rw [h, hp, hm]; rfl
/-- What readPrefix's answer says. -/
def PV (x l : Int) (om b off n cap : Nat) (L : List Int) (v : Bool) (z y : Int) (ra : Option Addr) (q c : Nat) : Prop :=
  0 ≤ z ∧ z < 4294967296 ∧ 0 ≤ y ∧ y ≤ 32 ∧ (v = true → z = mix x om (L.take (nd l - om)) ∧ y = l ∧ q = n - (nd l - om) ∧ ra = (if cap = nd l - om then some ⟨b, off, none⟩ else some ⟨b, off + (nd l - om), none⟩) ∧ c = cap - (nd l - om))
theorem readPrefix_any (x l : Int) (om b off n cap : Nat) (L : List Int) (w : World) (hr : Row8 w (some ⟨b, off, none⟩) n L) (hn : n ≤ 3000) (hc : n ≤ cap) (x0 : 0 ≤ x) (x1 : x < 4294967296) (l0 : 0 ≤ l) (l1 : l ≤ 255) (ho : om ≤ 255) {v : Bool} (hv : pfxOk x l om L = v) :
    Calls Try.prog 70 #[.int .u32 x, .int .i64 l, .int .i64 (om : Int), .slice (some ⟨b, off, none⟩) n cap] w fun e w' => ∃ z y ra q c, e = .returned (.tuple #[.agg #[.int .u32 z, .int .i64 y], .slice ra q c, .bool v]) ∧ Below w.heap.size w w' ∧ PV x l om b off n cap L v z y ra q c := by
  have hL : L.length = n := hr.1
  have hdi : (nd l : Int) = (l + 7) / 8 := by unfold nd; omega
  by_cases hno : noPfx l om n
  · have hf : pfxOk x l om L = false := by
      rcases hno with h | ⟨h, h'⟩ | ⟨h, h', h''⟩
      · exact pfx_len h
      · exact pfx_om (by omega)
      · exact pfx_short (by omega)
    obtain rfl : false = v := hf.symm.trans hv
    refine (readPrefix_no x l om _ n cap w l0 l1 (by omega) (by omega) hno).mono ?_
    rintro e w' ⟨rfl, hb⟩
    exact ⟨0, 0, none, 0, 0, rfl, hb, by decide, by decide, by decide, by decide, fun h => by cases h⟩
  · have hyes : l ≤ 32 ∧ om ≤ nd l ∧ nd l - om ≤ n := by unfold noPfx at hno; omega
    obtain ⟨h1, h2, h3⟩ := hyes
    have zb := mix_u (last := x) (om := om) x0 x1 (take_bytes hr.2.2.1 (nd l - om))
    rw [pfx_yes h1 h2 (by omega)] at hv
    refine (readPrefix_yes x l om (nd l - om) b off n cap L w hr hn hc x0 x1 l0 h1 (by omega) h3 rfl hv).mono ?_
    rintro e w' ⟨rfl, hb⟩
    exact ⟨_, _, _, _, _, rfl, hb, zb.1, by have := zb.2; omega, l0, h1, fun _ => ⟨rfl, rfl, rfl, rfl, rfl⟩⟩
theorem readPrefix_any0 (x l : Int) (b off n cap : Nat) (L : List Int) (w : World) (hr : Row8 w (some ⟨b, off, none⟩) n L) (hn : n ≤ 3000) (hc : n ≤ cap) (x0 : 0 ≤ x) (x1 : x < 4294967296) (l0 : 0 ≤ l) (l1 : l ≤ 255) {v : Bool} (hv : pfxOk x l 0 L = v) :
    Calls Try.prog 70 #[.int .u32 x, .int .i64 l, .int .i64 0, .slice (some ⟨b, off, none⟩) n cap] w fun e w' => ∃ z y ra q c, e = .returned (.tuple #[.agg #[.int .u32 z, .int .i64 y], .slice ra q c, .bool v]) ∧ Below w.heap.size w w' ∧ PV x l 0 b off n cap L v z y ra q c :=
  readPrefix_any x l 0 b off n cap L w hr hn hc x0 x1 l0 l1 (by decide) hv
end Go.Proofs.Ytakikkigkmcffaa
