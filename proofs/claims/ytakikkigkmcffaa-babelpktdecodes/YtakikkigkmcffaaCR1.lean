/- The contract of the document's prefix. -/
import Derived.Test.YtakikkigkmcffaaCD2
namespace Go.Proofs.Ytakikkigkmcffaa
open Go.RowKit

/-- Whether just these bytes are a prefix of that length. -/
def rpOk (y : Int) (L : List Int) : Bool := decide (y ≤ 32) && decide (L.length = nd y) && mayB (mix 0 0 L) y
def pad (L : List Int) (q : Nat) : List Int := L ++ List.replicate (q - L.length) 0
theorem pad_next {L : List Int} {q : Nat} (h : L.length ≤ q) : pad L q ++ [0] = pad L (q + 1) := by
  unfold pad
  rw [show q + 1 - L.length = (q - L.length) + 1 from by omega, List.replicate_succ', List.append_assoc]
theorem pad_self (L : List Int) : pad L L.length = L := by unfold pad; simp
theorem pad_4 {L : List Int} : pad L 4 = mixL 0 0 L := by unfold pad mixL; simp
theorem pad_bytes {L : List Int} (h : Bytes L) (q : Nat) : Bytes (pad L q) := by
  refine h.append ?_
  intro n hn
  have := List.eq_of_mem_replicate hn
  omega
def sliceLen : Value → Nat
  | .slice _ n _ => n
  | _ => 0
theorem box41 {w W1 : World} (hB : Below (w.heap.size + 1) (w.alloc (.cells #[.int .u32 0, .int .i64 0] 41)) W1) : W1.cell? ⟨w.heap.size, 0, none⟩ = some (.int .u32 0) ∧ W1.cell? ⟨w.heap.size, 1, none⟩ = some (.int .i64 0) ∧ (∀ o, W1.frozen? ⟨w.heap.size, o, none⟩ = false) ∧ w.heap.size < W1.heap.size := by
  have hz : w.heap.size < w.heap.size + 1 := by omega
  refine ⟨(hB.cell (p := ⟨w.heap.size, 0, none⟩) hz).trans (by simp [go_sem]), (hB.cell (p := ⟨w.heap.size, 1, none⟩) hz).trans (by simp [go_sem]), fun o => (hB.frozen (p := ⟨w.heap.size, o, none⟩) hz).trans (by simp [go_sem]), ?_⟩
  have := hB.size
  simp at this
  omega
theorem kept41 {V W3 : World} {N : Nat} {o : Obj} {x y : Value} (hb : Below (V.alloc o).heap.size (V.alloc o) W3) (n0 : V.cell? ⟨N, 0, none⟩ = some x) (n1 : V.cell? ⟨N, 1, none⟩ = some y) (nf : ∀ o, V.frozen? ⟨N, o, none⟩ = false) (hN : N < V.heap.size) :
    W3.cell? ⟨N, 0, none⟩ = some x ∧ W3.cell? ⟨N, 1, none⟩ = some y ∧ (∀ o, W3.frozen? ⟨N, o, none⟩ = false) ∧ N < W3.heap.size ∧ Below V.heap.size V W3 := by
  have hb' : Below V.heap.size V W3 := Below.out1 hb
  exact ⟨(hb'.cell (p := ⟨N, 0, none⟩) hN).trans n0, (hb'.cell (p := ⟨N, 1, none⟩) hN).trans n1, fun o => (hb'.frozen (p := ⟨N, o, none⟩) hN).trans (nf o), Nat.lt_of_lt_of_le hN hb'.size, hb'⟩
/-- What prefix answers. -/
def RPfx (w : World) (v : Bool) (z y : Int) (e : Ending) (w' : World) : Prop := ∃ z' y', e = .returned (.tuple #[.agg #[.int .u32 z', .int .i64 y'], .bool v]) ∧ (v = true → z' = z ∧ y' = y) ∧ 0 ≤ z' ∧ z' < 4294967296 ∧ 0 ≤ y' ∧ y' ≤ 255 ∧ Below w.heap.size w w'
set_option maxHeartbeats 1000000 in
theorem refPrefix_any (y : Int) (a : Option Addr) (m cap : Nat) (L : List Int) (w : World) (hr : Row8 w a m L) (hm : m ≤ 3000) (y0 : 0 ≤ y) (y1 : y ≤ 255) {v : Bool} (hv : rpOk y L = v) :
    Calls Try.prog 67 #[.int .i64 y, .slice a m cap] w (RPfx w v (mix 0 0 L) y) := by
  subst hv
  have HR : Hid (Row8 w a m L) := hr
  have HL : Hid (L.length = m) := hr.1
  have HBy : Hid (Bytes L) := hr.2.2.1
  obtain ⟨d, hd⟩ : ∃ d, nd y = d := ⟨_, rfl⟩
  have HD : Hid (nd y = d) := hd
  by_cases h32 : y ≤ 32
  · have hd4 : d ≤ 4 := by rw [← hd]; exact nd_le h32
    by_cases hmd : m = d
    · have zb := mix_u (last := 0) (om := 0) (by decide) (by decide) HBy.out
      obtain ⟨z, hz⟩ : ∃ z, mix 0 0 L = z := ⟨_, rfl⟩
      rw [hz] at zb
      obtain ⟨z0, z1⟩ := zb
      have z2 : z < 4294967296 := by omega
      obtain ⟨vb, hvb⟩ : ∃ vb, mayB z y = vb := ⟨_, rfl⟩
      have HV : Hid (rpOk y L = vb) := by unfold Hid rpOk; rw [hz, hvb, HL.out, hd, hmd]; simp [h32]
      have HVB : Hid (mayB z y = vb) := hvb
      have HZ : Hid (mix 0 0 L = z) := hz
      have hm4 : m ≤ 4 := by omega
      have he : ((m : Int) != (d : Int)) = false := by simp [hmd]
      clear hr hd hmd hz hvb
      go_enter Try.func67, Try.ntmps67
      go_wp2_with (first
        | (go_at_call 46; refine (refNeeds_any _ _ y0 y1 HD.out).mono ?_; rintro e w' ⟨rfl, rfl⟩)
        | (at_builtin; refine wpList_app8 _ rfl (.const (.slice none 0 0)) (.tmp 21) 25 5 rfl (w.heap.size + 1) Try.underlying25 info5 _ 0 [] rfl (own8_nil _ _ _) _ m cap L rfl (HR.out.later (below1 _ _)) m (by omega) L rfl (by omega) (by simp) ?_; intro a2 c2 W2 own2 hb2; have hB2 : Below (w.heap.size + 1) (w.alloc (.cells #[.int .u32 0, .int .i64 0] 41)) W2 := hb2))
      go_loopw [6] (fun u W => ∃ ad q cp, m ≤ q ∧ q ≤ 4 ∧ u = .slice ad q cp ∧ Hid (Own8 W (w.heap.size + 1) 5 (.slice ad q cp) q (pad L q)) ∧ Below (w.heap.size + 1) (w.alloc (.cells #[.int .u32 0, .int .i64 0] 41)) W) (fun u _ => 4 - sliceLen u)
      case atStart => exact ⟨a2, m, c2, Nat.le_refl _, hm4, rfl, by unfold Hid; rw [← HL.out, pad_self, HL.out]; exact own2, hB2⟩
      case round =>
        obtain ⟨ad, q, cp, hq, hq4, rfl, HO, hB3⟩ := hrel
        have z3 : w.heap.size + 1 ≤ wr.heap.size := by have := hB3.size; simpa using this
        by_cases hlt : q < 4
        · have hlt' : (q : Int) < 4 := by omega
          have HP : Hid (pad L q ++ [0] = pad L (q + 1)) := pad_next (by rw [HL.out]; exact hq)
          go_wp2_with (first
            | (at_builtin; refine wpList_app8 _ rfl (.tmp 26) (.tmp 27) 25 5 rfl (w.heap.size + 1) Try.underlying25 info5 _ q (pad L q) rfl (HO.out.alloc _) _ 1 1 [0] rfl (row8_at wr wr.heap.size rfl [0] 5 1 rfl (by intro n hn; simp at hn; omega) (by simp)) (q + 1) rfl (pad L (q + 1)) HP.out (by omega) (by simp; omega) ?_; intro a3 c3 W3 own3 hb3; have hB4 := (hB3.alloc z3 _).trans hb3))
          go_roundw
          case rel => exact ⟨a3, q + 1, c3, by omega, by omega, rfl, own3, hB4⟩
          case measure => simp [sliceLen]; omega
        · obtain rfl : q = 4 := by omega
          have RW : Hid (Row8 wr ad 4 (mixL 0 0 L)) := by have := HO.out.row (pad_bytes HBy.out 4) (by omega); rw [pad_4] at this; exact this
          have HG : Hid (getV (mixL 0 0 L) 0 4 = z) := HZ.out
          have N1 := box41 hB3
          obtain ⟨n0, n1, nf, nz⟩ := N1
          have nn : w.heap.size ≠ wr.heap.size := by omega
          go_wp2_with (first
            | (go_at_call 51; refine (refGet_yes _ 4 _ (mixL 0 0 L) 0 4 _ RW.out (by omega) (by omega) (by omega)).mono ?_; rintro e V2 ⟨rfl, rfl⟩; rw [HG.out])
            | (go_at_call 45; refine (refMay_any _ _ _ z0 z2 (by omega) (by omega) HVB.out).mono ?_; rintro e W3 ⟨rfl, hb3⟩; obtain ⟨m0, m1, mf, mz, hbV⟩ := kept41 hb3 n0 n1 nf nz; obtain ⟨s0, s1, sz3⟩ := new2 V2 (.int .u32 z) (.int .i64 y) 41; have s0 := cell_later hb3 s0; have s1 := cell_later hb3 s1))
          rw [HV.out, HZ.out]
          refine bodyPost_ret (v := .tuple #[.agg #[.int .u32 z, .int .i64 y], .bool vb]) (by simp [results, Try.results67, go_sem, m0, m1]) rfl ⟨z, y, rfl, fun _ => ⟨rfl, rfl⟩, z0, z2, y0, y1, ?_⟩
          exact ((stp (out9 hB3) hbV).setCell (Nat.le_refl _) _).setCell (Nat.le_refl _) _
    · have HF : Hid (rpOk y L = false) := by unfold Hid rpOk; rw [HL.out, hd]; simp [hmd]
      have he : ((m : Int) != (d : Int)) = true := by rw [bne_iff_ne]; omega
      clear hr hd hmd
      go_enter Try.func67, Try.ntmps67
      go_wp2_with (go_at_call 46; refine (refNeeds_any _ _ y0 y1 HD.out).mono ?_; rintro e w' ⟨rfl, rfl⟩)
      rw [HF.out]
      exact bodyPost_ret (v := .tuple #[.agg #[.int .u32 0, .int .i64 0], .bool false]) (by simp [results, Try.results67, go_sem]) rfl ⟨0, 0, rfl, (fun h => by cases h), by decide, by decide, by decide, by decide, below1 _ _⟩
  · have HF : Hid (rpOk y L = false) := by unfold Hid rpOk; simp [h32]
    have h32' : 32 < y := by omega
    clear hr hd h32
    go_enter Try.func67, Try.ntmps67
    go_wp2
    rw [HF.out]
    exact bodyPost_ret (v := .tuple #[.agg #[.int .u32 0, .int .i64 0], .bool false]) (by simp [results, Try.results67, go_sem]) rfl ⟨0, 0, rfl, (fun h => by cases h), by decide, by decide, by decide, by decide, below1 _ _⟩
end Go.Proofs.Ytakikkigkmcffaa
