/- The contract of the document's Hello. -/
import Derived.Test.YtenkghcdhanciaaNegR
namespace Go.Proofs.Ytenkghcdhanciaa
open Go.RowKit

theorem downN_succ : ∀ (k : Nat) (h : List Bool), downN (k + 1) h = inN false (downN k h)
  | 0, _ => rfl
  | k + 1, h => by
    show downN (k + 1) (inN false h) = _
    rw [downN_succ k (inN false h)]
    rfl
/-- What the history is, ahead of the last bit. -/
def HalfN (w : World) (N : Nat) (v : Value) (s : Nh) (l : List Bool) (v1 : Value) (W : World) : Prop :=
  RefN W N v1 { s with h := l } ∧ (∀ g, v1.ownBlock = some g → v.ownBlock = some g ∨ w.heap.size ≤ g) ∧ Keep (fun k => k = N) w W
section
variable {w W W1 W2 : World} {N : Nat} {v v1 : Value} {s : Nh} {l : List Bool} {b : Bool} {e : Ending}
theorem HalfN.start (h : RefN w N v s) : HalfN w N v s s.h v w := ⟨h, fun _ hg => .inl hg, Keep.refl _ _⟩
theorem HalfN.step (h : HalfN w N v s l v1 W) (hd : DoneN W N v1 { s with h := inN b l } e W1) : e = .returned (.tuple #[]) ∧ ∃ v2, HalfN w N v s (inN b l) v2 W1 := by
  obtain ⟨v2, rfl, h1, h2, h3⟩ := hd
  refine ⟨rfl, v2, h1, fun g hg => ?_, h.2.2.trans h3 fun i _ hi => hi⟩
  rcases h2 g hg with e | e
  · exact h.2.1 g e
  · exact .inr (Nat.le_trans h.2.2.size e)
theorem HalfN.laid (h : RefN w N v s) (hb : Below w.heap.size w W) {g off cap : Nat} (hg : w.heap.size ≤ g) (hs : g < W.heap.size) (hc : 16 ≤ cap) (hr : RowB W (some ⟨g, off, none⟩) 16 l) :
    HalfN w N v s l (.slice (some ⟨g, off, none⟩) 16 cap) (W.setCell ⟨N, 0, none⟩ (.slice (some ⟨g, off, none⟩) 16 cap)) := by
  obtain ⟨h1, h2⟩ := h.lay hb hg hs hc hr
  exact ⟨h1, fun g' hg' => by simp only [Value.ownBlock, Option.some.injEq] at hg'; omega, h2⟩
theorem HalfN.fin {q : Int} (h : HalfN w N v s (inN true (baseN s q)) v1 W) : DoneN w N v (helloN s q) (.returned (.tuple #[])) ((W.setCell ⟨N, 1, none⟩ (.bool true)).setCell ⟨N, 2, none⟩ (.int .u16 ((q + 1) % 65536))) :=
  ⟨v1, rfl, (h.1.set1 true).set2 ((q + 1) % 65536) (by omega) (by omega), h.2.1, (h.2.2.setCell (p := ⟨N, 1, none⟩) rfl _).setCell (p := ⟨N, 2, none⟩) rfl _⟩
end
set_option maxRecDepth 100000 in
set_option maxHeartbeats 4000000 in
theorem refHello_any (N : Nat) (v : Value) (s : Nh) (q : Int) (w : World) (h : RefN w N v s) :
    Calls Try.prog 13 #[.pointer (some ⟨N, 0, none⟩), .int .u16 q] w (DoneN w N v (helloN s q)) := by
  obtain ⟨g, off, cap, rfl, h1, h2, h3, h4⟩ := h.row
  have HR : Hid (RefN w N _ s) := h
  have z0 := h.c0
  have z1 := h.c1
  have z2 := h.c2
  have zf0 := h.f 0
  obtain ⟨ka, hka⟩ : ∃ k : Nat, (q - s.x) % 65536 = (k : Int) := ⟨((q - s.x) % 65536).toNat, by omega⟩
  obtain ⟨kb, hkb⟩ : ∃ k : Nat, (s.x - q) % 65536 = (k : Int) := ⟨((s.x - q) % 65536).toNat, by omega⟩
  have hka' : ka < 65536 := by omega
  have hkb' : kb < 65536 := by omega
  have hwa : IntKind.u16.wrap (q - s.x) = (ka : Int) := by rw [← hka]; simp [IntKind.wrap, IntKind.signed, IntKind.bits]
  have hwb : IntKind.u16.wrap (s.x - q) = (kb : Int) := by rw [← hkb]; simp [IntKind.wrap, IntKind.signed, IntKind.bits]
  have hx0 := h.good.x0
  have hx1 := h.good.x1
  have HL : Hid (RowB w (some ⟨g, off, none⟩) 16 s.h) := h4
  have HN : Hid (N < w.heap.size) := h.lt
  have za : ∀ o, (w.alloc o).cell? ⟨N, 0, none⟩ = some (.slice (some ⟨g, off, none⟩) 16 cap) := fun o => cell_later (below1 w o) h.c0
  have zfa : ∀ o, (w.alloc o).frozen? ⟨N, 0, none⟩ = false := fun o => ((below1 w o).frozen (p := ⟨N, 0, none⟩) h.lt).trans (h.f 0)
  have hmk := make16
  clear h h4
  by_cases hfar : s.y = false ∨ s.y = true ∧ 17 ≤ ka ∧ 17 ≤ kb
  · have HBa : Hid (baseN s q = zeroN) := by
      unfold Hid baseN aheadN behindN
      rw [hka, hkb, if_pos]
      rcases hfar with e | ⟨-, e1, e2⟩
      · exact .inl e
      · exact .inr ⟨by omega, by omega⟩
    have HFa : Hid (HalfN w N (.slice (some ⟨g, off, none⟩) 16 cap) s zeroN (.slice (some ⟨w.heap.size, 0, none⟩) 16 16) ((w.alloc obj16).setCell ⟨N, 0, none⟩ (.slice (some ⟨w.heap.size, 0, none⟩) 16 16))) := HalfN.laid (l := zeroN) HR.out (below1 w obj16) (Nat.le_refl _) (by simp) (Nat.le_refl 16) (row16 w)
    rcases hfar with e | ⟨e, e1, e2⟩
    case' inr => have e1' : (17 : Int) ≤ (ka : Int) := by omega
    case' inr => have e2' : (17 : Int) ≤ (kb : Int) := by omega
    all_goals
      rw [e] at z1
      clear hka hkb
      go_enter Try.func13, Try.ntmps13
      go_wp2_with (go_at_call 26; refine (in_any N _ _ true _ HFa.out.1).mono ?_; intro e W1 hd; obtain ⟨rfl, v2, hH⟩ := HFa.out.step hd; have y1 := hH.1.c1; have y2 := hH.1.c2; have f1 := hH.1.f 1; have f2 := hH.1.f 2; simp only at y1 y2; have HH : Hid (_) := hH; clear hH hd)
      refine bodyPost_ret (v := .tuple #[]) (by simp [results, Try.results13, go_sem]) rfl ?_
      refine HalfN.fin (v1 := v2) ?_
      rw [HBa.out]
      exact HH.out
  · have hy : s.y = true := by
      cases hh : s.y
      · exact absurd (.inl hh) hfar
      · rfl
    rw [hy] at z1
    by_cases hlow : ka < 17
    · have hlow' : (ka : Int) < 17 := by omega
      have hlow2 : ¬ (17 : Int) ≤ (ka : Int) := by omega
      have HBa : Hid (baseN s q = downN ka s.h) := by
        unfold Hid baseN aheadN behindN
        rw [hka, hkb, if_neg, if_pos hlow']
        · simp
        · rintro (e | e)
          · rw [hy] at e; cases e
          · omega
      have HF0 : Hid (HalfN w N _ s (downN 0 s.h) _ w) := HalfN.start HR.out
      clear hfar hy hka hkb
      go_enter Try.func13, Try.ntmps13
      go_wp2
      go_loopw [6] (fun i_ W => ∃ (j : Nat) (v1 : Value), j ≤ ka ∧ i_ = .int .i64 j ∧ Hid (HalfN w N (.slice (some ⟨g, off, none⟩) 16 cap) s (downN j s.h) v1 W)) (fun i_ _ => ka - (intOf i_).toNat)
      case atStart => exact ⟨0, _, Nat.zero_le _, rfl, HF0⟩
      case round =>
        clear HF0
        obtain ⟨j, v1, hj, rfl, HB⟩ := hrel
        by_cases hlt : j < ka
        · have hlt' : (j : Int) < (ka : Int) := by omega
          go_wp2_with (go_at_call 26; refine (in_any N _ _ false _ HB.out.1).mono ?_; intro e W1 hd; obtain ⟨rfl, v2, hH⟩ := HB.out.step hd)
          go_roundw
          case rel => exact ⟨j + 1, v2, by omega, by go_num, by unfold Hid; rw [downN_succ]; exact hH⟩
          case measure => simp [intOf]; omega
        · have hlt' : ¬ (j : Int) < (ka : Int) := by omega
          obtain rfl : j = ka := by omega
          go_wp2_with (go_at_call 26; refine (in_any N _ _ true _ HB.out.1).mono ?_; intro e W1 hd; obtain ⟨rfl, v2, hH⟩ := HB.out.step hd; have y1 := hH.1.c1; have y2 := hH.1.c2; have f1 := hH.1.f 1; have f2 := hH.1.f 2; simp only at y1 y2; have HH : Hid (_) := hH; clear hH hd)
          refine bodyPost_ret (v := .tuple #[]) (by simp [results, Try.results13, go_sem]) rfl ?_
          refine HalfN.fin (v1 := v2) ?_
          rw [HBa.out]
          exact HH.out
    · have hlow' : ¬ (ka : Int) < 17 := by omega
      have hlow2 : (17 : Int) ≤ (ka : Int) := by omega
      have hbl : kb < 17 := by
        rcases Nat.lt_or_ge kb 17 with e | e
        · exact e
        · exact absurd (.inr ⟨hy, by omega, e⟩) hfar
      have hbl' : ¬ (17 : Int) ≤ (kb : Int) := by omega
      have HBa : Hid (baseN s q = upN kb s.h) := by
        unfold Hid baseN aheadN behindN
        rw [hka, hkb, if_neg, if_neg hlow']
        · simp
        · rintro (e | e)
          · rw [hy] at e; cases e
          · omega
      clear hfar hy hka hkb
      go_enter Try.func13, Try.ntmps13
      go_wp2_with (at_builtin; refine wpList_appB _ rfl (.const (.slice none 0 0)) (.tmp 52) 41 4 rfl w.heap.size Try.underlying41 infoB _ 0 [] rfl (ownB_nil _ _ _) _ 16 cap s.h rfl HL.out (by omega) 16 rfl s.h rfl (by omega) (Nat.le_refl _) ?_; intro a2 c2 W2 own2 hb2)
      have HF0 : Hid (OwnB W2 w.heap.size 4 (.slice a2 16 c2) 16 s.h ∧ Below w.heap.size w W2) := ⟨own2, hb2⟩
      clear own2 hb2
      go_loopw [7, 8] (fun l_ i_ W => ∃ (j : Nat) (a : Option Addr) (c : Nat), j ≤ kb ∧ i_ = .int .i64 j ∧ l_ = .slice a (16 + j) c ∧ Hid (OwnB W w.heap.size 4 (.slice a (16 + j) c) (16 + j) (s.h ++ List.replicate j false) ∧ Below w.heap.size w W)) (fun _ i_ _ => kb - (intOf i_).toNat)
      case atStart => exact ⟨0, a2, c2, Nat.zero_le _, rfl, rfl, by simpa using HF0⟩
      case round =>
        clear HF0
        obtain ⟨j, a3, c3, hj, rfl, rfl, HB⟩ := hrel
        by_cases hlt : j < kb
        · have hlt' : (j : Int) < (kb : Int) := by omega
          go_wp2_with (at_builtin; refine wpList_appB _ rfl (.tmp 59) (.tmp 60) 41 4 rfl w.heap.size Try.underlying41 infoB _ (16 + j) (s.h ++ List.replicate j false) rfl (HB.out.1.later (below1 _ _)) _ 1 1 [false] rfl ((ownB_one wr false).row (by omega)) (by omega) (16 + (j + 1)) (by omega) (s.h ++ List.replicate (j + 1) false) (by rw [List.append_assoc, List.replicate_succ']) (by omega) (by have := HB.out.2.size; simp; omega) ?_; intro a4 c4 W4 own4 hb4; have HB4 : Hid (Below w.heap.size w W4) := (HB.out.2.alloc HB.out.2.size _).trans hb4)
          go_roundw
          case rel => exact ⟨j + 1, a4, c4, by omega, by go_num, rfl, own4, HB4.out⟩
          case measure => simp [intOf]; omega
        · have hlt' : ¬ (j : Int) < (kb : Int) := by omega
          obtain rfl : j = kb := by omega
          obtain ⟨g3, rfl, hg3, hs3, -⟩ := HB.out.1.cells (by omega)
          have hcap3 := HB.out.1.cap_le
          have hc0 := (HR.out.later HB.out.2).c0
          have hf0 := (HR.out.later HB.out.2).f 0
          have HFa : Hid (HalfN w N (.slice (some ⟨g, off, none⟩) 16 cap) s (upN j s.h) (.slice (some ⟨g3, 0 + j, none⟩) 16 (c3 - j)) (wr.setCell ⟨N, 0, none⟩ (.slice (some ⟨g3, 0 + j, none⟩) 16 (c3 - j)))) := HalfN.laid HR.out HB.out.2 hg3 hs3 (by omega) (rowB_drop (HB.out.1.row (by omega)) j 16 (by omega))
          rw [Nat.zero_add] at HFa
          have hi1 : (j : Int) ≤ (c3 : Int) := by omega
          have hi2 : (j : Int) + 16 ≤ (c3 : Int) := by omega
          go_wp2_with (go_at_call 26; refine (in_any N _ _ true _ HFa.out.1).mono ?_; intro e W1 hd; obtain ⟨rfl, v2, hH⟩ := HFa.out.step hd; have y1 := hH.1.c1; have y2 := hH.1.c2; have f1 := hH.1.f 1; have f2 := hH.1.f 2; simp only at y1 y2; have HH : Hid (_) := hH; clear hH hd)
          refine bodyPost_ret (v := .tuple #[]) (by simp [results, Try.results13, go_sem]) rfl ?_
          refine HalfN.fin (v1 := v2) ?_
          rw [HBa.out]
          exact HH.out
end Go.Proofs.Ytenkghcdhanciaa
