/- The contracts of the document's Pack and Bytes. -/
import Derived.Test.YtofmgkpghkeegaaJouF
import Derived.Test.YtofmgkpghkeegaaMat1
namespace Go.Proofs.Ytofmgkpghkeegaa
open Go.RowKit

theorem wrap8 {x : Int} (h0 : 0 ≤ x) (h1 : x ≤ 255) : IntKind.u8.wrap x = x := by
  simp [IntKind.wrap, IntKind.signed, IntKind.bits]; omega
theorem conv_any {w : World} {a : Option Addr} {len : Nat} (cap : Nat) {l : List Int} (h : Row8 w a len l) :
    Sem.run Try.prog (convert 43 9 (.slice a len cap)) w = .ok (.string (strOfNums l)) w := conv8 43 5 9 Try.underlying43 Try.underlying5 Try.underlying9 cap h
theorem info5 : (Try.prog.info? 5).map (fun i => (i.zero, i.size, i.bytes)) = some (some (.int .u8 0), 1, 1) := by kernel_rfl
theorem make4 (W : World) : Sem.run Try.prog (Instr.makeSlice 43 (.int .i64 4) (.int .i64 4)) W = .ok (.slice (some ⟨W.heap.size, 0, none⟩) 4 4) (W.alloc (.cells #[.int .u8 0, .int .u8 0, .int .u8 0, .int .u8 0] 5)) := by
  have h := run_make_row' 43 5 (.int .u8 0) 1 Try.underlying43 info5 rfl .i64 .i64 4 (by omega) (by omega) W
  rw [show madeCells #[Value.int .u8 0] 4 = #[.int .u8 0, .int .u8 0, .int .u8 0, .int .u8 0] from by kernel_rfl] at h
  exact h
def put4Rel (n : Int) (w : World) (m i : Value) (W : World) : Prop :=
  (m = .int .u32 n ∧ i = .int .i64 3 ∧ W = w.alloc (.cells #[.int .u8 0, .int .u8 0, .int .u8 0, .int .u8 0] 5)) ∨
  (m = .int .u32 (n / 256) ∧ i = .int .i64 2 ∧ W = w.alloc (.cells #[.int .u8 0, .int .u8 0, .int .u8 0, .int .u8 (n % 256)] 5)) ∨
  (m = .int .u32 (n / 65536) ∧ i = .int .i64 1 ∧ W = w.alloc (.cells #[.int .u8 0, .int .u8 0, .int .u8 (n / 256 % 256), .int .u8 (n % 256)] 5)) ∨
  (m = .int .u32 (n / 16777216) ∧ i = .int .i64 0 ∧ W = w.alloc (.cells #[.int .u8 0, .int .u8 (n / 65536 % 256), .int .u8 (n / 256 % 256), .int .u8 (n % 256)] 5)) ∨
  (m = .int .u32 0 ∧ i = .int .i64 (-1) ∧ W = w.alloc (.cells #[.int .u8 (n / 16777216), .int .u8 (n / 65536 % 256), .int .u8 (n / 256 % 256), .int .u8 (n % 256)] 5))
set_option maxHeartbeats 1000000 in
theorem refPut4 (n : Int) (w : World) (h0 : 0 ≤ n) (h1 : n ≤ 4294967295) :
    Calls Try.prog 32 #[.int .u32 n, .int .i64 4] w fun e w' => e = .returned (.slice (some ⟨w.heap.size, 0, none⟩) 4 4) ∧ w' = w.alloc (.cells #[.int .u8 (n / 16777216), .int .u8 (n / 65536 % 256), .int .u8 (n / 256 % 256), .int .u8 (n % 256)] 5) := by
  have hmk := make4 w
  go_enter Try.func32, Try.ntmps32
  go_wp2
  go_loopw [0, 6] (fun m i W => put4Rel n w m i W) (fun _ i _ => (intOf i + 1).toNat)
  case atStart => exact .inl ⟨rfl, rfl, rfl⟩
  case round =>
    clear hmk
    rcases hrel with ⟨rfl, rfl, rfl⟩ | ⟨rfl, rfl, rfl⟩ | ⟨rfl, rfl, rfl⟩ | ⟨rfl, rfl, rfl⟩ | ⟨rfl, rfl, rfl⟩
    · go_wp2
      go_roundw
      case rel => exact .inr (.inl ⟨by first | rfl | go_num, rfl, rfl⟩)
      case measure => simp [intOf]
    · go_wp2
      go_roundw
      case rel => exact .inr (.inr (.inl ⟨by first | rfl | go_num, rfl, rfl⟩))
      case measure => simp [intOf]
    · go_wp2
      go_roundw
      case rel => exact .inr (.inr (.inr (.inl ⟨by first | rfl | go_num, rfl, rfl⟩)))
      case measure => simp [intOf]
    · go_wp2
      go_roundw
      case rel => exact .inr (.inr (.inr (.inr (⟨by first | rfl | go_num, rfl, by rw [show n / 16777216 % 256 = n / 16777216 from by omega]⟩))))
      case measure => simp [intOf]
    · go_wp2
      go_ret
      exact ⟨rfl, rfl⟩
theorem Own8.later {w w' : World} {base : Nat} {e : TypeId} {v : Value} {n : Nat} {l : List Int} (h : Own8 w base e v n l) (hb : Below w.heap.size w w') : Own8 w' base e v n l := by
  refine ⟨h.1, ?_⟩
  rcases h.2 with hn | ⟨g, cap, cur, hv, hbg, hg, r⟩
  · exact .inl hn
  · refine .inr ⟨g, cap, cur, hv, hbg, ?_, r⟩
    rw [hb.block g (Array.getElem?_eq_some_iff.1 hg).1]
    exact hg
theorem Own8.len {w : World} {base : Nat} {e : TypeId} {v : Value} {n : Nat} {l : List Int} (h : Own8 w base e v n l) : l.length = n := by have := h.1; simpa using this
theorem bytes_b4 {n : Int} (h0 : 0 ≤ n) (h1 : n ≤ 4294967295) : Bytes (b4 n) := fun m hm => by
  simp only [b4, List.mem_cons, List.not_mem_nil, or_false] at hm
  rcases hm with rfl | rfl | rfl | rfl <;> omega
theorem row_b4 {W : World} {n : Int} (h0 : 0 ≤ n) (h1 : n ≤ 4294967295) (N : Nat) (hN : N = W.heap.size) : Row8 (W.alloc (.cells #[.int .u8 (n / 16777216), .int .u8 (n / 65536 % 256), .int .u8 (n / 256 % 256), .int .u8 (n % 256)] 5)) (some ⟨N, 0, none⟩) 4 (b4 n) :=
  row8_at W N hN (b4 n) 5 4 rfl (bytes_b4 h0 h1) (by simp [b4])
theorem bytes_J {L : List Fc} (h : Fcs L) (hm : ∀ p ∈ L, MayF p) : Bytes (bytesJ L) := fun n hn => by
  obtain ⟨f, hf, h1⟩ := List.mem_flatMap.1 hn
  have h2 := hm f hf
  have h3 := h f hf
  unfold byF at h1
  rw [List.mem_append, List.mem_append] at h1
  rcases h1 with (h1 | h1) | h1
  · simp only [List.mem_cons, List.not_mem_nil, or_false] at h1
    unfold MayF at h2
    rcases h1 with rfl | rfl | rfl | rfl <;> omega
  · exact bytes_b4 h3.y0 h3.y1 n h1
  · exact bytes_b4 h3.n0 h3.n1 n h1
/-- Another row is laid, and all of it kept. -/
theorem RefJ.both {w W : World} {N K : Nat} {room : Int} {v v' : Value} {L L' : List Fc} (h : RefJ w N room v L K) (hg : w.grownBy W v.ownBlock) (own : OwnF W (N + 1) v' L'.length L') (hP : Fcs L') :
    RefJ ((W.setCell ⟨N, 1, none⟩ v').setCell ⟨N, 2, none⟩ (.int .i64 (L'.length : Int))) N room v' L' L'.length := by
  obtain ⟨e0, f0⟩ := h.head hg 0
  obtain ⟨e1, f1⟩ := h.head hg 1
  obtain ⟨e2, f2⟩ := h.head hg 2
  rw [h.c0] at e0
  rw [h.c1] at e1
  rw [h.c2] at e2
  have e2' : (W.setCell ⟨N, 1, none⟩ v').cell? ⟨N, 2, none⟩ = some (.int .i64 (K : Int)) := by rw [World.cell?_setCell_other _ _ _ _ (by simp)]; exact e2
  refine ⟨?_, ?_, ?_, fun o => ?_, ?_, hP, Nat.le_refl _⟩
  · rw [World.cell?_setCell_other _ _ _ _ (by simp), World.cell?_setCell_other _ _ _ _ (by simp)]; exact e0
  · rw [World.cell?_setCell_other _ _ _ _ (by simp), World.cell?_setCell_same _ _ _ e1]
  · rw [World.cell?_setCell_same _ _ _ e2']
  · rw [World.frozen?_setCell, World.frozen?_setCell]; exact (h.head hg o).2
  · refine own.same fun g hg' => ?_
    have := own.lt g hg'
    rw [Below.heap_setCell _ _ _ _ (show g ≠ N by omega), Below.heap_setCell _ _ _ _ (show g ≠ N by omega)]
set_option maxHeartbeats 1000000 in
theorem refPack_any (N K : Nat) (room : Int) (v : Value) (L : List Fc) (w : World) (h : RefJ w N room v L K) (hL : L.length ≤ 3000) :
    Calls Try.prog 18 #[.pointer (some ⟨N, 0, none⟩)] w (DoneR w N room v (factsJ L) (factsJ L).length (.returned (.tuple #[]))) := by
  have HT : Hid (RefJ w N room v L K) := h
  have HL : Hid (L.length ≤ 3000) := hL
  clear h hL
  go_enter Try.func18, Try.ntmps18
  go_wp2_with (go_at_call 23; refine (refFacts_any N K room v L _ HT.out HL.out).mono ?_; rintro e W1 ⟨ad, k, cap, rfl, own, hb⟩; have HO : Hid (OwnF W1 w.heap.size (.slice ad k cap) k (factsJ L)) := own; have HB : Hid (Below w.heap.size w W1) := hb; have c1 := (HT.out.later hb).c1; have c2 := (HT.out.later hb).c2; have f1 := (HT.out.later hb).fz 1; have f2 := (HT.out.later hb).fz 2; clear own hb)
  refine bodyPost_end (results_none rfl _ _ _) rfl ?_
  obtain rfl := HO.out.len
  have hN := HT.out.lt
  refine ⟨_, rfl, HT.out.both (grown_of HB.out _) (HO.out.base (Nat.succ_le_of_lt hN)) (Fcs_facts HT.out.ok L fun _ h => h), fun g hg => .inr (HO.out.lt g hg), ((keep_of HB.out).setCell (p := ⟨N, 1, none⟩) (.inl rfl) _).setCell (p := ⟨N, 2, none⟩) (.inl rfl) _⟩
set_option maxRecDepth 100000 in
set_option maxHeartbeats 4000000 in
theorem refBytes_any (N K : Nat) (room : Int) (v : Value) (L : List Fc) (w : World) (h : RefJ w N room v L K) (hL : L.length ≤ 3000) (hM : ∀ p ∈ L, MayF p) :
    Calls Try.prog 26 #[.pointer (some ⟨N, 0, none⟩)] w fun e w' => ∃ ad k cap, e = .returned (.slice ad k cap) ∧ Own8 w' w.heap.size 5 (.slice ad k cap) k (bytesJ L) ∧ Below w.heap.size w w' := by
  obtain ⟨ad, cap, rfl⟩ := h.own.shape
  obtain ⟨nn, hn⟩ : ∃ n, L.length = n := ⟨_, rfl⟩
  rw [hn] at h hL
  have HT : Hid (RefJ w N room (.slice ad nn cap) L K) := h
  have HRow : Hid (RowF w ad nn L) := by unfold Hid; have := h.own; rw [hn] at this; exact this.row h.ok
  have HN : Hid (L.length = nn) := hn
  have HM : Hid (∀ p ∈ L, MayF p) := hM
  clear h hn hM
  go_enter Try.func26, Try.ntmps26
  go_wp2
  go_loopw [3, 4] (fun b_ i_ W => ∃ (j : Nat) (ao : Option Addr) (co : Nat), j ≤ nn ∧ i_ = .int .i64 j ∧ b_ = .slice ao (12 * j) co ∧ Hid (Own8 W w.heap.size 5 (.slice ao (12 * j) co) (12 * j) (bytesJ (L.take j))) ∧ Hid (Below w.heap.size w W)) (fun _ i_ _ => nn - (intOf i_).toNat)
  case atStart => exact ⟨0, none, 0, Nat.zero_le _, rfl, rfl, own8_nil _ _ _, Below.refl _ _⟩
  case round =>
    obtain ⟨j, ao, co, hj, rfl, rfl, HO, HB⟩ := hrel
    have c1 := (HT.out.later HB.out).c1
    by_cases hlt : j < nn
    · have hlt' : (j : Int) < (nn : Int) := by omega
      obtain ⟨⟨pk, py, pn⟩, b, off, he, hok, rfl, q⟩ := HRow.out.at hlt
      have hm := HM.out _ (List.mem_of_getElem? he)
      obtain ⟨q0, q1, q2⟩ := q.later HB.out
      simp only at q0 q1 q2
      have HE : Hid (bytesJ (L.take (j + 1)) = bytesJ (L.take j) ++ [pk, 0, 0, 0] ++ b4 py ++ b4 pn) := bytesJ_next he
      have HOK : Hid (Fc.Ok ⟨pk, py, pn⟩) := hok
      have hm0 : 0 ≤ pk ∧ pk ≤ 255 := hm
      have ec : IntKind.u8.wrap pk = pk := wrap8 hm0.1 (by omega)
      have ec2 : pk % 256 = pk := by omega
      have HB4 : Hid (Bytes [pk, 0, 0, 0]) := fun m hm => by
        simp only [List.mem_cons, List.not_mem_nil, or_false] at hm
        rcases hm with rfl | rfl | rfl | rfl <;> omega
      have HC : Hid (∀ W, Below w.heap.size w W → W.cell? ⟨N, 1, none⟩ = some (.slice (some ⟨b, off, none⟩) nn cap) ∧ F3 W b (off + j * 3) ⟨pk, py, pn⟩) := fun W hW => ⟨(HT.out.later hW).c1, q.later hW⟩
      have hsz := HB.out.size
      clear he hok hm q
      go_wp2_with (first
        | (go_at_call_of 32 (Value.int IntKind.u32 py); refine (refPut4 _ _ HOK.out.y0 HOK.out.y1).mono ?_; rintro e W_ ⟨rfl, rfl⟩)
        | (go_at_call_of 32 (Value.int IntKind.u32 pn); refine (refPut4 _ _ HOK.out.n0 HOK.out.n1).mono ?_; rintro e W_ ⟨rfl, rfl⟩)
        | (at_builtin; refine wpList_app8 _ rfl (.tmp 14) (.tmp 24) 43 5 rfl w.heap.size Try.underlying43 info5 _ (12 * j) (bytesJ (L.take j)) rfl (HO.out.alloc _) _ 4 4 [pk, 0, 0, 0] rfl (row8_at wr _ rfl [pk, 0, 0, 0] 5 4 rfl HB4.out (by simp)) (12 * j + 4) rfl (bytesJ (L.take j) ++ [pk, 0, 0, 0]) rfl (by omega) (by simp; omega) ?_; intro a1 p1 W1 own1 hb1; have HO1 : Hid (Own8 W1 w.heap.size 5 (.slice a1 (12 * j + 4) p1) (12 * j + 4) (bytesJ (L.take j) ++ [pk, 0, 0, 0])) := own1; have HB1 : Hid (Below w.heap.size w W1) := (HB.out.alloc hsz _).trans hb1; obtain ⟨d0, d1, d2, d3⟩ := HC.out _ HB1.out; simp only at d1 d2 d3; clear own1 hb1)
        | (at_builtin; refine wpList_app8 _ rfl (.tmp 26) (.tmp 35) 43 5 rfl w.heap.size Try.underlying43 info5 _ (12 * j + 4) (bytesJ (L.take j) ++ [pk, 0, 0, 0]) rfl (HO1.out.alloc _) _ 4 4 (b4 py) rfl (row_b4 HOK.out.y0 HOK.out.y1 _ rfl) (12 * j + 8) rfl (bytesJ (L.take j) ++ [pk, 0, 0, 0] ++ b4 py) rfl (by omega) (by have := HB1.out.size; simp; omega) ?_; intro a2 p2 W2 own2 hb2; have HO2 : Hid (Own8 W2 w.heap.size 5 (.slice a2 (12 * j + 8) p2) (12 * j + 8) (bytesJ (L.take j) ++ [pk, 0, 0, 0] ++ b4 py)) := own2; have HB2 : Hid (Below w.heap.size w W2) := (HB1.out.alloc HB1.out.size _).trans hb2; obtain ⟨f0, f1, f2, f3⟩ := HC.out _ HB2.out; simp only at f1 f2 f3; clear own2 hb2)
        | (at_builtin; refine wpList_app8 _ rfl (.tmp 37) (.tmp 46) 43 5 rfl w.heap.size Try.underlying43 info5 _ (12 * j + 8) (bytesJ (L.take j) ++ [pk, 0, 0, 0] ++ b4 py) rfl (HO2.out.alloc _) _ 4 4 (b4 pn) rfl (row_b4 HOK.out.n0 HOK.out.n1 _ rfl) (12 * (j + 1)) (by omega) (bytesJ (L.take j) ++ [pk, 0, 0, 0] ++ b4 py ++ b4 pn) rfl (by omega) (by have := HB2.out.size; simp; omega) ?_; intro a3 p3 W3 own3 hb3; have HO3 : Hid (Own8 W3 w.heap.size 5 (.slice a3 (12 * (j + 1)) p3) (12 * (j + 1)) (bytesJ (L.take j) ++ [pk, 0, 0, 0] ++ b4 py ++ b4 pn)) := own3; have HB3 : Hid (Below w.heap.size w W3) := (HB2.out.alloc HB2.out.size _).trans hb3; clear own3 hb3))
      go_roundw
      case rel => exact ⟨j + 1, a3, p3, by omega, by go_num, rfl, by unfold Hid; rw [HE.out]; exact HO3.out, HB3⟩
      case measure => simp [intOf]; omega
    · have hlt' : ¬ (j : Int) < (nn : Int) := by omega
      obtain rfl : j = nn := by omega
      rw [show L.take j = L by rw [← HN.out]; exact List.take_length] at HO
      go_wp2
      go_ret
      exact ⟨ao, 12 * j, co, rfl, HO.out, HB.out⟩
end Go.Proofs.Ytofmgkpghkeegaa
