/- The contract of encodeEntry. -/
import Derived.Test.YtabpillcpnnidaaCon4
namespace Go.Proofs.Ytabpillcpnnidaa
open Go.RowKit

abbrev obj5 (a l t x m : Int) : Obj := .cells #[.int .u32 a, .int .i64 l, .int .u16 t, .int .u32 x, .int .i64 m] 43
def c02 : Obj := .cells #[.int .u8 0, .int .u8 2] 5
def ct (t : Int) : Obj := .cells #[.int .u8 (t / 256), .int .u8 (t % 256)] 5
theorem bytes02 : Bytes [0, 2] := by unfold Bytes; decide
theorem ent1 (w : World) (o : Obj) (t : Int) (h0 : 0 ≤ t) (h1 : t ≤ 65535) : Own8 (((w.alloc o).alloc c02).alloc (ct t)).drew (w.heap.size + 1) 5 (.slice (some ⟨w.heap.size + 1, 0, none⟩) 2 2) 2 [0, 2] ∧ Row8 (((w.alloc o).alloc c02).alloc (ct t)).drew (some ⟨w.heap.size + 1 + 1, 0, none⟩) 2 (b2 t) ∧ w.heap.size + 1 ≤ (((w.alloc o).alloc c02).alloc (ct t)).drew.heap.size ∧ Below (w.heap.size + 1) (w.alloc o) (((w.alloc o).alloc c02).alloc (ct t)).drew := by
  have hb : Below (w.heap.size + 1) (w.alloc o) (((w.alloc o).alloc c02).alloc (ct t)).drew := by
    have := (below2 (w.alloc o) c02 (ct t)).drew
    simpa using this
  refine ⟨((own8_at (w.alloc o) (w.heap.size + 1) (by simp) (w.heap.size + 1) 5 [0, 2] (Nat.le_refl _) (by decide)).alloc (ct t)).drew, (row8_at ((w.alloc o).alloc c02) (w.heap.size + 1 + 1) (by simp) (b2 t) 5 2 rfl (b2_bytes h0 h1) (by simp [b2])).drew, ?_, hb⟩
  simp [World.drew]; try omega
theorem ent2 (w : World) (o : Obj) (t : Int) (h0 : 0 ≤ t) (h1 : t ≤ 65535) : Own8 (((w.alloc o).alloc (ct t)).alloc c02).drew (w.heap.size + 1) 5 (.slice (some ⟨w.heap.size + 1 + 1, 0, none⟩) 2 2) 2 [0, 2] ∧ Row8 (((w.alloc o).alloc (ct t)).alloc c02).drew (some ⟨w.heap.size + 1, 0, none⟩) 2 (b2 t) ∧ w.heap.size + 1 ≤ (((w.alloc o).alloc (ct t)).alloc c02).drew.heap.size ∧ Below (w.heap.size + 1) (w.alloc o) (((w.alloc o).alloc (ct t)).alloc c02).drew := by
  have hb : Below (w.heap.size + 1) (w.alloc o) (((w.alloc o).alloc (ct t)).alloc c02).drew := by
    have := (below2 (w.alloc o) (ct t) c02).drew
    simpa using this
  refine ⟨(own8_at ((w.alloc o).alloc (ct t)) (w.heap.size + 1 + 1) (by simp) (w.heap.size + 1) 5 [0, 2] (by omega) (by decide)).drew, ((row8_at (w.alloc o) (w.heap.size + 1) (by simp) (b2 t) 5 2 rfl (b2_bytes h0 h1) (by simp [b2])).later (below1 _ _)).drew, ?_, hb⟩
  simp [World.drew]; try omega

theorem box5 {w W1 : World} {a l t x m : Int} (hB : Below (w.heap.size + 1) (w.alloc (obj5 a l t x m)) W1) :
    W1.cell? ⟨w.heap.size, 0, none⟩ = some (.int .u32 a) ∧ W1.cell? ⟨w.heap.size, 1, none⟩ = some (.int .i64 l) ∧ W1.cell? ⟨w.heap.size, 2, none⟩ = some (.int .u16 t) ∧ W1.cell? ⟨w.heap.size, 3, none⟩ = some (.int .u32 x) ∧ W1.cell? ⟨w.heap.size, 4, none⟩ = some (.int .i64 m) ∧ w.heap.size + 1 ≤ W1.heap.size := by
  have hz : w.heap.size < w.heap.size + 1 := by omega
  refine ⟨(hB.cell (p := ⟨w.heap.size, 0, none⟩) hz).trans ?_, (hB.cell (p := ⟨w.heap.size, 1, none⟩) hz).trans ?_, (hB.cell (p := ⟨w.heap.size, 2, none⟩) hz).trans ?_, (hB.cell (p := ⟨w.heap.size, 3, none⟩) hz).trans ?_, (hB.cell (p := ⟨w.heap.size, 4, none⟩) hz).trans ?_, by have := hB.size; simpa using this⟩
  all_goals simp [go_sem]

set_option maxHeartbeats 1000000 in
theorem encodeEntry_any (a l t x m : Int) (w : World) (hk : Ent.Ok ⟨a, l, t, x, m⟩) (hm : mayE ⟨a, l, t, x, m⟩ = true) :
    Calls Try.prog 19 #[.agg #[.int .u32 a, .int .i64 l, .int .u16 t, .int .u32 x, .int .i64 m]] w fun e w' => ∃ ad c, e = .returned (.slice ad 20 c) ∧ Row8 w' ad 20 (encE ⟨a, l, t, x, m⟩) ∧ Below w.heap.size w w' := by
  have hall := mayE_all hm
  have HB : Hid (Bytes (encE ⟨a, l, t, x, m⟩)) := encE_bytes hk hm
  have ha0 : 0 ≤ a := hk.a0
  have ha1 : a < 4294967296 := hk.a1
  have ha1' : a ≤ 4294967295 := by omega
  have ht0 : 0 ≤ t := hk.t0
  have ht1 : t ≤ 65535 := hk.t1
  have hx0 : 0 ≤ x := hk.x0
  have hx1 : x ≤ 4294967295 := hk.x1
  obtain ⟨hmb, hl0, hl1, hm0, hm1⟩ := hall
  have HM : Hid (0 ≤ maskV l ∧ maskV l ≤ 4294967295) := by have := maskV_bd l; exact ⟨this.1, by omega⟩
  have E1 : Hid (_) := ent1 w (obj5 a l t x m) t ht0 ht1
  have E2 : Hid (_) := ent2 w (obj5 a l t x m) t ht0 ht1
  clear hk hm hmb
  go_enter Try.func19, Try.ntmps19
  go_wp2
  go_region_held3 (fun w' => w'.cell? ⟨w.heap.size, 2, none⟩ = some (.int .u16 t)) (first | exact (box5 hB).2.2.1 | go_keep)
    (first
      | (go_at_call 31; refine (put16_any _ _ (by omega) (by omega)).mono ?_; rintro e w' ⟨rfl, rfl⟩)
      | (refine step_app8 _ (by rfl) _ _ 26 5 (by rfl) (w.heap.size + 1) Try.underlying26 info5 _ 2 [0, 2] (by rfl) E1.out.1 _ 2 2 (b2 t) (by rfl) E1.out.2.1 4 (by rfl) ([0, 2] ++ b2 t) (by rfl) (by decide) E1.out.2.2.1 ?_; intro a1 c1 W1 own1 hb; have hB := E1.out.2.2.2.trans hb; clear hb)
      | (refine step_app8 _ (by rfl) _ _ 26 5 (by rfl) (w.heap.size + 1) Try.underlying26 info5 _ 2 [0, 2] (by rfl) E2.out.1 _ 2 2 (b2 t) (by rfl) E2.out.2.1 4 (by rfl) ([0, 2] ++ b2 t) (by rfl) (by decide) E2.out.2.2.1 ?_; intro a1 c1 W1 own1 hb; have hB := E2.out.2.2.2.trans hb; clear hb))
  all_goals
    clear E1 E2
    obtain ⟨d0, d1, d2, d3, d4, z⟩ := box5 hB
    go_wp2_with (first
      | (go_at_call 32; refine (mask_any _ _).mono ?_; rintro e w' ⟨rfl, rfl⟩)
      | (go_at_call 30; refine (put32_any _ _ (by first | omega | exact HM.out.1) (by first | omega | exact HM.out.2)).mono ?_; rintro e w' ⟨rfl, rfl⟩)
      | (at_builtin; refine wpList_app8 _ rfl (.tmp 9) (.tmp 13) 26 5 rfl (w.heap.size + 1) Try.underlying26 info5 _ 4 _ rfl (own1.alloc _) _ 4 4 (b4 a) rfl (row8_at _ _ rfl (b4 a) 5 4 rfl (b4_bytes ha0 ha1') (by simp [b4])) 8 rfl _ rfl (by omega) (by simp; omega) ?_; intro a2 c2 W2 own2 hb; have hB := (hB.alloc z _).trans hb; obtain ⟨d0, d1, d2, d3, d4, z⟩ := box5 hB)
      | (at_builtin; refine wpList_app8 _ rfl (.tmp 15) (.tmp 20) 26 5 rfl (w.heap.size + 1) Try.underlying26 info5 _ 8 _ rfl (own2.alloc _) _ 4 4 (b4 (maskV l)) rfl (row8_at _ _ rfl (b4 (maskV l)) 5 4 rfl (b4_bytes HM.out.1 HM.out.2) (by simp [b4])) 12 rfl _ rfl (by omega) (by simp; omega) ?_; intro a3 c3 W3 own3 hb; have hB := (hB.alloc z _).trans hb; obtain ⟨d0, d1, d2, d3, d4, z⟩ := box5 hB)
      | (at_builtin; refine wpList_app8 _ rfl (.tmp 22) (.tmp 25) 26 5 rfl (w.heap.size + 1) Try.underlying26 info5 _ 12 _ rfl (own3.alloc _) _ 4 4 (b4 x) rfl (row8_at _ _ rfl (b4 x) 5 4 rfl (b4_bytes hx0 hx1) (by simp [b4])) 16 rfl _ rfl (by omega) (by simp; omega) ?_; intro a4 c4 W4 own4 hb; have hB := (hB.alloc z _).trans hb; obtain ⟨d0, d1, d2, d3, d4, z⟩ := box5 hB)
      | (at_builtin; refine wpList_app8 _ rfl (.tmp 27) (.tmp 31) 26 5 rfl (w.heap.size + 1) Try.underlying26 info5 _ 16 _ rfl (own4.alloc _) _ 4 4 (b4 m) rfl (row8_at _ _ rfl (b4 m) 5 4 rfl (b4_bytes (by omega) (by omega)) (by simp [b4])) 20 rfl _ rfl (by omega) (by simp; omega) ?_; intro a5 c5 W5 own5 hb; have hB := (hB.alloc z _).trans hb))
    go_ret
    exact ⟨_, _, rfl, own5.row HB.out (by omega), (below1 w _).trans (hB.mono (by omega))⟩
end Go.Proofs.Ytabpillcpnnidaa
