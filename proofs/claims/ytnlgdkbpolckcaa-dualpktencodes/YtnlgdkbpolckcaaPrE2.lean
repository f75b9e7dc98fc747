/- The contract of the program's encodeEntry. -/
import Derived.Test.YtnlgdkbpolckcaaPrE1
namespace Go.Proofs.Ytnlgdkbpolckcaa
open Go.RowKit

abbrev obj20 : Obj := .cells #[.int .u8 0, .int .u8 0, .int .u8 0, .int .u8 0, .int .u8 0, .int .u8 0, .int .u8 0, .int .u8 0, .int .u8 0, .int .u8 0, .int .u8 0, .int .u8 0, .int .u8 0, .int .u8 0, .int .u8 0, .int .u8 0, .int .u8 0, .int .u8 0, .int .u8 0, .int .u8 0] 5
theorem make20 (W : World) : Sem.run Try.prog (Instr.makeSlice 27 (.int .i64 20) (.int .i64 20)) W = .ok (.slice (some ⟨W.heap.size, 0, none⟩) 20 20) (W.alloc obj20) := by
  have h := run_make_row' 27 5 (.int .u8 0) 1 Try.underlying27 info5 rfl .i64 .i64 20 (by omega) (by omega) W
  rw [show madeCells #[Value.int .u8 0] 20 = #[.int .u8 0, .int .u8 0, .int .u8 0, .int .u8 0, .int .u8 0, .int .u8 0, .int .u8 0, .int .u8 0, .int .u8 0, .int .u8 0, .int .u8 0, .int .u8 0, .int .u8 0, .int .u8 0, .int .u8 0, .int .u8 0, .int .u8 0, .int .u8 0, .int .u8 0, .int .u8 0] from by kernel_rfl] at h
  exact h
def zs20 : List Int := [0, 0, 0, 0, 0, 0, 0, 0, 0, 0, 0, 0, 0, 0, 0, 0, 0, 0, 0, 0]
theorem own20 (w : World) : Own8 (w.alloc obj20) w.heap.size 5 (.slice (some ⟨w.heap.size, 0, none⟩) 20 20) 20 zs20 := own8_at w w.heap.size rfl w.heap.size 5 zs20 (Nat.le_refl _) (by decide)
theorem E6.lift {W W' : World} {B N o : Nat} {p : Ent} (h : E6 W N o p) (hb : Below B W W') (hN : N < B) : E6 W' N o p := h.far fun o => hb.cell (p := ⟨N, o, none⟩) hN
set_option maxHeartbeats 2000000 in
theorem encodeEntry_any (a l b d h t : Int) (w : World) (a0 : 0 ≤ a) (a1 : a ≤ 4294967295) (t0 : 0 ≤ t) (t1 : t ≤ 65535) (hm : mayE ⟨a, l, b, d, h, t⟩ = true) :
    Calls Try.prog 17 #[valE a l b d h t] w fun e w' => ∃ ad cp, e = .returned (.slice ad 20 cp) ∧ Own8 w' w.heap.size 5 (.slice ad 20 cp) 20 (entB ⟨a, l, b, d, h, t⟩) ∧ Below w.heap.size w w' := by
  have hmk := make20 (w.alloc (objE a l b d h t))
  obtain ⟨-, l0, l1, h0, h1, b0, b1, d0, d1⟩ := mayE_all hm
  simp only at l0 l1 h0 h1 b0 b1 d0 d1
  have wl : IntKind.u8.wrap l = l := wrap8 l0 (by omega)
  have wh : IntKind.u8.wrap h = h := wrap8 h0 (by omega)
  have wb : IntKind.u32.wrap b = b := wrapU b0 (by omega)
  have wd : IntKind.u32.wrap d = d := wrapU d0 (by omega)
  have b2' : b ≤ 4294967295 := by omega
  have d2' : d ≤ 4294967295 := by omega
  clear hm
  go_enter Try.func17, Try.ntmps17
  go_wp2
  clear hmk
  obtain ⟨g, hg⟩ : ∃ g, g = w.heap.size + 1 := ⟨_, rfl⟩
  obtain ⟨W1, hW1⟩ : ∃ W1, W1 = (w.alloc (objE a l b d h t)).alloc obj20 := ⟨_, rfl⟩
  rw [← hW1, ← hg]
  have F1 : Hid (E6 W1 w.heap.size 0 ⟨a, l, b, d, h, t⟩) := by unfold Hid; rw [hW1]; exact (E6.new w a l b d h t).later (below1 _ _)
  have O1 : Hid (Own8 W1 g 5 (.slice (some ⟨g, 0, none⟩) 20 20) 20 zs20) := by
    unfold Hid; rw [hW1, hg]; have := own20 (w.alloc (objE a l b d h t)); simp only [World.size_alloc] at this; exact this
  have B1 : Hid (Below w.heap.size w W1) := by unfold Hid; rw [hW1]; exact below2 _ _ _
  have hgn : w.heap.size ≠ g := by omega
  have hgl : w.heap.size < g := by omega
  clear hW1 hg
  obtain ⟨f0, -, -, -, -, -⟩ := F1.out.z
  go_region_held3 (fun w' => w'.cell? ⟨w.heap.size, 0, none⟩ = some (.int .u32 a)) (first | exact f0 | exact e2 | exact e3)
    ((first
      | (go_at_call 29; refine (put32_b _ _ a0 a1).mono ?_; rintro e W2 ⟨rfl, r2, hb2⟩; have o2 := O1.out.later (drewB hb2); have F2 := F1.out.later (drewB hb2); obtain ⟨e2, -, -, -, -, -⟩ := F2.z; have B2 := stp B1.out (drewB hb2); clear hb2)
      | (refine step_copy8 rfl (.tmp 6) (.tmp 10) rfl g g 20 20 zs20 o2 0 20 20 rfl _ 0 4 4 (b4 a) rfl r2 (by decide) (by decide) (by decide) ?_; intro W3 o3 hb3 sz3; obtain ⟨e3, -, -, -, -, -⟩ := (F2.lift hb3 hgl).z; clear sz3)))
  have O3 : Hid (Own8 W3 g 5 (.slice (some ⟨g, 0, none⟩) 20 20) 20 (zs20.take 0 ++ b4 a ++ zs20.drop (0 + 4))) := o3
  have F3 : Hid (E6 W3 w.heap.size 0 ⟨a, l, b, d, h, t⟩) := F2.lift hb3 hgl
  have B3 : Hid (Below w.heap.size w W3) := B2.trans (hb3.mono (by omega))
  clear o3 hb3 e2 e3 F2 B2 o2 r2 f0 F1 B1 O1
  go_wp2
  obtain ⟨-, f1, -, -, f4, -⟩ := F3.out.z
  obtain ⟨-, gz, -, gc, gf⟩ := O3.out.cells (by decide)
  have q4 := gc 4 (by decide)
  have q5 := gc 5 (by decide)
  clear gc
  have kp : ∀ o x, (W3.setCell ⟨g, o, none⟩ x).cell? ⟨w.heap.size, 1, none⟩ = some (.int .i64 l) ∧ (W3.setCell ⟨g, o, none⟩ x).cell? ⟨w.heap.size, 4, none⟩ = some (.int .i64 h) := fun o x => by
    rw [World.cell?_setCell_other _ _ _ _ (by simp <;> omega), World.cell?_setCell_other _ _ _ _ (by simp <;> omega)]; exact ⟨f1, f4⟩
  have kp2 : ∀ o x o2 x2, ((W3.setCell ⟨g, o, none⟩ x).setCell ⟨g, o2, none⟩ x2).cell? ⟨w.heap.size, 1, none⟩ = some (.int .i64 l) ∧ ((W3.setCell ⟨g, o, none⟩ x).setCell ⟨g, o2, none⟩ x2).cell? ⟨w.heap.size, 4, none⟩ = some (.int .i64 h) := fun o x o2 x2 => ⟨(World.cell?_setCell_other _ _ _ _ (by simp <;> omega)).trans (kp o x).1, (World.cell?_setCell_other _ _ _ _ (by simp <;> omega)).trans (kp o x).2⟩
  go_region_held3 (fun w' => w'.cell? ⟨w.heap.size, 1, none⟩ = some (.int .i64 l) ∧ w'.cell? ⟨w.heap.size, 4, none⟩ = some (.int .i64 h)) (first | exact ⟨f1, f4⟩ | exact kp _ _ | exact kp2 _ _ _ _) (fail)
  go_wp2
  obtain ⟨W4, hW4⟩ : ∃ W4, W4 = ((W3.setCell ⟨g, 4, none⟩ (.int .u8 l)).setCell ⟨g, 5, none⟩ (.int .u8 h)).drew := ⟨_, rfl⟩
  rw [← hW4]
  have O4 : Hid (Own8 W4 g 5 (.slice (some ⟨g, 0, none⟩) 20 20) 20 (((zs20.take 0 ++ b4 a ++ zs20.drop (0 + 4)).set 4 l).set 5 h)) := by unfold Hid; rw [hW4]; exact (O3.out.setAt (i := 4) (by decide) l).setAt (i := 5) (by decide) h
  have G4 : Below g W3 W4 := by rw [hW4]; exact (((Below.refl _ _).setCell (p := ⟨g, 4, none⟩) (Nat.le_refl _) _).setCell (p := ⟨g, 5, none⟩) (Nat.le_refl _) _).drew
  have F4 : Hid (E6 W4 w.heap.size 0 ⟨a, l, b, d, h, t⟩) := F3.out.lift G4 hgl
  have B4 : Hid (Below w.heap.size w W4) := B3.out.trans (G4.mono (by omega))
  rename_i hHeld _ _
  clear hW4 hHeld G4 kp kp2 q4 q5 f1 f4 gz gf F3 O3 B3
  obtain ⟨-, -, -, -, -, f5⟩ := F4.out.z
  go_region_held3 (fun w' => w'.cell? ⟨w.heap.size, 5, none⟩ = some (.int .u16 t)) (first | exact f5 | exact e5 | exact e6)
    ((first
      | (go_at_call 30; refine (put16_b _ _ t0 t1).mono ?_; rintro e W5 ⟨rfl, r5, hb5⟩; have o5 := O4.out.later (drewB hb5); have F5 := F4.out.later (drewB hb5); obtain ⟨-, -, -, -, -, e5⟩ := F5.z; have B5 := stp B4.out (drewB hb5); clear hb5)
      | (refine step_copy8 rfl (.tmp 25) (.tmp 28) rfl g g 20 20 (((zs20.take 0 ++ b4 a ++ zs20.drop (0 + 4)).set 4 l).set 5 h) o5 6 14 14 rfl _ 0 2 2 (b2 t) rfl r5 (by decide) (by decide) (by decide) ?_; intro W6 o6 hb6 sz6; obtain ⟨-, -, -, -, -, e6⟩ := (F5.lift hb6 hgl).z; clear sz6)))
  have O6 : Hid (Own8 W6 g 5 (.slice (some ⟨g, 0, none⟩) 20 20) 20 ((((zs20.take 0 ++ b4 a ++ zs20.drop (0 + 4)).set 4 l).set 5 h).take 6 ++ b2 t ++ (((zs20.take 0 ++ b4 a ++ zs20.drop (0 + 4)).set 4 l).set 5 h).drop (6 + 2))) := o6
  have F6 : Hid (E6 W6 w.heap.size 0 ⟨a, l, b, d, h, t⟩) := F5.lift hb6 hgl
  have B6 : Hid (Below w.heap.size w W6) := B5.trans (hb6.mono (by omega))
  clear o6 hb6 e5 e6 F5 B5 o5 r5 f5 F4 B4 O4
  go_wp2
  obtain ⟨-, -, f2, -, -, -⟩ := F6.out.z
  go_region_held3 (fun w' => w'.cell? ⟨w.heap.size, 2, none⟩ = some (.int .i64 b)) (first | exact f2 | exact e7 | exact e8)
    ((first
      | (go_at_call 29; refine (put32_b _ _ b0 b2').mono ?_; rintro e W7 ⟨rfl, r7, hb7⟩; have o7 := O6.out.later (drewB hb7); have F7 := F6.out.later (drewB hb7); obtain ⟨-, -, e7, -, -, -⟩ := F7.z; have B7 := stp B6.out (drewB hb7); clear hb7)
      | (refine step_copy8 rfl (.tmp 31) (.tmp 36) rfl g g 20 20 ((((zs20.take 0 ++ b4 a ++ zs20.drop (0 + 4)).set 4 l).set 5 h).take 6 ++ b2 t ++ (((zs20.take 0 ++ b4 a ++ zs20.drop (0 + 4)).set 4 l).set 5 h).drop (6 + 2)) o7 8 12 12 rfl _ 0 4 4 (b4 b) rfl r7 (by decide) (by decide) (by decide) ?_; intro W8 o8 hb8 sz8; obtain ⟨-, -, e8, -, -, -⟩ := (F7.lift hb8 hgl).z; clear sz8)))
  have O8 : Hid (Own8 W8 g 5 (.slice (some ⟨g, 0, none⟩) 20 20) 20 (((((zs20.take 0 ++ b4 a ++ zs20.drop (0 + 4)).set 4 l).set 5 h).take 6 ++ b2 t ++ (((zs20.take 0 ++ b4 a ++ zs20.drop (0 + 4)).set 4 l).set 5 h).drop (6 + 2)).take 8 ++ b4 b ++ ((((zs20.take 0 ++ b4 a ++ zs20.drop (0 + 4)).set 4 l).set 5 h).take 6 ++ b2 t ++ (((zs20.take 0 ++ b4 a ++ zs20.drop (0 + 4)).set 4 l).set 5 h).drop (6 + 2)).drop (8 + 4))) := o8
  have F8 : Hid (E6 W8 w.heap.size 0 ⟨a, l, b, d, h, t⟩) := F7.lift hb8 hgl
  have B8 : Hid (Below w.heap.size w W8) := B7.trans (hb8.mono (by omega))
  clear o8 hb8 e7 e8 F7 B7 o7 r7 f2 F6 B6 O6
  go_wp2
  obtain ⟨-, -, -, f3, -, -⟩ := F8.out.z
  go_region_held3 (fun w' => w'.cell? ⟨w.heap.size, 3, none⟩ = some (.int .i64 d)) (first | exact f3 | exact e9 | exact e10)
    ((first
      | (go_at_call 29; refine (put32_b _ _ d0 d2').mono ?_; rintro e W9 ⟨rfl, r9, hb9⟩; have o9 := O8.out.later (drewB hb9); have F9 := F8.out.later (drewB hb9); obtain ⟨-, -, -, e9, -, -⟩ := F9.z; have B9 := stp B8.out (drewB hb9); clear hb9)
      | (refine step_copy8 rfl (.tmp 39) (.tmp 44) rfl g g 20 20 (((((zs20.take 0 ++ b4 a ++ zs20.drop (0 + 4)).set 4 l).set 5 h).take 6 ++ b2 t ++ (((zs20.take 0 ++ b4 a ++ zs20.drop (0 + 4)).set 4 l).set 5 h).drop (6 + 2)).take 8 ++ b4 b ++ ((((zs20.take 0 ++ b4 a ++ zs20.drop (0 + 4)).set 4 l).set 5 h).take 6 ++ b2 t ++ (((zs20.take 0 ++ b4 a ++ zs20.drop (0 + 4)).set 4 l).set 5 h).drop (6 + 2)).drop (8 + 4)) o9 12 8 8 rfl _ 0 4 4 (b4 d) rfl r9 (by decide) (by decide) (by decide) ?_; intro W10 o10 hb10 sz10; obtain ⟨-, -, -, e10, -, -⟩ := (F9.lift hb10 hgl).z; clear sz10)))
  have O10 : Hid (Own8 W10 g 5 (.slice (some ⟨g, 0, none⟩) 20 20) 20 ((((((zs20.take 0 ++ b4 a ++ zs20.drop (0 + 4)).set 4 l).set 5 h).take 6 ++ b2 t ++ (((zs20.take 0 ++ b4 a ++ zs20.drop (0 + 4)).set 4 l).set 5 h).drop (6 + 2)).take 8 ++ b4 b ++ ((((zs20.take 0 ++ b4 a ++ zs20.drop (0 + 4)).set 4 l).set 5 h).take 6 ++ b2 t ++ (((zs20.take 0 ++ b4 a ++ zs20.drop (0 + 4)).set 4 l).set 5 h).drop (6 + 2)).drop (8 + 4)).take 12 ++ b4 d ++ (((((zs20.take 0 ++ b4 a ++ zs20.drop (0 + 4)).set 4 l).set 5 h).take 6 ++ b2 t ++ (((zs20.take 0 ++ b4 a ++ zs20.drop (0 + 4)).set 4 l).set 5 h).drop (6 + 2)).take 8 ++ b4 b ++ ((((zs20.take 0 ++ b4 a ++ zs20.drop (0 + 4)).set 4 l).set 5 h).take 6 ++ b2 t ++ (((zs20.take 0 ++ b4 a ++ zs20.drop (0 + 4)).set 4 l).set 5 h).drop (6 + 2)).drop (8 + 4)).drop (12 + 4))) := o10
  have F10 : Hid (E6 W10 w.heap.size 0 ⟨a, l, b, d, h, t⟩) := F9.lift hb10 hgl
  have B10 : Hid (Below w.heap.size w W10) := B9.trans (hb10.mono (by omega))
  clear o10 hb10 e9 e10 F9 B9 o9 r9 f3 F8 B8 O8
  go_wp2
  go_ret
  exact ⟨_, _, rfl, O10.out.base (by omega), B10.out⟩
end Go.Proofs.Ytnlgdkbpolckcaa
