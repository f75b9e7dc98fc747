/- The contract of the program's encodeHead. -/
import Derived.Test.YtnlgdkbpolckcaaPrD
namespace Go.Proofs.Ytnlgdkbpolckcaa
open Go.RowKit

abbrev obj16 : Obj := .cells #[.int .u8 0, .int .u8 0, .int .u8 0, .int .u8 0, .int .u8 0, .int .u8 0, .int .u8 0, .int .u8 0, .int .u8 0, .int .u8 0, .int .u8 0, .int .u8 0, .int .u8 0, .int .u8 0, .int .u8 0, .int .u8 0] 5
theorem make16 (W : World) : Sem.run Try.prog (Instr.makeSlice 27 (.int .i64 16) (.int .i64 16)) W = .ok (.slice (some ⟨W.heap.size, 0, none⟩) 16 16) (W.alloc obj16) := by
  have h := run_make_row' 27 5 (.int .u8 0) 1 Try.underlying27 info5 rfl .i64 .i64 16 (by omega) (by omega) W
  rw [show madeCells #[Value.int .u8 0] 16 = #[.int .u8 0, .int .u8 0, .int .u8 0, .int .u8 0, .int .u8 0, .int .u8 0, .int .u8 0, .int .u8 0, .int .u8 0, .int .u8 0, .int .u8 0, .int .u8 0, .int .u8 0, .int .u8 0, .int .u8 0, .int .u8 0] from by kernel_rfl] at h
  exact h
def zs16 : List Int := [0, 0, 0, 0, 0, 0, 0, 0, 0, 0, 0, 0, 0, 0, 0, 0]
theorem own16 (w : World) : Own8 (w.alloc obj16) w.heap.size 5 (.slice (some ⟨w.heap.size, 0, none⟩) 16 16) 16 zs16 := own8_at w w.heap.size rfl w.heap.size 5 zs16 (Nat.le_refl _) (by decide)
set_option maxHeartbeats 2000000 in
theorem encodeHead_any (c : Int) (i : Bool) (s k : Int) (ad : Option Addr) (n cap : Nat) (es : List Ent) (w : World) (c0 : 0 ≤ c) (c1 : c ≤ 3) (s0 : 0 ≤ s) (s1 : s ≤ 4294967295) (k0 : 0 ≤ k) (k1 : k ≤ 4294967295) :
    Calls Try.prog 16 #[valP c i s k ad n cap] w fun e w' => ∃ a cp, e = .returned (.slice a 16 cp) ∧ Own8 w' w.heap.size 5 (.slice a 16 cp) 16 (headB ⟨c, i, s, k, es⟩ 0) ∧ Below w.heap.size w w' := by
  have hmk := make16 (w.alloc (objP c i s k ad n cap))
  have ec : IntKind.u8.wrap c = c := wrap8 c0 (by omega)
  cases i
  · go_enter Try.func16, Try.ntmps16
    go_wp2
    clear hmk
    obtain ⟨g, hg⟩ : ∃ g, g = w.heap.size + 1 := ⟨_, rfl⟩
    obtain ⟨W1, hW1⟩ : ∃ W1, W1 = (w.alloc (objP c false s k ad n cap)).alloc obj16 := ⟨_, rfl⟩
    rw [← hW1, ← hg]
    have F1 : Hid (P5 W1 w.heap.size c false s k ad n cap) := by unfold Hid; rw [hW1]; exact (P5.new w c false s k ad n cap).later (below1 _ _)
    have O1 : Hid (Own8 W1 g 5 (.slice (some ⟨g, 0, none⟩) 16 16) 16 zs16) := by
      unfold Hid; rw [hW1, hg]; have := own16 (w.alloc (objP c false s k ad n cap)); simp only [World.size_alloc] at this; exact this
    have B1 : Hid (Below w.heap.size w W1) := by unfold Hid; rw [hW1]; exact below2 _ _ _
    have hgn : w.heap.size ≠ g := by omega
    have hgl : w.heap.size < g := by omega
    clear hW1 hg
    have F1' := F1.out
    obtain ⟨f0, f1, f2, f3, f4, fz⟩ := F1'
    obtain ⟨-, gz, -, gc, gf⟩ := O1.out.cells (by decide)
    have q0 := gc 0 (by decide)
    have q1 := gc 1 (by decide)
    have q4 := gc 4 (by decide)
    rw [show zs16[0]?.getD 0 = 0 from rfl] at q0
    rw [show zs16[1]?.getD 0 = 0 from rfl] at q1
    rw [show zs16[4]?.getD 0 = 0 from rfl] at q4
    clear gc
    have kp : ∀ o x, (W1.setCell ⟨g, o, none⟩ x).cell? ⟨w.heap.size, 0, none⟩ = some (.int .i64 c) := fun o x => by rw [World.cell?_setCell_other _ _ _ _ (by simp <;> omega)]; exact f0
    have kp2 : ∀ o x o2 x2, ((W1.setCell ⟨g, o, none⟩ x).setCell ⟨g, o2, none⟩ x2).cell? ⟨w.heap.size, 0, none⟩ = some (.int .i64 c) := fun o x o2 x2 => by rw [World.cell?_setCell_other _ _ _ _ (by simp <;> omega)]; exact kp o x
    go_region_held3 (fun w' => w'.cell? ⟨w.heap.size, 0, none⟩ = some (.int .i64 c)) (first | exact f0 | exact kp _ _ | exact kp2 _ _ _ _) (fail)
    go_wp2
    obtain ⟨W2, hW2⟩ : ∃ W2, W2 = (((W1.setCell ⟨g, 0, none⟩ (.int .u8 2)).setCell ⟨g, 1, none⟩ (.int .u8 c))).drew := ⟨_, rfl⟩
    rw [← hW2]
    have O2 : Hid (Own8 W2 g 5 (.slice (some ⟨g, 0, none⟩) 16 16) 16 ((zs16.set 0 2).set 1 c)) := by unfold Hid; rw [hW2]; exact (O1.out.setAt (i := 0) (by decide) 2).setAt (i := 1) (by decide) c
    have G2 : Below g W1 W2 := by rw [hW2]; exact (((Below.refl _ _).setCell (p := ⟨g, 0, none⟩) (Nat.le_refl _) _).setCell (p := ⟨g, 1, none⟩) (Nat.le_refl _) _).drew
    have F2 : Hid (P5 W2 w.heap.size c false s k ad n cap) := F1.out.lift G2 hgl
    have B2 : Hid (Below w.heap.size w W2) := B1.out.trans (G2.mono (by omega))
    rename_i hHeld _ _
    clear hW2 hHeld G2 kp kp2 q0 q1 q4 f0 f1 f2 f3 f4 fz gz gf F1 O1 B1
    obtain ⟨-, -, f2, -, -, -⟩ := F2.out
    go_region_held3 (fun w' => w'.cell? ⟨w.heap.size, 2, none⟩ = some (.int .u32 s)) (first | exact f2 | exact e3 | exact e4)
      ((first
        | (go_at_call 29; refine (put32_b _ _ s0 s1).mono ?_; rintro e W3 ⟨rfl, r3, hb3⟩; have o3 := O2.out.later (drewB hb3); have F3 := F2.out.later (drewB hb3); have e3 := F3.2.2.1; have B3 := stp B2.out (drewB hb3); clear hb3)
        | (refine step_copy8 rfl (.tmp 17) (.tmp 20) rfl g g 16 16 ((zs16.set 0 2).set 1 c) o3 8 8 8 rfl _ 0 4 4 (b4 s) rfl r3 (by decide) (by decide) (by decide) ?_; intro W4 o4 hb4 sz4; have e4 := (F3.lift hb4 hgl).2.2.1; clear sz4)))
    have O4 : Hid (Own8 W4 g 5 (.slice (some ⟨g, 0, none⟩) 16 16) 16 (((zs16.set 0 2).set 1 c).take 8 ++ b4 s ++ ((zs16.set 0 2).set 1 c).drop (8 + 4))) := o4
    have F4 : Hid (P5 W4 w.heap.size c false s k ad n cap) := F3.lift hb4 hgl
    have B4 : Hid (Below w.heap.size w W4) := B3.trans (hb4.mono (by omega))
    clear o4 hb4 e3 e4 F3 B3 o3 r3 f2 F2 B2 O2
    go_wp2
    obtain ⟨-, -, -, f3, -, -⟩ := F4.out
    go_region_held3 (fun w' => w'.cell? ⟨w.heap.size, 3, none⟩ = some (.int .u32 k)) (first | exact f3 | exact e5 | exact e6)
      ((first
        | (go_at_call 29; refine (put32_b _ _ k0 k1).mono ?_; rintro e W5 ⟨rfl, r5, hb5⟩; have o5 := O4.out.later (drewB hb5); have F5 := F4.out.later (drewB hb5); have e5 := F5.2.2.2.1; have B5 := stp B4.out (drewB hb5); clear hb5)
        | (refine step_copy8 rfl (.tmp 23) (.tmp 26) rfl g g 16 16 _ o5 12 4 4 rfl _ 0 4 4 (b4 k) rfl r5 (by decide) (by decide) (by decide) ?_; intro W6 o6 hb6 sz6; have e6 := (F5.lift hb6 hgl).2.2.2.1; clear sz6)))
    go_wp2
    go_ret
    exact ⟨_, _, rfl, o6.base (by omega), B5.trans (hb6.mono (by omega))⟩
  · go_enter Try.func16, Try.ntmps16
    go_wp2
    clear hmk
    obtain ⟨g, hg⟩ : ∃ g, g = w.heap.size + 1 := ⟨_, rfl⟩
    obtain ⟨W1, hW1⟩ : ∃ W1, W1 = (w.alloc (objP c true s k ad n cap)).alloc obj16 := ⟨_, rfl⟩
    rw [← hW1, ← hg]
    have F1 : Hid (P5 W1 w.heap.size c true s k ad n cap) := by unfold Hid; rw [hW1]; exact (P5.new w c true s k ad n cap).later (below1 _ _)
    have O1 : Hid (Own8 W1 g 5 (.slice (some ⟨g, 0, none⟩) 16 16) 16 zs16) := by
      unfold Hid; rw [hW1, hg]; have := own16 (w.alloc (objP c true s k ad n cap)); simp only [World.size_alloc] at this; exact this
    have B1 : Hid (Below w.heap.size w W1) := by unfold Hid; rw [hW1]; exact below2 _ _ _
    have hgn : w.heap.size ≠ g := by omega
    have hgl : w.heap.size < g := by omega
    clear hW1 hg
    have F1' := F1.out
    obtain ⟨f0, f1, f2, f3, f4, fz⟩ := F1'
    obtain ⟨-, gz, -, gc, gf⟩ := O1.out.cells (by decide)
    have q0 := gc 0 (by decide)
    have q1 := gc 1 (by decide)
    have q4 := gc 4 (by decide)
    rw [show zs16[0]?.getD 0 = 0 from rfl] at q0
    rw [show zs16[1]?.getD 0 = 0 from rfl] at q1
    rw [show zs16[4]?.getD 0 = 0 from rfl] at q4
    clear gc
    have kp : ∀ o x, (W1.setCell ⟨g, o, none⟩ x).cell? ⟨w.heap.size, 0, none⟩ = some (.int .i64 c) := fun o x => by rw [World.cell?_setCell_other _ _ _ _ (by simp <;> omega)]; exact f0
    have kp2 : ∀ o x o2 x2, ((W1.setCell ⟨g, o, none⟩ x).setCell ⟨g, o2, none⟩ x2).cell? ⟨w.heap.size, 0, none⟩ = some (.int .i64 c) := fun o x o2 x2 => by rw [World.cell?_setCell_other _ _ _ _ (by simp <;> omega)]; exact kp o x
    go_region_held3 (fun w' => w'.cell? ⟨w.heap.size, 0, none⟩ = some (.int .i64 c)) (first | exact f0 | exact kp _ _ | exact kp2 _ _ _ _) (fail)
    go_wp2
    obtain ⟨W2, hW2⟩ : ∃ W2, W2 = (((W1.setCell ⟨g, 0, none⟩ (.int .u8 2)).setCell ⟨g, 1, none⟩ (.int .u8 c)).setCell ⟨g, 4, none⟩ (.int .u8 1)).drew := ⟨_, rfl⟩
    rw [← hW2]
    have O2 : Hid (Own8 W2 g 5 (.slice (some ⟨g, 0, none⟩) 16 16) 16 (((zs16.set 0 2).set 1 c).set 4 1)) := by unfold Hid; rw [hW2]; exact ((O1.out.setAt (i := 0) (by decide) 2).setAt (i := 1) (by decide) c).setAt (i := 4) (by decide) 1
    have G2 : Below g W1 W2 := by rw [hW2]; exact ((((Below.refl _ _).setCell (p := ⟨g, 0, none⟩) (Nat.le_refl _) _).setCell (p := ⟨g, 1, none⟩) (Nat.le_refl _) _).setCell (p := ⟨g, 4, none⟩) (Nat.le_refl _) _).drew
    have F2 : Hid (P5 W2 w.heap.size c true s k ad n cap) := F1.out.lift G2 hgl
    have B2 : Hid (Below w.heap.size w W2) := B1.out.trans (G2.mono (by omega))
    rename_i hHeld _ _
    clear hW2 hHeld G2 kp kp2 q0 q1 q4 f0 f1 f2 f3 f4 fz gz gf F1 O1 B1
    obtain ⟨-, -, f2, -, -, -⟩ := F2.out
    go_region_held3 (fun w' => w'.cell? ⟨w.heap.size, 2, none⟩ = some (.int .u32 s)) (first | exact f2 | exact e3 | exact e4)
      ((first
        | (go_at_call 29; refine (put32_b _ _ s0 s1).mono ?_; rintro e W3 ⟨rfl, r3, hb3⟩; have o3 := O2.out.later (drewB hb3); have F3 := F2.out.later (drewB hb3); have e3 := F3.2.2.1; have B3 := stp B2.out (drewB hb3); clear hb3)
        | (refine step_copy8 rfl (.tmp 17) (.tmp 20) rfl g g 16 16 (((zs16.set 0 2).set 1 c).set 4 1) o3 8 8 8 rfl _ 0 4 4 (b4 s) rfl r3 (by decide) (by decide) (by decide) ?_; intro W4 o4 hb4 sz4; have e4 := (F3.lift hb4 hgl).2.2.1; clear sz4)))
    have O4 : Hid (Own8 W4 g 5 (.slice (some ⟨g, 0, none⟩) 16 16) 16 ((((zs16.set 0 2).set 1 c).set 4 1).take 8 ++ b4 s ++ (((zs16.set 0 2).set 1 c).set 4 1).drop (8 + 4))) := o4
    have F4 : Hid (P5 W4 w.heap.size c true s k ad n cap) := F3.lift hb4 hgl
    have B4 : Hid (Below w.heap.size w W4) := B3.trans (hb4.mono (by omega))
    clear o4 hb4 e3 e4 F3 B3 o3 r3 f2 F2 B2 O2
    go_wp2
    obtain ⟨-, -, -, f3, -, -⟩ := F4.out
    go_region_held3 (fun w' => w'.cell? ⟨w.heap.size, 3, none⟩ = some (.int .u32 k)) (first | exact f3 | exact e5 | exact e6)
      ((first
        | (go_at_call 29; refine (put32_b _ _ k0 k1).mono ?_; rintro e W5 ⟨rfl, r5, hb5⟩; have o5 := O4.out.later (drewB hb5); have F5 := F4.out.later (drewB hb5); have e5 := F5.2.2.2.1; have B5 := stp B4.out (drewB hb5); clear hb5)
        | (refine step_copy8 rfl (.tmp 23) (.tmp 26) rfl g g 16 16 _ o5 12 4 4 rfl _ 0 4 4 (b4 k) rfl r5 (by decide) (by decide) (by decide) ?_; intro W6 o6 hb6 sz6; have e6 := (F5.lift hb6 hgl).2.2.2.1; clear sz6)))
    go_wp2
    go_ret
    exact ⟨_, _, rfl, o6.base (by omega), B5.trans (hb6.mono (by omega))⟩
end Go.Proofs.Ytnlgdkbpolckcaa
