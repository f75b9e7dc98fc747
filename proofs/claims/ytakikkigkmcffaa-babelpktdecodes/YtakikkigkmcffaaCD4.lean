/- The contract of readPrefix. -/
import Derived.Test.YtakikkigkmcffaaCD3
namespace Go.Proofs.Ytakikkigkmcffaa
open Go.RowKit

theorem act58 {A : Act} (h : A.tmps.size = 58) (hd : A.defers = []) : ∃ u0 u1 u2 u3 u4 u5 u6 u7 u8 u9 u10 u11 u12 u13 u14 u15 u16 u17 u18 u19 u20 u21 u22 u23 u24 u25 u26 u27 u28 u29 u30 u31 u32 u33 u34 u35 u36 u37 u38 u39 u40 u41 u42 u43 u44 u45 u46 u47 u48 u49 u50 u51 u52 u53 u54 u55 u56 u57 : Value, A = ⟨#[u0, u1, u2, u3, u4, u5, u6, u7, u8, u9, u10, u11, u12, u13, u14, u15, u16, u17, u18, u19, u20, u21, u22, u23, u24, u25, u26, u27, u28, u29, u30, u31, u32, u33, u34, u35, u36, u37, u38, u39, u40, u41, u42, u43, u44, u45, u46, u47, u48, u49, u50, u51, u52, u53, u54, u55, u56, u57], []⟩ := by
  obtain ⟨⟨l⟩, d⟩ := A
  simp only at hd
  subst hd
  have h : l.length = 58 := h
  obtain ⟨u0, l0, rfl, h0⟩ := cons_of h
  obtain ⟨u1, l1, rfl, h1⟩ := cons_of h0
  obtain ⟨u2, l2, rfl, h2⟩ := cons_of h1
  obtain ⟨u3, l3, rfl, h3⟩ := cons_of h2
  obtain ⟨u4, l4, rfl, h4⟩ := cons_of h3
  obtain ⟨u5, l5, rfl, h5⟩ := cons_of h4
  obtain ⟨u6, l6, rfl, h6⟩ := cons_of h5
  obtain ⟨u7, l7, rfl, h7⟩ := cons_of h6
  obtain ⟨u8, l8, rfl, h8⟩ := cons_of h7
  obtain ⟨u9, l9, rfl, h9⟩ := cons_of h8
  obtain ⟨u10, l10, rfl, h10⟩ := cons_of h9
  obtain ⟨u11, l11, rfl, h11⟩ := cons_of h10
  obtain ⟨u12, l12, rfl, h12⟩ := cons_of h11
  obtain ⟨u13, l13, rfl, h13⟩ := cons_of h12
  obtain ⟨u14, l14, rfl, h14⟩ := cons_of h13
  obtain ⟨u15, l15, rfl, h15⟩ := cons_of h14
  obtain ⟨u16, l16, rfl, h16⟩ := cons_of h15
  obtain ⟨u17, l17, rfl, h17⟩ := cons_of h16
  obtain ⟨u18, l18, rfl, h18⟩ := cons_of h17
  obtain ⟨u19, l19, rfl, h19⟩ := cons_of h18
  obtain ⟨u20, l20, rfl, h20⟩ := cons_of h19
  obtain ⟨u21, l21, rfl, h21⟩ := cons_of h20
  obtain ⟨u22, l22, rfl, h22⟩ := cons_of h21
  obtain ⟨u23, l23, rfl, h23⟩ := cons_of h22
  obtain ⟨u24, l24, rfl, h24⟩ := cons_of h23
  obtain ⟨u25, l25, rfl, h25⟩ := cons_of h24
  obtain ⟨u26, l26, rfl, h26⟩ := cons_of h25
  obtain ⟨u27, l27, rfl, h27⟩ := cons_of h26
  obtain ⟨u28, l28, rfl, h28⟩ := cons_of h27
  obtain ⟨u29, l29, rfl, h29⟩ := cons_of h28
  obtain ⟨u30, l30, rfl, h30⟩ := cons_of h29
  obtain ⟨u31, l31, rfl, h31⟩ := cons_of h30
  obtain ⟨u32, l32, rfl, h32⟩ := cons_of h31
  obtain ⟨u33, l33, rfl, h33⟩ := cons_of h32
  obtain ⟨u34, l34, rfl, h34⟩ := cons_of h33
  obtain ⟨u35, l35, rfl, h35⟩ := cons_of h34
  obtain ⟨u36, l36, rfl, h36⟩ := cons_of h35
  obtain ⟨u37, l37, rfl, h37⟩ := cons_of h36
  obtain ⟨u38, l38, rfl, h38⟩ := cons_of h37
  obtain ⟨u39, l39, rfl, h39⟩ := cons_of h38
  obtain ⟨u40, l40, rfl, h40⟩ := cons_of h39
  obtain ⟨u41, l41, rfl, h41⟩ := cons_of h40
  obtain ⟨u42, l42, rfl, h42⟩ := cons_of h41
  obtain ⟨u43, l43, rfl, h43⟩ := cons_of h42
  obtain ⟨u44, l44, rfl, h44⟩ := cons_of h43
  obtain ⟨u45, l45, rfl, h45⟩ := cons_of h44
  obtain ⟨u46, l46, rfl, h46⟩ := cons_of h45
  obtain ⟨u47, l47, rfl, h47⟩ := cons_of h46
  obtain ⟨u48, l48, rfl, h48⟩ := cons_of h47
  obtain ⟨u49, l49, rfl, h49⟩ := cons_of h48
  obtain ⟨u50, l50, rfl, h50⟩ := cons_of h49
  obtain ⟨u51, l51, rfl, h51⟩ := cons_of h50
  obtain ⟨u52, l52, rfl, h52⟩ := cons_of h51
  obtain ⟨u53, l53, rfl, h53⟩ := cons_of h52
  obtain ⟨u54, l54, rfl, h54⟩ := cons_of h53
  obtain ⟨u55, l55, rfl, h55⟩ := cons_of h54
  obtain ⟨u56, l56, rfl, h56⟩ := cons_of h55
  obtain ⟨u57, l57, rfl, h57⟩ := cons_of h56
  obtain rfl := List.eq_nil_of_length_eq_zero h57
  exact ⟨u0, u1, u2, u3, u4, u5, u6, u7, u8, u9, u10, u11, u12, u13, u14, u15, u16, u17, u18, u19, u20, u21, u22, u23, u24, u25, u26, u27, u28, u29, u30, u31, u32, u33, u34, u35, u36, u37, u38, u39, u40, u41, u42, u43, u44, u45, u46, u47, u48, u49, u50, u51, u52, u53, u54, u55, u56, u57, rfl⟩
theorem slice_take (b off n cap q : Nat) (W : World) (h1 : q ≤ n) (h2 : n ≤ cap) : Sem.run Try.prog (Instr.sliceAt 25 (.slice (some ⟨b, off, none⟩) n cap) none (some (.int .i64 (q : Int))) none) W = .ok (.slice (some ⟨b, off, none⟩) q cap) W := by
  have g1 : (q : Int) ≤ (n : Int) := by omega
  have g2 : (n : Int) ≤ (cap : Int) := by omega
  have g3 : (q : Int) ≤ (cap : Int) := by omega
  go_simp
section
variable {P : Program} {o : Oper} {a : Act} {W : World} {K : Act → World → Prop} {Q : Exit → Act → World → Prop} {R : Nat → Value → World → Prop} {i : Nat}
theorem st_slice2 (t : TypeId) (x hi : Operand) (y z v : Value) (ho : o.op = .slice t x none (some hi) none) (hv : a.eval x = y) (hl : a.eval hi = z) (hr : Sem.run P (Instr.sliceAt t y none (some z) none) W = .ok v W) (hR : R i v W) : o.wp P a W (Nxt R i o a W) Q := by
  refine op_of _ W (Instr.sliceAt t y none (some z) none) ?_ hr ⟨_, rfl, hR, Below.refl _ _⟩
  unfold execOp; simp [ho, hv, hl]
theorem wp_copy (d s : Operand) (T : TypeId) (ho : o.op = .call { callee := .builtin .copy, args := #[d, s], argTypes := #[T, T] }) (dv sv v : Value) (W' : World) (hd : a.eval d = dv) (hs : a.eval s = sv) (hrun : (Builtin.copy_ #[T, T] o.type #[dv, sv]).run P W = .ok v W') (hk : K (a.put o.dst v) W') : o.wp P a W K Q := by
  unfold Oper.wp
  simp [execOp, ho, resolve, invoke, builtin, hd, hs, hrun, Result.andThen]
  exact hk
end
theorem kept8 {V W3 : World} {N : Nat} {o : Obj} {x y : Value} (hb : Below (V.alloc o).drew.heap.size (V.alloc o).drew W3) (n0 : V.cell? ⟨N, 0, none⟩ = some x) (n1 : V.cell? ⟨N, 1, none⟩ = some y) (nf : ∀ o, V.frozen? ⟨N, o, none⟩ = false) (hN : N < V.heap.size) :
    W3.cell? ⟨N, 0, none⟩ = some x ∧ W3.cell? ⟨N, 1, none⟩ = some y ∧ (∀ o, W3.frozen? ⟨N, o, none⟩ = false) ∧ N < W3.heap.size ∧ Below V.heap.size V W3 := by
  have hb' : Below V.heap.size V W3 := ((below1 V o).drew).trans (hb.mono (by simp [World.drew]))
  exact ⟨(hb'.cell (p := ⟨N, 0, none⟩) hN).trans n0, (hb'.cell (p := ⟨N, 1, none⟩) hN).trans n1, fun o => (hb'.frozen (p := ⟨N, o, none⟩) hN).trans (nf o), Nat.lt_of_lt_of_le hN hb'.size, hb'⟩
theorem size5 : (Try.prog.info? 5).map (·.size) = some 1 := by kernel_rfl
theorem b4_mask {x : Int} {om : Nat} (h0 : 0 ≤ x) (h1 : x < 4294967296) (ho : om ≤ 4) : b4 (andM x (8 * om)) = (b4 x).take om ++ List.replicate (4 - om) 0 := by
  unfold andM b4
  match om, ho with
  | 0, _ => simp [List.replicate]; omega
  | 1, _ => simp [List.replicate]; omega
  | 2, _ => simp [List.replicate]; omega
  | 3, _ => simp; omega
  | 4, _ => simp
/-- What copy leaves of the four bytes. -/
theorem mix_laid {x : Int} {om t : Nat} {L : List Int} (h0 : 0 ≤ x) (h1 : x < 4294967296) (ho : om + t ≤ 4) (ht : L.length = t) : (b4 (andM x (8 * om))).take om ++ L ++ (b4 (andM x (8 * om))).drop (om + t) = mixL x om L := by
  rw [b4_mask h0 h1 (by omega)]
  have hl : ((b4 x).take om).length = om := by simp [b4]; omega
  unfold mixL
  rw [List.take_left' hl, List.drop_append, hl, List.drop_of_length_le (by rw [hl]; omega), List.nil_append, List.drop_replicate, ht]
  congr 2
  omega
theorem own_row4 {W : World} {g base : Nat} {L : List Int} (hl : L.length = 4) (hg : W.heap[g]? = some (.cells (L.map (Value.int .u8)).toArray 5 (0, 0))) (hb : base ≤ g) : Own8 W base 5 (.slice (some ⟨g, 0, none⟩) 4 4) 4 L :=
  ⟨by simp [hl], .inr ⟨g, 4, _, rfl, hb, hg, Nat.le_refl _, by unfold maxLen; omega, by simp [hl], by rw [List.take_of_length_le (by simp [hl])]⟩⟩
theorem copied {W : World} {g b off n cap om t T : Nat} {z : Int} {L : List Int} (hg : W.heap[g]? = some (.cells ((b4 z).map (Value.int .u8)).toArray 5 (0, 0))) (hr : Row8 W (some ⟨b, off, none⟩) n L) (ho : om + t ≤ 4) (ht : t ≤ n) :
    ∃ v W', (Builtin.copy_ #[25, 25] T #[.slice (if 4 = om then some ⟨g, 0, none⟩ else some ⟨g, 0 + om, none⟩) (4 - om) (4 - om), .slice (some ⟨b, off, none⟩) t cap]).run Try.prog W = .ok v W' ∧ W'.heap[g]? = some (.cells (((b4 z).take om ++ L.take t ++ (b4 z).drop (om + t)).map (Value.int .u8)).toArray 5 (0, 0)) ∧ Below g W W' := by
  by_cases h0 : t = 0
  · subst h0
    refine ⟨_, W, run_copy_none W 25 25 T 5 _ _ _ _ _ _ Try.underlying25 size5 (by simp), ?_, Below.refl _ _⟩
    rw [hg]; simp
  · rw [if_neg (by omega), Nat.zero_add]
    have hl : (L.take t).length = t := by rw [List.length_take, hr.1]; omega
    have hsrc : ∀ j v, ((L.take t).map (Value.int .u8))[j]? = some v → W.cell? (Addr.add ⟨b, off, none⟩ j) = some v := by
      intro j v hj
      have hjl : j < t := by
        rcases Nat.lt_or_ge j t with h | h
        · exact h
        · rw [List.getElem?_eq_none (by simp; omega)] at hj; cases hj
      obtain ⟨b', off', e, hc⟩ := hr.2.2.2 j (by omega)
      simp only [Option.some.injEq, Addr.mk.injEq, and_true] at e
      obtain ⟨rfl, rfl⟩ := e
      rw [Go.WideShapes.add_plain, hc, ← hj]
      have hjL : j < L.length := by rw [hr.1]; omega
      simp [hjl, hjL]
    refine ⟨_, _, run_copy_row (P := Try.prog) W 25 25 T 5 g om _ _ ⟨b, off, none⟩ _ _ _ 5 ((L.take t).map (Value.int .u8)) Try.underlying25 size5 hg (by rw [List.length_map, hl]; show t = min t (4 - om); omega) hsrc (by rw [List.length_map, hl]; simp [b4]; omega) (by intro v hv; obtain ⟨_, _, rfl⟩ := List.mem_map.1 hv; rfl), ?_, ?_⟩
    · rw [setRow_heap W g _ _ 5 (0, 0) hg]
      rw [show ((L.take t).map (Value.int .u8)).length = t from by rw [List.length_map, hl]]
      simp only [List.map_append, List.map_take, List.map_drop]
    · exact below_setRow (Below.refl _ _) (Nat.le_refl _) _
set_option maxRecDepth 100000 in
set_option maxHeartbeats 2000000 in
theorem readPrefix_yes (x l : Int) (om t b off n cap : Nat) (L : List Int) (w : World) (hr : Row8 w (some ⟨b, off, none⟩) n L) (hn : n ≤ 3000) (hc : n ≤ cap) (x0 : 0 ≤ x) (x1 : x < 4294967296) (l0 : 0 ≤ l) (l1 : l ≤ 32) (hd : nd l = om + t) (ht : t ≤ n) {z : Int} (hz : mix x om (L.take t) = z) {v : Bool} (hv : mayB z l = v) :
    Calls Try.prog 70 #[.int .u32 x, .int .i64 l, .int .i64 (om : Int), .slice (some ⟨b, off, none⟩) n cap] w fun e w' => e = .returned (.tuple #[.agg #[.int .u32 z, .int .i64 l], .slice (if cap = t then some ⟨b, off, none⟩ else some ⟨b, off + t, none⟩) (n - t) (cap - t), .bool v]) ∧ Below w.heap.size w w' := by
  have h4 : om + t ≤ 4 := by rw [← hd]; exact nd_le l1
  have HR : Hid (Row8 w (some ⟨b, off, none⟩) n L) := hr
  obtain ⟨d, hdd⟩ : ∃ d, d = om + t := ⟨_, rfl⟩
  have HD : Hid (nd l = d) := by unfold Hid; rw [hd, hdd]
  have hb := hr.2.2.1
  have HZ : Hid (mix x om (L.take t) = z) := hz
  have zb := mix_u (om := om) x0 x1 (take_bytes hb t)
  rw [hz] at zb
  obtain ⟨z0, z1⟩ := zb
  have z2 : z < 4294967296 := by omega
  have HLT : Hid ((L.take t).length = t) := by unfold Hid; rw [List.length_take, hr.1]; omega
  have HML : Hid ((mixL x om (L.take t)).length = 4) := by unfold Hid mixL; simp [HLT.out, b4]; omega
  have HMB : Hid (Bytes (mixL x om (L.take t))) := mixL_bytes x0 x1 (take_bytes hb t)
  have HG : Hid (g32 (mixL x om (L.take t)) 0 = z) := by unfold Hid g32; rw [if_pos (by rw [HML.out]; omega)]; exact HZ.out
  obtain ⟨y, hy⟩ : ∃ y, andM x (8 * om) = y := ⟨_, rfl⟩
  have ea : bits .and .u32 x (maskV (8 * (om : Int))) = y := by
    unfold maskV
    rw [cl_of (by omega) (by omega), show (8 * (om : Int)).toNat = 8 * om from by omega, u32_andM x (8 * om) x0 x1 (by omega), hy]
  have yb := andM_bd x (8 * om) x0
  rw [hy] at yb
  have HY : Hid (andM x (8 * om) = y) := hy
  have y0 : 0 ≤ y := yb.1
  have y1 : y ≤ 4294967295 := by omega
  have i1 : (d : Int) - (om : Int) = (t : Int) := by omega
  have hd40 : d ≤ 4 := by omega
  clear hr hd hb hz hy yb hdd
  go_enter Try.func70, Try.ntmps70
  go_wp2_with (first
    | (go_at_call 38; refine (needs_any _ _ l0 (by omega) HD.out).mono ?_; rintro e w' ⟨rfl, rfl⟩)
    | (go_at_call 56; refine (mask_any _ _).mono ?_; rintro e w' ⟨rfl, rfl⟩)
    | (go_at_call 37; refine (put32_any _ _ y0 y1).mono ?_; rintro e w' ⟨rfl, rfl⟩))
  obtain ⟨W1, hW1⟩ : ∃ W1, W1 = (w.alloc (.cells #[.int .u32 0, .int .i64 0] 41)).alloc (ob4 y) := ⟨_, rfl⟩
  rw [← hW1]
  have hB1 : Below w.heap.size w W1 := by rw [hW1]; exact below2 _ _ _
  have HG1 : Hid (W1.heap[w.heap.size + 1]? = some (.cells ((b4 y).map (Value.int .u8)).toArray 5 (0, 0))) := by
    unfold Hid; rw [hW1]
    have := heap_alloc_new (w.alloc (.cells #[.int .u32 0, .int .i64 0] 41)) (ob4 y)
    simp only [World.size_alloc] at this
    exact this
  have N1 : W1.cell? ⟨w.heap.size, 0, none⟩ = some (.int .u32 0) ∧ W1.cell? ⟨w.heap.size, 1, none⟩ = some (.int .i64 0) ∧ (∀ o, W1.frozen? ⟨w.heap.size, o, none⟩ = false) := by rw [hW1]; exact ⟨by simp [go_sem], by simp [go_sem], fun o => by simp [go_sem]⟩
  have sz1 : W1.heap.size = w.heap.size + 1 + 1 := by rw [hW1]; simp
  clear hW1
  refine wp_region_obl (relOf [fun v _ => v = .slice (some ⟨w.heap.size + 1, 0, none⟩) 4 4, fun v _ => v = .int .i64 (om : Int), fun v _ => v = .slice (if 4 = om then some ⟨w.heap.size + 1, 0, none⟩ else some ⟨w.heap.size + 1, 0 + om, none⟩) (4 - om) (4 - om), fun v _ => v = .slice (some ⟨b, off, none⟩) n cap, fun v _ => v = .int .i64 (t : Int), fun v _ => v = .slice (some ⟨b, off, none⟩) t cap]) 6 (by kernel_rfl) (by kernel_rfl) (by kernel_rfl) (relOf_mono ⟨stays_eq _, stays_eq _, stays_eq _, stays_eq _, stays_eq _, stays_eq _, trivial⟩) ?_
  refine ⟨?_, ?_, ?_, ?_, ?_, ?_, ?_, trivial⟩
  · refine obl_step rfl fun A W hf hd hb => st_move (.tmp 12) _ rfl (ev_tmp ((hf.2.2 12 (by kernel_rfl)).trans rfl)) rfl
  · refine obl_step rfl fun A W hf hd hb => st_move (.tmp 2) _ rfl (ev_tmp ((hf.2.2 2 (by kernel_rfl)).trans rfl)) rfl
  · refine obl_step rfl fun A W hf hd hb => st_slice 25 (.tmp 37) (.tmp 38) _ _ _ rfl (ev_tmp (dep hd 0 37 rfl rfl)) (ev_tmp (dep hd 1 38 rfl rfl)) (slice_rest (w.heap.size + 1) 0 4 4 om W (by omega) (Nat.le_refl _)) rfl
  · refine obl_step rfl fun A W hf hd hb => st_move (.tmp 3) _ rfl (ev_tmp ((hf.2.2 3 (by kernel_rfl)).trans rfl)) rfl
  · refine obl_step rfl fun A W hf hd hb => st_move (.tmp 11) _ rfl (ev_tmp ((hf.2.2 11 (by kernel_rfl)).trans rfl)) rfl
  · refine obl_step rfl fun A W hf hd hb => st_slice2 25 (.tmp 40) (.tmp 41) _ _ _ rfl (ev_tmp (dep hd 3 40 rfl rfl)) (ev_tmp (dep hd 4 41 rfl rfl)) (slice_take b off n cap t W ht hc) rfl
  · refine obl_last fun A W hf hd hb => ?_
    have e1 : _ = _ := dep2 hd 2 39 (by decide) rfl
    have e2 : _ = _ := dep2 hd 5 42 (by decide) rfl
    have hg : W.heap[w.heap.size + 1]? = _ := (hb.block _ (by rw [sz1]; omega)).trans HG1.out
    obtain ⟨vv, W2, hrun, hg2, hb2⟩ := copied (T := 3) (cap := cap) (om := om) (t := t) hg ((HR.out.later hB1).later hb) h4 ht
    refine wp_copy (.tmp 39) (.tmp 42) 25 rfl _ _ vv W2 (ev_tmp e1) (ev_tmp e2) hrun ?_
    rw [← HY.out, mix_laid x0 x1 h4 HLT.out] at hg2
    have own2 := own_row4 (base := w.heap.size + 1) HML.out hg2 (Nat.le_refl _)
    have RW : Hid (Row8 W2 (some ⟨w.heap.size + 1, 0, none⟩) 4 (mixL x om (L.take t))) := own2.row HMB.out (by omega)
    have hB2 : Below (w.heap.size + 1) W1 W2 := (hb.mono (by rw [sz1]; omega)).trans hb2
    have N2 : W2.cell? ⟨w.heap.size, 0, none⟩ = some (.int .u32 0) ∧ W2.cell? ⟨w.heap.size, 1, none⟩ = some (.int .i64 0) ∧ (∀ o, W2.frozen? ⟨w.heap.size, o, none⟩ = false) := ⟨(hB2.cell (p := ⟨w.heap.size, 0, none⟩) (by exact Nat.lt_succ_self _)).trans N1.1, (hB2.cell (p := ⟨w.heap.size, 1, none⟩) (by exact Nat.lt_succ_self _)).trans N1.2.1, fun o => (hB2.frozen (p := ⟨w.heap.size, o, none⟩) (by exact Nat.lt_succ_self _)).trans (N1.2.2 o)⟩
    have hBw : Below w.heap.size w W2 := hB1.trans (hB2.mono (by omega))
    have sz2 : w.heap.size + 1 < W2.heap.size := by have h1 := hB2.size; have h2 := hb2.size; have h3 := hb.size; omega
    obtain ⟨u0, u1, u2, u3, u4, u5, u6, u7, u8, u9, u10, u11, u12, u13, u14, u15, u16, u17, u18, u19, u20, u21, u22, u23, u24, u25, u26, u27, u28, u29, u30, u31, u32, u33, u34, u35, u36, u37, u38, u39, u40, u41, u42, u43, u44, u45, u46, u47, u48, u49, u50, u51, u52, u53, u54, u55, u56, u57, rfl⟩ := act58 (hf.2.1.trans rfl) (hf.1.trans rfl)
    have k1 : u1 = _ := hf.2.2 1 (by kernel_rfl)
    have k3 : u3 = _ := hf.2.2 3 (by kernel_rfl)
    have k8 : u8 = _ := hf.2.2 8 (by kernel_rfl)
    have k11 : u11 = _ := hf.2.2 11 (by kernel_rfl)
    have k12 : u12 = _ := hf.2.2 12 (by kernel_rfl)
    dsimp only [Act.put] at *
    simp only [List.getElem?_toArray, List.getElem?_cons_zero, List.getElem?_cons_succ, Option.getD_some] at k1 k3 k8 k11 k12
    subst k1 k3 k8 k11 k12
    obtain ⟨n0, n1, nf⟩ := N2
    clear hf hd e1 e2 hg hg2 hrun own2 hb2 hb hB2 N1 HG1 sz1
    simp only [List.setIfInBounds_toArray, List.set_cons_zero, List.set_cons_succ]
    go_wp2_with (go_at_call 72; refine (get32_any _ 4 _ (mixL x om (L.take t)) _ RW.out (by omega) 0 HG.out).mono ?_; rintro e V2 ⟨rfl, rfl⟩)
    have nn : w.heap.size ≠ V2.heap.size := by omega
    have lt2 : w.heap.size < V2.heap.size := by omega
    have ji1 : (t : Int) ≤ (n : Int) := by omega
    have ji2 : (n : Int) ≤ (cap : Int) := by omega
    have ji3 : (t : Int) ≤ (cap : Int) := by omega
    by_cases hct : cap = t
    · subst hct
      go_region_held3 (fun w' => w'.cell? ⟨V2.heap.size, 0, none⟩ = some (.int .u32 z) ∧ w'.cell? ⟨V2.heap.size, 1, none⟩ = some (.int .i64 l)) (go_keep)
        ((go_at_call 35; refine (may_any _ _ _ z0 z2 hv).mono ?_; rintro e W3 ⟨rfl, hb3⟩; obtain ⟨m0, m1, mf, mz, hbV⟩ := kept8 hb3 n0 n1 nf lt2; obtain ⟨s0, s1, sz3⟩ := new2 V2 (.int .u32 z) (.int .i64 l) 41; have s0 := cell_later hb3 s0; have s1 := cell_later hb3 s1))
      all_goals
        go_wp2
        refine bodyPost_ret (v := .tuple #[.agg #[.int .u32 z, .int .i64 l], .slice (some ⟨b, off, none⟩) 0 0, .bool v]) (by simp [results, Try.results70, go_sem, m0, m1]) rfl ⟨by first | rfl | rw [if_pos rfl, show n - cap = 0 from by omega, Nat.sub_self], ?_⟩
        exact ((stp hBw hbV).setCell (Nat.le_refl _) _).setCell (Nat.le_refl _) _
    · go_region_held3 (fun w' => w'.cell? ⟨V2.heap.size, 0, none⟩ = some (.int .u32 z) ∧ w'.cell? ⟨V2.heap.size, 1, none⟩ = some (.int .i64 l)) (go_keep)
        ((go_at_call 35; refine (may_any _ _ _ z0 z2 hv).mono ?_; rintro e W3 ⟨rfl, hb3⟩; obtain ⟨m0, m1, mf, mz, hbV⟩ := kept8 hb3 n0 n1 nf lt2; obtain ⟨s0, s1, sz3⟩ := new2 V2 (.int .u32 z) (.int .i64 l) 41; have s0 := cell_later hb3 s0; have s1 := cell_later hb3 s1))
      all_goals
        go_wp2
        refine bodyPost_ret (v := .tuple #[.agg #[.int .u32 z, .int .i64 l], .slice (some ⟨b, off + t, none⟩) (n - t) (cap - t), .bool v]) (by simp [results, Try.results70, go_sem, m0, m1]) rfl ⟨by first | rfl | rw [if_neg hct], ?_⟩
        exact ((stp hBw hbV).setCell (Nat.le_refl _) _).setCell (Nat.le_refl _) _
end Go.Proofs.Ytakikkigkmcffaa
