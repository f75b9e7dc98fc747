/- Contract of the program's Take. -/
import Derived.Test.YtcabeclbdjfoaaaProY
namespace Go.Proofs.Ytcabeclbdjfoaaa
open Go.RowKit
open Go.ChangeMaps (setBlock heap_setBlock_same heap_setBlock_other)

theorem take_same {L : List Rt} {k : Ky} (hr : rAt k L = none) : takeR L k = L ∧ takeRX L k = 5 := by
  unfold takeR takeRX
  rw [hr]
  exact ⟨rfl, rfl⟩
section
variable {N b : Nat} {q : Addr} {Bt B : Nat → Prop} {most full : Int} {L rs : List Rt} {T : List Pr} {es : Array MapEntry} {clock m : Nat}
theorem two_K (w : World) (a l d : Int) : ((w.alloc (objP a l)).alloc (objK a l d)).cell? ⟨w.heap.size, 0, none⟩ = some (.int .u32 a) ∧ ((w.alloc (objP a l)).alloc (objK a l d)).cell? ⟨w.heap.size, 1, none⟩ = some (.int .i64 l) ∧
    ((w.alloc (objP a l)).alloc (objK a l d)).cell? ⟨w.heap.size + 1, 0, none⟩ = some (.int .u32 a) ∧ ((w.alloc (objP a l)).alloc (objK a l d)).cell? ⟨w.heap.size + 1, 1, none⟩ = some (.int .i64 l) ∧ ((w.alloc (objP a l)).alloc (objK a l d)).cell? ⟨w.heap.size + 1, 2, none⟩ = some (.int .i64 d) ∧ ((w.alloc (objP a l)).alloc (objK a l d)).heap.size = w.heap.size + 2 := by
  refine ⟨?_, ?_, ?_, ?_, ?_, by simp⟩
  · rw [(below1 (w.alloc (objP a l)) (objK a l d)).cell (p := ⟨w.heap.size, 0, none⟩) (by simp)]; simp [go_sem]
  · rw [(below1 (w.alloc (objP a l)) (objK a l d)).cell (p := ⟨w.heap.size, 1, none⟩) (by simp)]; simp [go_sem]
  · simp [go_sem]
  · simp [go_sem]
  · simp [go_sem]
set_option maxHeartbeats 4000000 in
theorem take_no (a l d : Int) (w : World) (h : Tab w N b q Bt most full L rs T es clock m) (hB : ∀ k, B k ↔ k = N ∨ k = b ∨ Bt k)
    (hlk : ∀ W, W.heap[b]? = some (.map es clock) → (Instr.lookup 61 (.map (some b)) (.agg #[.int .u32 a, .int .i64 l, .int .i64 d]) true).run Try.prog W = .ok (.tuple #[valR 0 0 0 0 0 0 0, .bool false]) W) (hr : rAt ⟨a, l, d⟩ L = none) :
    Calls Try.prog 19 #[.pointer (some ⟨N, 0, none⟩), valP a l, .int .i64 d] w (DoneC RB w B ⟨N, 0, none⟩ most (takeR L ⟨a, l, d⟩) full (m + 1) (takeRX L ⟨a, l, d⟩)) := by
  have HT : Hid (Tab w N b q Bt most full L rs T es clock m) := h
  rw [(take_same hr).1, (take_same hr).2]
  have HE : Hid (∀ V, Below w.heap.size w V → DoneC RB w B ⟨N, 0, none⟩ most L full (m + 1) 5 (.returned (.int .i64 5)) V) := fun V hb => Tab.ends (h.later hb).up hB (fun k hk => .inl hk) (keep_of hb) rfl
  clear h hB hr
  obtain ⟨y0, y1, x0, x1, x2, hsz⟩ := two_K w a l d
  go_enter Try.func19, Try.ntmps19
  go_wp2
  have HB0 : Hid (Below w.heap.size w ((w.alloc (objP a l)).alloc (objK a l d))) := below2 _ _ _
  obtain ⟨X, hX⟩ : ∃ X, w.heap.size + 1 = X := ⟨_, rfl⟩
  rw [hX] at x0 x1 x2 ⊢
  obtain ⟨W2, hW2⟩ : ∃ W2, (w.alloc (objP a l)).alloc (objK a l d) = W2 := ⟨_, rfl⟩
  rw [hW2] at y0 y1 x0 x1 x2 HB0 hsz ⊢
  obtain ⟨K, hK⟩ : ∃ K, W2.heap.size = K := ⟨_, rfl⟩
  have HKK : Hid (W2.heap.size = K) := hK
  have HF : Hid (∀ w', Below K W2 w' → Below K W2 w' ∧ w'.cell? ⟨N, 0, none⟩ = some (.map (some b)) ∧ w'.cell? ⟨X, 0, none⟩ = some (.int .u32 a) ∧ w'.cell? ⟨X, 1, none⟩ = some (.int .i64 l) ∧ w'.cell? ⟨X, 2, none⟩ = some (.int .i64 d) ∧ w'.heap[b]? = some (.map es clock) ∧ K ≤ w'.heap.size) :=
    fun w' hb => by
      have hb' : Below W2.heap.size W2 w' := by rw [HKK.out]; exact hb
      have hT := (HT.out.later HB0.out).later hb'
      exact ⟨hb, hT.c0, cell_later hb' x0, cell_later hb' x1, cell_later hb' x2, hT.hb, by have := hb.size; rw [HKK.out] at this; exact this⟩
  have HN2 : Hid (K ≤ W2.heap.size) := Nat.le_of_eq HKK.out.symm
  clear hK hX hW2 hsz x0 x1 x2 y0 y1
  go_cut [8, 9] from 16 (fun _ s9 wx => s9 = .bool false ∧ Hid (Below K W2 wx))
  case first =>
    go_region_held3 (fun w' => Below K W2 w' ∧ w'.cell? ⟨N, 0, none⟩ = some (.map (some b)) ∧ w'.cell? ⟨X, 0, none⟩ = some (.int .u32 a) ∧ w'.cell? ⟨X, 1, none⟩ = some (.int .i64 l) ∧ w'.cell? ⟨X, 2, none⟩ = some (.int .i64 d) ∧ w'.heap[b]? = some (.map es clock) ∧ K ≤ w'.heap.size)
      ((refine HF.out _ ?_; (repeat (with_reducible refine bset ?_ HN2.out _)); (try (with_reducible refine Below.drew ?_)); (repeat (with_reducible refine bset ?_ HN2.out _)); first | (with_reducible exact Below.refl _ _) | (with_reducible exact (Below.refl _ _).alloc HN2.out _)))
      (fail)
    all_goals
      go_wp2_with fail
      go_meet
      exact ⟨rfl, ((Below.refl _ _).alloc HN2.out _).drew⟩
  case rest =>
    obtain ⟨rfl, hb3⟩ := hcut
    have hb3' : Below W2.heap.size W2 wc := by rw [HKK.out]; exact hb3.out
    have hbw : Hid (Below w.heap.size w wc) := stp HB0.out hb3'
    clear HF hb3 hb3' hlk
    go_wp2
    go_ret
    exact HE.out _ hbw.out
set_option maxHeartbeats 8000000 in
theorem take_yes (a l d : Int) (w : World) (h : Tab w N b q Bt most full L rs T es clock m) (hm1 : m ≤ 1000) (hB : ∀ k, B k ↔ k = N ∨ k = b ∨ Bt k) (hk : Ky.Ok ⟨a, l, d⟩)
    {j i : Nat} {r : Rt} (hlk : ∀ W, W.heap[b]? = some (.map es clock) → (Instr.lookup 61 (.map (some b)) (.agg #[.int .u32 a, .int .i64 l, .int .i64 d]) true).run Try.prog W = .ok (.tuple #[valRt r, .bool true]) W) (hr : rs[j]? = some r) (hrk : r.k = ⟨a, l, d⟩) (hrL : r ∈ L) (hi : rAt ⟨a, l, d⟩ L = some i) :
    Calls Try.prog 19 #[.pointer (some ⟨N, 0, none⟩), valP a l, .int .i64 d] w (DoneC RB w B ⟨N, 0, none⟩ most (takeR L ⟨a, l, d⟩) full (m + 1) (takeRX L ⟨a, l, d⟩)) := by
  have HT : Hid (Tab w N b q Bt most full L rs T es clock m) := h
  have hx : takeRX L ⟨a, l, d⟩ = 0 := by unfold takeRX; rw [hi]; rfl
  rw [hx]
  have hrk3 := Rt.k_iff.1 hrk
  have hd := good_d h.gd r hrL
  rw [hrk3.2.2] at hd
  have hmb : mayB a l = true := by have := (may_dom (h.gd.m r hrL)).1; rw [hrk3.1, hrk3.2.1] at this; exact this
  have HK : Hid (Px.Ok ⟨a, l⟩) := ⟨hk.a0, hk.a1, hk.l0, hk.l1⟩
  have HM : Hid (m ≤ 1000) := hm1
  have hjl := (List.getElem?_eq_some_iff.1 hr).1
  obtain ⟨u, hu⟩ : ∃ u, setR a l L = u := ⟨_, rfl⟩
  have hult : u < 65536 := by rw [← hu]; exact set_lt h.gd a l
  have HU : Hid (setR a l L = u) := hu
  obtain ⟨p, hp⟩ : ∃ p, 2 ^ d.toNat = p := ⟨_, rfl⟩
  have hplt : p < 65536 := by rw [← hp]; have := pow_bd (n := d.toNat) (by omega); omega
  obtain ⟨v, hv⟩ : ∃ v, u &&& (65535 - p) = v := ⟨_, rfl⟩
  have hvlt : v < 65536 := by rw [← hv]; exact and_lt hult
  have hbits : bits .andNot .u16 (u : Int) (p : Int) = (v : Int) := by rw [u16_andNot_nat u p hult hplt, hv]
  have hSet : setR a l (takeR L ⟨a, l, d⟩) = v := by rw [setR_take h.gd hd.1 hd.2, hu, hp, hv]
  have hae := addE_ok (t := 0) (domB_true hd.1 hd.2) (by simp)
  have HAd : Hid (∀ W, Calls Try.prog 35 #[.int .u16 0, .int .i64 d] W fun e w' => e = .returned (.tuple #[.int .u16 (p : Int), .int .i64 0]) ∧ w' = W) := fun W => addT_any 0 d W (by decide) (by rw [hae.2]; simpa using hp) hae.1
  have ew : IntKind.i64.wrap (v : Int) = (v : Int) := wrap_in (by omega) (by omega)
  have HS : Hid (∀ (ty : TypeId) (W : World), W.heap[b]? = some (.map es clock) → (Builtin.delete_ #[61, 67] ty #[.map (some b), .agg #[.int .u32 a, .int .i64 l, .int .i64 d]]).run Try.prog W = .ok (.tuple #[]) (setBlock W b (.map (es.eraseIdxIfInBounds j) clock))) :=
    fun ty W hb => drop_old h.im h.rts h.nd hk hr hrk ty W hb
  have hgd := goodR_take h.gd ⟨a, l, d⟩
  have hpx : putX most T a l = 0 := doms_put1 h.dm hmb ⟨r, hrL, hrk3.1, hrk3.2.1⟩
  have HTr : Hid (∀ W, TR W Bt q most T m → Calls Try.prog 40 #[.pointer (some q), valX a l] W (DoneT TR W Bt q most (takeL T a l) (m + 1) (takeX T a l))) := fun W ht => trieC.take a l ht hm1 HK.out
  have HPr : Hid (∀ W, TR W Bt q most T m → Calls Try.prog 37 #[.pointer (some q), valX a l, .int .i64 (v : Int)] W (DoneT TR W Bt q most (putL most T a l (v : Int)) (m + 1) 0)) := fun W ht => by
    have := trieC.put a l (v : Int) ht hm1 ⟨hk.a0, hk.a1, hk.l0, hk.l1, by show _ ≤ (v : Int); omega, by show (v : Int) ≤ _; omega⟩
    rw [hpx] at this
    exact this
  have HE : Hid (∀ (W6 : World) (Bt' : Nat → Prop) (T' : List Pr), Keep (fun k => k = b ∨ Bt k) w W6 → W6.heap[b]? = some (.map (es.eraseIdxIfInBounds j) clock) → TR W6 Bt' q most T' (m + 1) → (∀ k, Bt' k → Bt k ∨ w.heap.size ≤ k) → Doms (takeR L ⟨a, l, d⟩) T' →
      DoneC RB w B ⟨N, 0, none⟩ most (takeR L ⟨a, l, d⟩) full (m + 1) 0 (.returned (.int .i64 0)) W6) := by
    intro W6 Bt' T' hkt hb6 htr hBt hdm
    have hl := takeR_len L ⟨a, l, d⟩
    exact Tab.ends (Bt' := Bt') (h.turn hkt hb6 (h.im.erase hjl) (perm_take h.gd.s hgd.s h.pm hr hrk) htr hBt hdm hgd (by have := h.ml; omega) (by have := h.mm; omega)) hB hBt (hkt.mono fun i _ e => (hB i).2 (.inr e)) rfl
  have HD0 : Hid (v = 0 → Doms (takeR L ⟨a, l, d⟩) (takeL T a l)) := fun e => doms_take h.dm h.srt (fun p hp => of_take h.gd.s p hp) (setR_zero.1 (by rw [hSet]; exact e))
  have HD1 : Hid (v ≠ 0 → Doms (takeR L ⟨a, l, d⟩) (putL most T a l (v : Int))) := fun e => doms_put h.dm h.srt hpx (fun p hp => of_take h.gd.s p hp) (by
    apply Classical.byContradiction
    intro hc
    exact e (by rw [← hSet]; exact setR_zero.2 fun p hp ho => hc ⟨p, hp, ho⟩)) (by rw [hSet])
  have HBlt : Hid (∀ k, Bt k → k < w.heap.size) := trieC.lt h.tr
  obtain ⟨ra, rl, rd, rs', rm, rn, rt⟩ := r
  simp only [valRt] at hlk
  clear h hm1 hB hk hr hrk hrL hi hx hrk3 hd hmb hjl hu hp hv hSet hae hgd hpx
  obtain ⟨y0, y1, x0, x1, x2, hsz⟩ := two_K w a l d
  go_enter Try.func19, Try.ntmps19
  go_wp2
  have HB0 : Hid (Below w.heap.size w ((w.alloc (objP a l)).alloc (objK a l d))) := below2 _ _ _
  have HX1 : Hid (w.heap.size < w.heap.size + 1) := Nat.lt_succ_self _
  obtain ⟨X, hX⟩ : ∃ X, w.heap.size + 1 = X := ⟨_, rfl⟩
  rw [hX] at x0 x1 x2 HX1 ⊢
  obtain ⟨W2, hW2⟩ : ∃ W2, (w.alloc (objP a l)).alloc (objK a l d) = W2 := ⟨_, rfl⟩
  rw [hW2] at y0 y1 x0 x1 x2 HB0 hsz ⊢
  obtain ⟨K, hK⟩ : ∃ K, W2.heap.size = K := ⟨_, rfl⟩
  have HKK : Hid (W2.heap.size = K) := hK
  have HF : Hid (∀ w', Below K W2 w' → Below K W2 w' ∧ w'.cell? ⟨N, 0, none⟩ = some (.map (some b)) ∧ w'.cell? ⟨X, 0, none⟩ = some (.int .u32 a) ∧ w'.cell? ⟨X, 1, none⟩ = some (.int .i64 l) ∧ w'.cell? ⟨X, 2, none⟩ = some (.int .i64 d) ∧ w'.heap[b]? = some (.map es clock) ∧ K ≤ w'.heap.size) :=
    fun w' hb => by
      have hb' : Below W2.heap.size W2 w' := by rw [HKK.out]; exact hb
      have hT := (HT.out.later HB0.out).later hb'
      exact ⟨hb, hT.c0, cell_later hb' x0, cell_later hb' x1, cell_later hb' x2, hT.hb, by have := hb.size; rw [HKK.out] at this; exact this⟩
  have HY : Hid (∀ w', Below K W2 w' → w'.cell? ⟨w.heap.size, 0, none⟩ = some (.int .u32 a) ∧ w'.cell? ⟨w.heap.size, 1, none⟩ = some (.int .i64 l)) :=
    fun w' hb => by
      have hb' : Below W2.heap.size W2 w' := by rw [HKK.out]; exact hb
      exact ⟨cell_later hb' y0, cell_later hb' y1⟩
  have HN2 : Hid (K ≤ W2.heap.size) := Nat.le_of_eq HKK.out.symm
  clear hK hX hW2 hsz x0 x1 x2 y0 y1
  go_cut [8, 9] from 16 (fun _ s9 wx => s9 = .bool true ∧ Hid (Below K W2 wx))
  case first =>
    go_region_held3 (fun w' => Below K W2 w' ∧ w'.cell? ⟨N, 0, none⟩ = some (.map (some b)) ∧ w'.cell? ⟨X, 0, none⟩ = some (.int .u32 a) ∧ w'.cell? ⟨X, 1, none⟩ = some (.int .i64 l) ∧ w'.cell? ⟨X, 2, none⟩ = some (.int .i64 d) ∧ w'.heap[b]? = some (.map es clock) ∧ K ≤ w'.heap.size)
      ((refine HF.out _ ?_; (repeat (with_reducible refine bset ?_ HN2.out _)); (try (with_reducible refine Below.drew ?_)); (repeat (with_reducible refine bset ?_ HN2.out _)); first | (with_reducible exact Below.refl _ _) | (with_reducible exact (Below.refl _ _).alloc HN2.out _)))
      (fail)
    all_goals
      go_wp2_with fail
      go_meet
      exact ⟨rfl, ((Below.refl _ _).alloc HN2.out _).drew⟩
  case rest =>
    obtain ⟨rfl, hb3⟩ := hcut
    have hb3' : Below W2.heap.size W2 wc := by rw [HKK.out]; exact hb3.out
    have hbw : Hid (Below w.heap.size w wc) := stp HB0.out hb3'
    have hTc := HT.out.later hbw.out
    obtain ⟨-, c0, k0, k1, k2, hhb, -⟩ := HF.out wc hb3.out
    obtain ⟨y0, y1⟩ := HY.out wc hb3.out
    have hdel := fun ty => HS.out ty wc.drew hhb
    have hSB : Keep (fun k => k = b) wc (setBlock wc.drew b (.map (es.eraseIdxIfInBounds j) clock)) := (Keep.refl (fun k => k = b) wc).drew.setBlock rfl hhb _
    have hXl := block_lt_of_cell k0
    have hYl := block_lt_of_cell y0
    have hbl := HT.out.b_lt
    have nX : ¬ X = b := by have := HX1.out; omega
    have nY : ¬ w.heap.size = b := by omega
    have j0 := (hSB.cell (p := ⟨X, 0, none⟩) hXl nX).trans k0
    have j1 := (hSB.cell (p := ⟨X, 1, none⟩) hXl nX).trans k1
    have j2 := (hSB.cell (p := ⟨X, 2, none⟩) hXl nX).trans k2
    have z0 := (hSB.cell (p := ⟨w.heap.size, 0, none⟩) hYl nY).trans y0
    have z1 := (hSB.cell (p := ⟨w.heap.size, 1, none⟩) hYl nY).trans y1
    have n0 := (hSB.cell (p := ⟨N, 0, none⟩) hTc.lt (fun e => HT.out.nb e)).trans c0
    have n1 := (hSB.cell (p := ⟨N, 1, none⟩) hTc.lt (fun e => HT.out.nb e)).trans hTc.c1
    have HB1 : Hid ((setBlock wc.drew b (.map (es.eraseIdxIfInBounds j) clock)).heap[b]? = some (.map (es.eraseIdxIfInBounds j) clock)) := heap_setBlock_same (w := wc.drew) hhb _
    have HTR1 : Hid (TR (setBlock wc.drew b (.map (es.eraseIdxIfInBounds j) clock)) Bt q most T m) := trieC.keep hTc.tr hSB (fun k e e' => HT.out.bt (by rw [← e']; exact e))
    have HK1 : Hid (Keep (fun k => k = b ∨ Bt k) w (setBlock wc.drew b (.map (es.eraseIdxIfInBounds j) clock))) := keep_then hbw.out (hSB.mono fun i _ e => .inl e)
    clear HF HS HY hlk hTc hb3 hb3' hSB
    go_wp2
    go_region_held3 (fun w' => w'.cell? ⟨N, 0, none⟩ = some (.map (some b)) ∧ w'.cell? ⟨X, 0, none⟩ = some (.int .u32 a) ∧ w'.cell? ⟨X, 1, none⟩ = some (.int .i64 l) ∧ w'.cell? ⟨X, 2, none⟩ = some (.int .i64 d))
      (first | with_reducible exact ⟨n0, j0, j1, j2⟩ | exact ⟨c0, k0, k1, k2⟩)
      ((refine step_delM rfl (.tmp 30) (.tmp 31) rfl b _ rfl rfl hdel ?_))
    clear c0 k0 k1 k2 hhb y0 y1 hdel j0 j1 j2 n0 hXl hYl nX nY
    generalize setBlock wc.drew b (.map (es.eraseIdxIfInBounds j) clock) = V1 at *
    by_cases hv0 : v = 0
    · have hq : ((v : Int) == 0) = true := by simp [hv0]
      have hdm := HD0.out hv0
      have HDm : Hid (Doms (takeR L ⟨a, l, d⟩) (takeL T a l)) := hdm
      clear hdm hv0 HD0 HD1
      go_wp2_with (first
        | (go_at_call 35; refine (HAd.out _).mono ?_; rintro e W3 ⟨rfl, rfl⟩)
        | (go_at_call 36; refine (domainsOf_gen (N := N) (q := q) (Bt := Bt) (T := T) (L := L) (most := most) (m := m) a l _ n1 HTR1.out HT.out.dm HT.out.gd (Nat.le_trans HM.out (by decide)) HK.out).mono ?_; rw [HU.out]; rintro e W4 ⟨rfl, hb4⟩; have HB4 : Hid (Below W3.heap.size W3 W4) := hb4; have c1 := cell_later hb4 n1; have y0 := cell_later hb4 z0; have y1 := cell_later hb4 z1; have HTR4 : Hid (TR W4.drew Bt q most T m) := trieC.later HTR1.out hb4.drew))
      have HKp : Hid (∀ W6, Keep Bt W4.drew W6 → W6.cell? ⟨N, 1, none⟩ = some (.pointer (some q)) ∧ W6.cell? ⟨w.heap.size, 0, none⟩ = some (.int .u32 a) ∧ W6.cell? ⟨w.heap.size, 1, none⟩ = some (.int .i64 l)) := fun W6 hk =>
        ⟨(hk.cell (p := ⟨N, 1, none⟩) (block_lt_of_cell c1) HT.out.nt).trans c1, (hk.cell (p := ⟨w.heap.size, 0, none⟩) (block_lt_of_cell y0) (fun e => Nat.lt_irrefl w.heap.size (HBlt.out _ e))).trans y0, (hk.cell (p := ⟨w.heap.size, 1, none⟩) (block_lt_of_cell y1) (fun e => Nat.lt_irrefl w.heap.size (HBlt.out _ e))).trans y1⟩
      go_region_held3 (fun w' => w'.cell? ⟨N, 1, none⟩ = some (.pointer (some q)) ∧ w'.cell? ⟨w.heap.size, 0, none⟩ = some (.int .u32 a) ∧ w'.cell? ⟨w.heap.size, 1, none⟩ = some (.int .i64 l))
        (first | exact HKp.out _ hk6 | exact ⟨c1, y0, y1⟩)
        ((go_at_call 40; refine (HTr.out _ HTR4.out).mono ?_; rintro e W6 ⟨Bt6, rfl, htr6, hBt6, hk6⟩))
      have hk6' : Keep Bt W4 W6 := ⟨hk6.os, hk6.tape, hk6.output, hk6.size, hk6.block⟩
      have hb4l : b < W4.heap.size := Nat.lt_of_lt_of_le (Array.getElem?_eq_some_iff.1 HB1.out).1 HB4.out.size
      have HB6 : Hid (W6.heap[b]? = some (.map (es.eraseIdxIfInBounds j) clock)) := (hk6'.block b hb4l HT.out.bt).trans ((HB4.out.block b (Array.getElem?_eq_some_iff.1 HB1.out).1).trans HB1.out)
      have HK6 : Hid (Keep (fun k => k = b ∨ Bt k) w W6) := (HK1.out.then HB4.out).trans hk6' (fun i _ e => .inr e)
      have HT6 : Hid (TR W6 Bt6 q most (takeL T a l) (m + 1)) := htr6
      have hs4 : w.heap.size ≤ W4.heap.size := Nat.le_trans HK1.out.size HB4.out.size
      have HBt6 : Hid (∀ k, Bt6 k → Bt k ∨ w.heap.size ≤ k) := fun k hk => (hBt6 k hk).imp id fun e => Nat.le_trans hs4 e
      clear hb4 hk6 hk6' htr6 hBt6 c1 y0 y1
      go_wp2
      go_ret
      exact HE.out W6 Bt6 _ HK6.out HB6.out HT6.out HBt6.out HDm.out
    · have hq : ((v : Int) == 0) = false := by simp [hv0]
      have hdm := HD1.out hv0
      have HDm : Hid (Doms (takeR L ⟨a, l, d⟩) (putL most T a l (v : Int))) := hdm
      clear hdm hv0 HD0 HD1
      go_wp2_with (first
        | (go_at_call 35; refine (HAd.out _).mono ?_; rintro e W3 ⟨rfl, rfl⟩)
        | (go_at_call 36; refine (domainsOf_gen (N := N) (q := q) (Bt := Bt) (T := T) (L := L) (most := most) (m := m) a l _ n1 HTR1.out HT.out.dm HT.out.gd (Nat.le_trans HM.out (by decide)) HK.out).mono ?_; rw [HU.out]; rintro e W4 ⟨rfl, hb4⟩; have HB4 : Hid (Below W3.heap.size W3 W4) := hb4; have c1 := cell_later hb4 n1; have y0 := cell_later hb4 z0; have y1 := cell_later hb4 z1; have HTR4 : Hid (TR W4.drew Bt q most T m) := trieC.later HTR1.out hb4.drew))
      have HKp : Hid (∀ W6, Keep Bt W4.drew W6 → W6.cell? ⟨N, 1, none⟩ = some (.pointer (some q)) ∧ W6.cell? ⟨w.heap.size, 0, none⟩ = some (.int .u32 a) ∧ W6.cell? ⟨w.heap.size, 1, none⟩ = some (.int .i64 l)) := fun W6 hk =>
        ⟨(hk.cell (p := ⟨N, 1, none⟩) (block_lt_of_cell c1) HT.out.nt).trans c1, (hk.cell (p := ⟨w.heap.size, 0, none⟩) (block_lt_of_cell y0) (fun e => Nat.lt_irrefl w.heap.size (HBlt.out _ e))).trans y0, (hk.cell (p := ⟨w.heap.size, 1, none⟩) (block_lt_of_cell y1) (fun e => Nat.lt_irrefl w.heap.size (HBlt.out _ e))).trans y1⟩
      go_region_held3 (fun w' => w'.cell? ⟨N, 1, none⟩ = some (.pointer (some q)) ∧ w'.cell? ⟨w.heap.size, 0, none⟩ = some (.int .u32 a) ∧ w'.cell? ⟨w.heap.size, 1, none⟩ = some (.int .i64 l))
        (first | exact HKp.out _ hk6 | exact ⟨c1, y0, y1⟩)
        ((go_at_call 37; refine (HPr.out _ HTR4.out).mono ?_; rintro e W6 ⟨Bt6, rfl, htr6, hBt6, hk6⟩))
      have hk6' : Keep Bt W4 W6 := ⟨hk6.os, hk6.tape, hk6.output, hk6.size, hk6.block⟩
      have hb4l : b < W4.heap.size := Nat.lt_of_lt_of_le (Array.getElem?_eq_some_iff.1 HB1.out).1 HB4.out.size
      have HB6 : Hid (W6.heap[b]? = some (.map (es.eraseIdxIfInBounds j) clock)) := (hk6'.block b hb4l HT.out.bt).trans ((HB4.out.block b (Array.getElem?_eq_some_iff.1 HB1.out).1).trans HB1.out)
      have HK6 : Hid (Keep (fun k => k = b ∨ Bt k) w W6) := (HK1.out.then HB4.out).trans hk6' (fun i _ e => .inr e)
      have HT6 : Hid (TR W6 Bt6 q most (putL most T a l (v : Int)) (m + 1)) := htr6
      have hs4 : w.heap.size ≤ W4.heap.size := Nat.le_trans HK1.out.size HB4.out.size
      have HBt6 : Hid (∀ k, Bt6 k → Bt k ∨ w.heap.size ≤ k) := fun k hk => (hBt6 k hk).imp id fun e => Nat.le_trans hs4 e
      clear hb4 hk6 hk6' htr6 hBt6 c1 y0 y1
      go_wp2
      go_ret
      exact HE.out W6 Bt6 _ HK6.out HB6.out HT6.out HBt6.out HDm.out
end
end Go.Proofs.Ytcabeclbdjfoaaa
