/- The contract of the program's place. -/
import Derived.Test.YtcabeclbdjfoaaaNodM
import Derived.ScopeJumps
namespace Go.Proofs.Ytcabeclbdjfoaaa
open Go.RowKit

theorem way_split (x : Int) {k l : Nat} (h : k < l) : ∃ r, wayX x l = wayX x k ++ bitX x k :: r := by
  refine ⟨(wayX x l).drop (k + 1), ?_⟩
  have h1 := List.take_append_drop (k + 1) (wayX x l)
  rw [way_take x l (k + 1) (by omega), wayX, List.append_assoc] at h1
  exact h1.symm
theorem holds_not' {ns : List Nd} {ws : Nat → List Bool} {L : List Pr} (g : Good ns ws) (H : Holds ns ws L) {a l : Int} (h0 : 0 ≤ a) (h1 : a < 4294967296) (h : mayB a l = true → ∀ (j : Nat) (x : Nd), ns[j]? = some x → ws j = wayX a l.toNat → x.h = false) : getP L a l = none := by
  rw [getP_none]
  intro p hp hpk
  obtain ⟨j, y, hy, hyh, rfl⟩ := (H _).1 hp
  have hd := g.d j (lt_of_at hy)
  have hm : mayB a l = true := by rw [← hpk.1, ← hpk.2]; exact adr_may hd
  have := h hm j y hy ((key_way hd h0 h1 hm).1 hpk)
  rw [hyh] at this; cases this
/-- What place answers. -/
def PlaceD (w : World) (ns : List Nd) (ws : Nat → List Bool) (a l : Int) (e : Ending) (w' : World) : Prop :=
  ∃ (i : Nat) (ok : Bool), e = .returned (.tuple #[.int .i64 (i : Int), .bool ok]) ∧ Below w.heap.size w w' ∧
    ((ok = true ∧ mayB a l = true ∧ ∃ x : Nd, ns[i]? = some x ∧ ws i = wayX a l.toNat ∧ x.h = true) ∨ (ok = false ∧ (mayB a l = true → ∀ (j : Nat) (x : Nd), ns[j]? = some x → ws j = wayX a l.toNat → x.h = false)))
/-- At the label: the node i has the first k bits. -/
def PlJ (w : World) (N : Nat) (ns : List Nd) (ws : Nat → List Bool) (a : Int) (m : Nat) (x : Act) (W : World) : Prop :=
  ∃ (i k : Nat) (u1 u2 u4 u5 u8 u9 u10 u11 u12 u13 u14 u15 u16 u17 u18 u19 u20 u21 u22 u23 u24 u25 u26 u27 u28 u29 u30 u31 u32 u33 u34 u35 u36 u37 u38 u39 u40 : Value), x = { tmps := #[.pointer (some ⟨N, 0, none⟩), u1, u2, .pointer (some ⟨w.heap.size, 0, none⟩), u4, u5, .int .i64 (i : Int), .int .i64 (k : Int), u8, u9, u10, u11, u12, u13, u14, u15, u16, u17, u18, u19, u20, u21, u22, u23, u24, u25, u26, u27, u28, u29, u30, u31, u32, u33, u34, u35, u36, u37, u38, u39, u40], defers := [] } ∧ i < ns.length ∧ k ≤ m ∧ ws i = wayX a k ∧ Below (w.heap.size + 1) (w.alloc (objX a (m : Int))) W
noncomputable def afterScope : Code → Option Code
  | .scope c => findLabel c 0
  | .seq a b => match afterScope a with
    | some c => some c
    | none => afterScope b
  | .block _ c => afterScope c
  | _ => none
def Code.second : Code → Code
  | .seq _ b => b
  | c => c
theorem jump_mono {l : Nat} {J J' : Act → World → Prop} {Q : Exit → Act → World → Prop} (h : ∀ a w, J a w → J' a w) : ∀ e a w, Exit.jump l J Q e a w → Exit.jump l J' Q e a w := by
  intro e a w
  cases e <;> intro hq <;> first | exact ⟨hq.1, h _ _ hq.2⟩ | exact hq
noncomputable def restPl : Code := Code.second ((Try.f52.body.bind afterScope).getD .skip)
def slot7 (x : Act) : Nat := (intOf (x.tmps.getD 7 undef)).toNat
set_option maxRecDepth 100000 in
set_option maxHeartbeats 2000000 in
theorem place_pass (w : World) (N g cap : Nat) (most cnt : Int) (ns : List Nd) (ws : Nat → List Bool) (a : Int) (m : Nat) (hT : TrM w N g cap most cnt ns) (hG : Good ns ws) (ha0 : 0 ≤ a) (_ha1 : a < 4294967296) (hm : m ≤ 32) (hmay : mayB a (m : Int) = true) (q : Nat) (x : Act) (hq : slot7 x = q) (W : World) (hJ : PlJ w N ns ws a m x W) :
    Code.wp Try.prog restPl (Exit.jump 0 (fun a' w' => PlJ w N ns ws a m a' w' ∧ m - slot7 a' < m - q) (bodyPost Try.prog Try.f52 (PlaceD w ns ws a (m : Int)))) x W := by
  obtain ⟨i, k, u1, u2, u4, u5, u8, u9, u10, u11, u12, u13, u14, u15, u16, u17, u18, u19, u20, u21, u22, u23, u24, u25, u26, u27, u28, u29, u30, u31, u32, u33, u34, u35, u36, u37, u38, u39, u40, rfl, hi, hk, hw, hB⟩ := hJ
  have HJ : Hid (Below (w.heap.size + 1) (w.alloc (objX a (m : Int))) W) := hB
  have HBw : Hid (Below w.heap.size w W) := out8 hB
  obtain ⟨z0, z1, z2, fz, -, -, -⟩ := hT.later HBw.out
  obtain ⟨y, hy⟩ := at_of_lt hi
  have HY : Hid (ns[i]? = some y) := hy
  have HG : Hid (Good ns ws) := hG
  have HW : Hid (ws i = wayX a k) := hw
  have HQ : Hid (k = q) := by unfold Hid; rw [← hq]; simp [slot7, intOf]
  obtain ⟨d0, d1, d2, d3, d4⟩ := (hT.later HBw.out).at hy
  have ca := (hT.cap_le).1
  have x0 : W.cell? ⟨w.heap.size, 0, none⟩ = some (.int .u32 a) := hB.cell (p := ⟨w.heap.size, 0, none⟩) (Nat.lt_succ_self _) |>.trans (by simp [go_sem])
  have x1 : W.cell? ⟨w.heap.size, 1, none⟩ = some (.int .i64 (m : Int)) := hB.cell (p := ⟨w.heap.size, 1, none⟩) (Nat.lt_succ_self _) |>.trans (by simp [go_sem])
  obtain ⟨n, hn⟩ : ∃ n, ns.length = n := ⟨_, rfl⟩
  have HN : Hid (ns.length = n) := hn
  rw [hn] at z0 hi ca
  have hi' : (i : Int) < (n : Int) := by omega
  clear hT hG hw hy hn hB hq
  conv => arg 2; whnf
  by_cases hkm : k = m
  · subst hkm
    clear d0 d1 d2 d4
    obtain ⟨v, hv⟩ : ∃ v, y.h = v := ⟨_, rfl⟩
    have HV : Hid (y.h = v) := hv
    rw [hv] at d3
    clear hv
    go_wp2
    go_quiet (fail)
    go_wp2
    simp only [Exit.jump]
    go_ret2
    refine ⟨i, v, rfl, below_drewN HBw.out _, ?_⟩
    cases v
    · refine .inr ⟨rfl, fun _ j z hz hwz => ?_⟩
      have := HG.out.i j i (lt_of_at hz) (lt_of_at HY.out) (by rw [HW.out]; simpa using hwz)
      subst this
      have := HY.out
      rw [hz] at this; cases this
      exact HV.out
    · exact .inl ⟨rfl, hmay, y, HY.out, by rw [HW.out]; simp, HV.out⟩
  · have hlt : k < m := by omega
    have hne : ¬ (k : Int) = (m : Int) := by omega
    have hk32 : k ≤ 32 := by omega
    clear d2 d3 d4
    have go : ∀ (s : Bool) (r : List Bool), wayX a m = wayX a k ++ s :: r → Hid (∀ (j : Nat) (x : Nd), ns[j]? = some x → ws j = wayX a m → y.kid s ≠ 0) := fun s r hr j z hz hwz => (HG.out.behind HY.out (s := s) (r := r) (lt_of_at hz) (by rw [hwz, hr, HW.out])).1
    have ahead : ∀ s, bitX a k = s → y.kid s ≠ 0 → Hid (y.kid s < n ∧ ws (y.kid s) = wayX a (k + 1)) := by
      intro s hs h0
      obtain ⟨z, h1, h2, -⟩ := HG.out.k i y HY.out s h0
      exact ⟨by rw [← HN.out]; exact lt_of_at h1, by rw [h2, HW.out, wayX, hs]⟩
    obtain ⟨r, hr⟩ := way_split a hlt
    cases hs : bitX a k
    · have HBt : Hid (bitI a k = 0) := by unfold Hid; rw [bit_val ha0 (by omega), hs]; rfl
      rw [hs] at hr
      have HGo := go false r hr
      have HAh := ahead false hs
      clear go ahead hr hs
      obtain ⟨c, hc⟩ : ∃ c, y.a = c := ⟨_, rfl⟩
      have HC : Hid (y.kid false = c) := hc
      rw [hc] at d0
      clear hc d1
      by_cases hc0 : c = 0
      · subst hc0
        clear HAh
        go_wp2
        go_quiet ((go_at_call 58; exact Calls.quiet_of_same (bit_any _ _ _ hk32 HBt.out)))
        go_wp2
        simp only [Exit.jump]
        go_ret2
        exact ⟨0, false, rfl, below_drewN HBw.out _, .inr ⟨rfl, fun _ j z hz hwz => absurd HC.out (HGo.out j z hz (by simpa using hwz))⟩⟩
      · have hc0' : ¬ (c : Int) = 0 := by omega
        have HA := HAh (by rw [HC.out]; exact hc0)
        rw [HC.out] at HA
        clear HAh HGo
        go_wp2
        go_quiet ((go_at_call 58; exact Calls.quiet_of_same (bit_any _ _ _ hk32 HBt.out)))
        go_wp2
        go_step3
        refine ⟨rfl, ⟨c, k + 1, _, _, _, _, _, _, _, _, _, _, _, _, _, _, _, _, _, _, _, _, _, _, _, _, _, _, _, _, _, _, _, _, _, _, _, _, _, rfl, by rw [HN.out]; exact HA.out.1, by omega, HA.out.2, below_drewN HJ.out _⟩, ?_⟩
        have := HQ.out
        simp [slot7, intOf]
        omega
    · have HBt : Hid (bitI a k = 1) := by unfold Hid; rw [bit_val ha0 (by omega), hs]; rfl
      rw [hs] at hr
      have HGo := go true r hr
      have HAh := ahead true hs
      clear go ahead hr hs
      obtain ⟨c, hc⟩ : ∃ c, y.b = c := ⟨_, rfl⟩
      have HC : Hid (y.kid true = c) := hc
      rw [hc] at d1
      clear hc d0
      by_cases hc0 : c = 0
      · subst hc0
        clear HAh
        go_wp2
        go_quiet ((go_at_call 58; exact Calls.quiet_of_same (bit_any _ _ _ hk32 HBt.out)))
        go_wp2
        simp only [Exit.jump]
        go_ret2
        exact ⟨0, false, rfl, below_drewN HBw.out _, .inr ⟨rfl, fun _ j z hz hwz => absurd HC.out (HGo.out j z hz (by simpa using hwz))⟩⟩
      · have hc0' : ¬ (c : Int) = 0 := by omega
        have HA := HAh (by rw [HC.out]; exact hc0)
        rw [HC.out] at HA
        clear HAh HGo
        go_wp2
        go_quiet ((go_at_call 58; exact Calls.quiet_of_same (bit_any _ _ _ hk32 HBt.out)))
        go_wp2
        go_step3
        refine ⟨rfl, ⟨c, k + 1, _, _, _, _, _, _, _, _, _, _, _, _, _, _, _, _, _, _, _, _, _, _, _, _, _, _, _, _, _, _, _, _, _, _, _, _, _, rfl, by rw [HN.out]; exact HA.out.1, by omega, HA.out.2, below_drewN HJ.out _⟩, ?_⟩
        have := HQ.out
        simp [slot7, intOf]
        omega
set_option maxHeartbeats 1000000 in
theorem place_any (N g cap : Nat) (most cnt : Int) (ns : List Nd) (ws : Nat → List Bool) (a l : Int) (w : World) (hT : TrM w N g cap most cnt ns) (hG : Good ns ws) (ha0 : 0 ≤ a) (ha1 : a < 4294967296) :
    Calls Try.prog 52 #[.pointer (some ⟨N, 0, none⟩), valX a l] w (PlaceD w ns ws a l) := by
  cases hm : mayB a l
  · have HM : Hid (mayB a l = false) := hm
    clear hm
    go_enter Try.func52, Try.ntmps52
    go_wp2
    go_step3
    go_wp2_with (go_at_call 45; refine (may_any _ _ _ ha0 ha1 HM.out).mono ?_; rintro e W1 ⟨rfl, hb1⟩)
    rw [Exit.noGoto_ret]
    go_ret2
    exact ⟨0, false, rfl, Below.out1 hb1, .inr ⟨rfl, fun h => by rw [HM.out] at h; cases h⟩⟩
  · obtain ⟨m, rfl⟩ : ∃ m : Nat, l = (m : Int) := ⟨l.toNat, by have := may_len hm; omega⟩
    have hm32 : m ≤ 32 := by have := may_len hm; omega
    have PASS : Hid (_) := place_pass w N g cap most cnt ns ws a m hT hG ha0 ha1 hm32 hm
    have HM : Hid (mayB a (m : Int) = true) := hm
    have HR : Hid (0 < ns.length ∧ ws 0 = []) := ⟨hG.r, hG.w⟩
    clear hm hT hG
    go_enter Try.func52, Try.ntmps52
    go_wp2
    refine wp_scope_jumps 0 (PlJ w N ns ws a m) (fun a' _ => m - slot7 a') rfl ?_ ?_
    rotate_left
    · intro a' W' hJ
      exact wp_seq (wp_skip (PASS.out _ a' rfl W' hJ))
    go_wp2_with (go_at_call 45; refine (may_any _ _ _ ha0 ha1 HM.out).mono ?_; rintro e W1 ⟨rfl, hb1⟩)
    go_step3
    rename_i K hK
    refine hK _ _ (wp_mono (PASS.out _ _ rfl _ ?_) (jump_mono fun a w h => h.1))
    exact ⟨0, 0, _, _, _, _, _, _, _, _, _, _, _, _, _, _, _, _, _, _, _, _, _, _, _, _, _, _, _, _, _, _, _, _, _, _, _, _, _, rfl, HR.out.1, Nat.zero_le _, by rw [HR.out.2]; rfl, by simpa using hb1⟩
end Go.Proofs.Ytcabeclbdjfoaaa
