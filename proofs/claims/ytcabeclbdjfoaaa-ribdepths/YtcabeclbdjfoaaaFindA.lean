/- The contract of the program's Find. -/
import Derived.Test.YtcabeclbdjfoaaaPlaceA
namespace Go.Proofs.Ytcabeclbdjfoaaa
open Go.RowKit

set_option maxHeartbeats 400000 in
theorem make_ok (a b : Int) (w : World) (ha0 : 0 ≤ a) (ha1 : a < 4294967296) (h0 : 0 ≤ b) (h1 : b ≤ 32) :
    Calls Try.prog 59 #[.int .u32 a, .int .i64 b] w fun e w' => e = .returned (.tuple #[.agg #[.int .u32 (andM a b.toNat), .int .i64 b], .int .i64 0]) ∧ w' = w.alloc (.cells #[.int .u32 (andM a b.toNat), .int .i64 b] 24) := by
  have e1 : maskV b = mkI b.toNat := by unfold maskV; rw [cl_of h0 h1]
  have e2 := u32_andM a b.toNat ha0 ha1 (by omega)
  have e3 := lenB_true h0 h1
  go_enter Try.func59, Try.ntmps59
  go_wp2_with (first
    | (go_at_call 46; refine (mask_any _ _).mono ?_; rintro e w' ⟨rfl, rfl⟩)
    | (go_at_call 60; refine (isLen_any _ _ e3).mono ?_; rintro e w' ⟨rfl, rfl⟩))
  go_returns
  exact ⟨rfl, rfl⟩
/-- The best of those with less than k bits: v, if there is one; f its node, e its bits. -/
def BestF (ns : List Nd) (ws : Nat → List Bool) (x : Int) (v : Bool) (f e k : Nat) : Prop :=
  (v = true → ∃ z : Nd, ns[f]? = some z ∧ z.h = true ∧ ws f = wayX x e ∧ e < k) ∧ ∀ (j : Nat) (z : Nd) (d : Nat), ns[j]? = some z → ws j = wayX x d → d < k → z.h = true → v = true ∧ d ≤ e
theorem bestF_start (ns : List Nd) (ws : Nat → List Bool) (x : Int) : BestF ns ws x false 0 0 0 := ⟨(fun h => by cases h), (fun j z d _ _ h => by omega)⟩
theorem bestF_has {ns : List Nd} {ws : Nat → List Bool} {x : Int} {v : Bool} {f e k i : Nat} {y : Nd} (_h : BestF ns ws x v f e k) (hy : ns[i]? = some y) (hw : ws i = wayX x k) (hh : y.h = true) : BestF ns ws x true i k (k + 1) :=
  ⟨fun _ => ⟨y, hy, hh, hw, by omega⟩, fun j z d _ _ hd _ => ⟨rfl, by omega⟩⟩
theorem bestF_not {ns : List Nd} {ws : Nat → List Bool} {x : Int} {v : Bool} {f e k i : Nat} {y : Nd} (g : Good ns ws) (h : BestF ns ws x v f e k) (hy : ns[i]? = some y) (hw : ws i = wayX x k) (hh : y.h = false) : BestF ns ws x v f e (k + 1) := by
  refine ⟨fun hv => ?_, fun j z d hz hwz hd hzh => ?_⟩
  · obtain ⟨z, h1, h2, h3, h4⟩ := h.1 hv
    exact ⟨z, h1, h2, h3, by omega⟩
  · by_cases hdk : d = k
    · subst hdk
      have := g.i i j (lt_of_at hy) (lt_of_at hz) (by rw [hw, hwz])
      subst this
      rw [hy] at hz; cases hz
      rw [hh] at hzh; cases hzh
    · exact h.2 j z d hz hwz (by omega) hzh
theorem bestF_find {ns : List Nd} {ws : Nat → List Bool} {L : List Pr} {x : Int} {v : Bool} {f e k : Nat} (g : Good ns ws) (H : Holds ns ws L) (hs : Srt L) (h0 : 0 ≤ x) (h1 : x < 4294967296) (h : BestF ns ws x v f e k) (he : ∀ (j : Nat) (z : Nd) (d : Nat), ns[j]? = some z → ws j = wayX x d → d ≤ 32 → d < k) :
    (v = false ∧ findP x L none = none) ∨ (v = true ∧ ∃ z : Nd, ns[f]? = some z ∧ e ≤ 32 ∧ findP x L none = some ⟨andM x e, (e : Int), z.n⟩) := by
  have hmem : ∀ q ∈ L, hasB q.a q.l x = true → ∃ (j : Nat) (z : Nd), ns[j]? = some z ∧ z.h = true ∧ ws j = wayX x (ws j).length ∧ q.l = ((ws j).length : Nat) ∧ (ws j).length ≤ 32 := by
    intro q hq hh
    obtain ⟨j, z, hz, hzh, rfl⟩ := (H _).1 hq
    have hd := g.d j (lt_of_at hz)
    exact ⟨j, z, hz, hzh, (has_way hd h0 h1).1 hh, rfl, hd⟩
  cases v
  · refine .inl ⟨rfl, ?_⟩
    cases hf : findP x L none with
    | none => rfl
    | some q =>
      obtain ⟨k1, k2, -⟩ := find_some hf
      obtain ⟨j, z, hz, hzh, hw, -, hd⟩ := hmem q k1 k2
      have := h.2 j z _ hz hw (he j z _ hz hw hd) hzh
      cases this.1
  · obtain ⟨z, hz, hzh, hw, hek⟩ := h.1 rfl
    have hd := g.d f (lt_of_at hz)
    rw [hw, way_len] at hd
    refine .inr ⟨rfl, z, hz, hd, ?_⟩
    have hin : (⟨andM x e, (e : Int), z.n⟩ : Pr) ∈ L := (H _).2 ⟨f, z, hz, hzh, by unfold prN; rw [hw, way_adr h0 h1 e hd, way_len]⟩
    have hhas : hasB (andM x e) ((e : Nat) : Int) x = true := by
      have := (has_way (p := wayX x e) (by rw [way_len]; exact hd) h0 h1).2 (by rw [way_len])
      rw [way_len, way_adr h0 h1 e hd] at this
      exact this
    refine find_is hs hin hhas fun q hq hh => ?_
    obtain ⟨j, y, hy, hyh, hwy, hl, hd'⟩ := hmem q hq hh
    have := (h.2 j y _ hy hwy (he j y _ hy hwy hd') hyh).2
    rw [hl]
    show ((ws j).length : Int) ≤ (e : Int)
    omega
/-- The way on from a node. -/
theorem downF {ns : List Nd} {ws : Nat → List Bool} (g : Good ns ws) {x : Int} (h0 : 0 ≤ x) {i k : Nat} {y : Nd} (hy : ns[i]? = some y) (hw : ws i = wayX x k) (hk : k ≤ 32) :
    ∃ s : Bool, bitI x k = (if s = true then 1 else 0) ∧ (y.kid s = 0 → ∀ (j : Nat) (z : Nd) (d : Nat), ns[j]? = some z → ws j = wayX x d → d ≤ 32 → d < k + 1) ∧ (y.kid s ≠ 0 → k < 32 ∧ y.kid s < ns.length ∧ ws (y.kid s) = wayX x (k + 1)) := by
  have down : ∀ s, y.kid s ≠ 0 → k < 32 := fun s hs => by
    obtain ⟨z, h1, h2, -⟩ := g.k i y hy s hs
    have := g.d _ (lt_of_at h1)
    rw [h2, hw, List.length_append, way_len] at this
    simp at this
    omega
  by_cases h32 : k = 32
  · subst h32
    refine ⟨false, bit_end x, fun _ j z d _ _ hd => by omega, fun hs => ?_⟩
    have := down false hs
    omega
  · refine ⟨bitX x k, bit_val h0 (by omega), fun hs j z d hz hwz hd => ?_, fun hs => ?_⟩
    · by_cases hdk : d < k + 1
      · exact hdk
      · obtain ⟨r, hr⟩ := way_split x (show k < d by omega)
        exact absurd hs (g.behind hy (s := bitX x k) (r := r) (lt_of_at hz) (by rw [hwz, hr, hw])).1
    · obtain ⟨z, h1, h2, -⟩ := g.k i y hy _ hs
      exact ⟨by omega, lt_of_at h1, by rw [h2, hw, wayX]⟩
/-- What Find answers. -/
def FindD (w : World) (L : List Pr) (x : Int) (e : Ending) (w' : World) : Prop :=
  e = .returned (.tuple #[valX (fndA x L) (fndL x L), .int .i64 (fndN x L), .bool (fndB x L)]) ∧ Below w.heap.size w w'
def FiJ (w : World) (N : Nat) (ns : List Nd) (ws : Nat → List Bool) (x : Int) (c : Act) (W : World) : Prop :=
  ∃ (i k f e : Nat) (v : Bool) (u2 u3 u5 u6 u12 u13 u14 u15 u16 u17 u18 u19 u20 u21 u22 u23 u24 u25 u26 u27 u28 u29 u30 u31 u32 u33 u34 u35 u36 u37 u38 u39 u40 u41 u42 u43 u44 u45 u46 u47 u48 u49 u50 u51 u52 u53 u54 u55 u56 u57 : Value), c = { tmps := #[.pointer (some ⟨N, 0, none⟩), .int .u32 x, u2, u3, .pointer (some ⟨w.heap.size, 0, none⟩), u5, u6, .int .i64 (i : Int), .int .i64 (k : Int), .int .i64 (f : Int), .int .i64 (e : Int), .bool v, u12, u13, u14, u15, u16, u17, u18, u19, u20, u21, u22, u23, u24, u25, u26, u27, u28, u29, u30, u31, u32, u33, u34, u35, u36, u37, u38, u39, u40, u41, u42, u43, u44, u45, u46, u47, u48, u49, u50, u51, u52, u53, u54, u55, u56, u57], defers := [] } ∧ i < ns.length ∧ k ≤ 32 ∧ ws i = wayX x k ∧ BestF ns ws x v f e k ∧ Below (w.heap.size + 1) (w.alloc (objX 0 0)) W
noncomputable def restFi : Code := Code.second ((Try.f43.body.bind afterScope).getD .skip)
def slot8 (x : Act) : Nat := (intOf (x.tmps.getD 8 undef)).toNat
theorem fnd_none {x : Int} {L : List Pr} (h : findP x L none = none) : fndA x L = 0 ∧ fndL x L = 0 ∧ fndN x L = 0 ∧ fndB x L = false := by unfold fndA fndL fndN fndB; rw [h]; simp
theorem fnd_some {x : Int} {L : List Pr} {a l n : Int} (h : findP x L none = some ⟨a, l, n⟩) : fndA x L = a ∧ fndL x L = l ∧ fndN x L = n ∧ fndB x L = true := by unfold fndA fndL fndN fndB; rw [h]; simp
set_option maxRecDepth 100000 in
set_option maxHeartbeats 4000000 in
theorem find_yes (w : World) (N g cap : Nat) (most cnt : Int) (ns : List Nd) (ws : Nat → List Bool) (L : List Pr) (x : Int) (hT : TrM w N g cap most cnt ns) (hG : Good ns ws) (hH : Holds ns ws L) (hS : Srt L) (h0 : 0 ≤ x) (h1 : x < 4294967296) (q : Nat) (c : Act) (hq : slot8 c = q) (W : World) (hJ : FiJ w N ns ws x c W) (hh : ∀ (i : Nat) (y : Nd), c.tmps.getD 7 undef = .int .i64 (i : Int) → ns[i]? = some y → y.h = true) :
    Code.wp Try.prog restFi (Exit.jump 0 (fun a' w' => FiJ w N ns ws x a' w' ∧ 32 - slot8 a' < 32 - q) (bodyPost Try.prog Try.f43 (FindD w L x))) c W := by
  obtain ⟨i, k, f, e, v, u2, u3, u5, u6, u12, u13, u14, u15, u16, u17, u18, u19, u20, u21, u22, u23, u24, u25, u26, u27, u28, u29, u30, u31, u32, u33, u34, u35, u36, u37, u38, u39, u40, u41, u42, u43, u44, u45, u46, u47, u48, u49, u50, u51, u52, u53, u54, u55, u56, u57, rfl, hi, hk, hw, hbest, hB⟩ := hJ
  obtain ⟨y, hy⟩ := at_of_lt hi
  have hyh : y.h = true := hh i y rfl hy
  have HJ : Hid (Below (w.heap.size + 1) (w.alloc (objX 0 0)) W) := hB
  have HBw : Hid (Below w.heap.size w W) := out8 hB
  have HT : Hid (TrM w N g cap most cnt ns) := hT
  have hT' := hT.later HBw.out
  obtain ⟨z0, z1, z2, fz, -, -, -⟩ := hT'
  have HY : Hid (ns[i]? = some y) := hy
  have HG : Hid (Good ns ws) := hG
  have HW : Hid (ws i = wayX x k) := hw
  have HQ : Hid (k = q) := by unfold Hid; rw [← hq]; simp [slot8, intOf]
  obtain ⟨d0, d1, d2, d3, d4⟩ := (hT.later HBw.out).at hy
  rw [hyh] at d3
  have ca := (hT.cap_le).1
  have hgw := hT.g_lt
  have hNw := hT.lt
  have hNg := hT.ne
  have HBest : Hid (BestF ns ws x true i k (k + 1)) := bestF_has hbest hy hw hyh
  obtain ⟨s, hs1, hs2, hs3⟩ := downF hG h0 hy hw hk
  have y0 : W.cell? ⟨w.heap.size, 0, none⟩ = some (.int .u32 0) := hB.cell (p := ⟨w.heap.size, 0, none⟩) (Nat.lt_succ_self _) |>.trans (by simp [go_sem])
  have y1 : W.cell? ⟨w.heap.size, 1, none⟩ = some (.int .i64 0) := hB.cell (p := ⟨w.heap.size, 1, none⟩) (Nat.lt_succ_self _) |>.trans (by simp [go_sem])
  have yz : ∀ o, W.frozen? ⟨w.heap.size, o, none⟩ = false := fun o => (hB.frozen (p := ⟨w.heap.size, o, none⟩) (Nat.lt_succ_self _)).trans (by simp [go_sem])
  have HF : Hid (y.kid s = 0 → (true = false ∧ findP x L none = none) ∨ (true = true ∧ ∃ z : Nd, ns[i]? = some z ∧ k ≤ 32 ∧ findP x L none = some ⟨andM x k, (k : Int), z.n⟩)) := fun h => bestF_find hG hH hS h0 h1 HBest.out (hs2 h)
  obtain ⟨n, hn⟩ : ∃ n, ns.length = n := ⟨_, rfl⟩
  have HN : Hid (ns.length = n) := hn
  have HAh : Hid (y.kid s ≠ 0 → k < 32 ∧ y.kid s < n ∧ ws (y.kid s) = wayX x (k + 1)) := by rw [hn] at hs3; exact hs3
  rw [hn] at z0 hi ca
  have hi' : (i : Int) < (n : Int) := by omega
  clear hT hG hw hy hn hB hq hbest hs2 hs3 hH hS hh
  conv => arg 2; whnf
  cases s
  · have HBt : Hid (bitI x k = 0) := hs1
    clear hs1
    obtain ⟨c, hc⟩ : ∃ c, y.a = c := ⟨_, rfl⟩
    have HC : Hid (y.kid false = c) := hc
    rw [hc] at d0
    clear hc d1 d2 d4
    by_cases hc0 : c = 0
    · subst hc0
      have HF' := HF.out HC.out
      clear HF HAh
      obtain ⟨h, -⟩ | ⟨-, HFz⟩ := HF'
      · cases h
      · obtain ⟨z, hz, he32, hfs⟩ := HFz
        have HE : Hid (fndA x L = andM x k ∧ fndL x L = (k : Int) ∧ fndN x L = z.n ∧ fndB x L = true) := fnd_some hfs
        have HZ : Hid (ns[i]? = some z) := hz
        have HNn : Hid (ns.length = n) := HN
        have hfn : i < n := by rw [← HN.out]; exact lt_of_at hz
        have hfn' : (i : Int) < (n : Int) := by omega
        have HM : Hid (∀ V, Calls Try.prog 59 #[.int .u32 x, .int .i64 (k : Int)] V fun z w' => z = .returned (.tuple #[.agg #[.int .u32 (andM x k), .int .i64 (k : Int)], .int .i64 0]) ∧ w' = V.alloc (.cells #[.int .u32 (andM x k), .int .i64 (k : Int)] 24)) := fun V => by have := make_ok x (k : Int) V h0 h1 (by omega) (by omega); simpa using this
        clear hz hfs
        go_wp2
        go_quiet ((go_at_call 58; exact Calls.quiet_of_same (bit_any _ _ _ hk HBt.out)))
        go_wp2_with (go_at_call 59; refine (HM.out _).mono ?_; rintro e w' ⟨rfl, rfl⟩)
        clear HQ HN HG HBest hk hi hi' HY HW HBt HC
        obtain ⟨V, hV⟩ : ∃ V, V = ((W.drewN nq).alloc (objX (andM x k) (k : Int))).alloc (objX (andM x k) (k : Int)) := ⟨_, rfl⟩
        obtain ⟨B, hBe⟩ : ∃ B, B = W.heap.size + 1 := ⟨_, rfl⟩
        rw [← hV, ← hBe]
        have hBV : Below (w.heap.size + 1) (w.alloc (objX 0 0)) V := by
          rw [hV]
          have := HJ.out.size
          simp at this
          exact ((below_drewN HJ.out _).alloc (by simpa using this) _).alloc (by simp; omega) _
        have HBV : Hid (Below w.heap.size w V) := out8 hBV
        have hwB : w.heap.size < B := by have := HJ.out.size; simp at this; omega
        have p0 : V.cell? ⟨B, 0, none⟩ = some (.int .u32 (andM x k)) := by rw [hV, hBe]; simp [go_sem]
        have p1 : V.cell? ⟨B, 1, none⟩ = some (.int .i64 (k : Int)) := by rw [hV, hBe]; simp [go_sem]
        have z0 := (HT.out.later HBV.out).c0
        rw [HNn.out] at z0
        have dz := ((HT.out.later HBV.out).at HZ.out).2.2.2.2
        have y0 : V.cell? ⟨w.heap.size, 0, none⟩ = some (.int .u32 0) := hBV.cell (p := ⟨w.heap.size, 0, none⟩) (Nat.lt_succ_self _) |>.trans (by simp [go_sem])
        have y1 : V.cell? ⟨w.heap.size, 1, none⟩ = some (.int .i64 0) := hBV.cell (p := ⟨w.heap.size, 1, none⟩) (Nat.lt_succ_self _) |>.trans (by simp [go_sem])
        have yz : ∀ o, V.frozen? ⟨w.heap.size, o, none⟩ = false := fun o => (hBV.frozen (p := ⟨w.heap.size, o, none⟩) (Nat.lt_succ_self _)).trans (by simp [go_sem])
        obtain ⟨zn, hzn⟩ : ∃ zn, z.n = zn := ⟨_, rfl⟩
        have HZn : Hid (z.n = zn) := hzn
        rw [hzn] at dz
        clear hzn hV hBe
        have b1 : g ≠ w.heap.size := by omega
        have b2 : w.heap.size ≠ g := by omega
        have n1 : N ≠ w.heap.size := by omega
        have n2 : w.heap.size ≠ N := by omega
        have m1 : B ≠ w.heap.size := by omega
        have m2 : w.heap.size ≠ B := by omega
        have kp : ∀ u0 u1, ((V.setCell ⟨w.heap.size, 0, none⟩ u0).setCell ⟨w.heap.size, 1, none⟩ u1).cell? ⟨N, 0, none⟩ = some (.slice (some ⟨g, 0, none⟩) n cap) ∧ ((V.setCell ⟨w.heap.size, 0, none⟩ u0).setCell ⟨w.heap.size, 1, none⟩ u1).cell? ⟨g, i * 5 + 4, none⟩ = some (.int .i64 zn) ∧ ((V.setCell ⟨w.heap.size, 0, none⟩ u0).setCell ⟨w.heap.size, 1, none⟩ u1).cell? ⟨B, 0, none⟩ = some (.int .u32 (andM x k)) ∧ ((V.setCell ⟨w.heap.size, 0, none⟩ u0).setCell ⟨w.heap.size, 1, none⟩ u1).cell? ⟨B, 1, none⟩ = some (.int .i64 (k : Int)) := fun u0 u1 => by
          refine ⟨?_, ?_, ?_, ?_⟩ <;> rw [World.cell?_setCell_other _ _ _ _ (by simp <;> omega), World.cell?_setCell_other _ _ _ _ (by simp <;> omega)] <;> assumption
        go_region_held3 (fun w' => w'.cell? ⟨N, 0, none⟩ = some (.slice (some ⟨g, 0, none⟩) n cap) ∧ w'.cell? ⟨g, i * 5 + 4, none⟩ = some (.int .i64 zn) ∧ w'.cell? ⟨B, 0, none⟩ = some (.int .u32 (andM x k)) ∧ w'.cell? ⟨B, 1, none⟩ = some (.int .i64 (k : Int))) (first | exact ⟨z0, dz, p0, p1⟩ | exact kp _ _) (fail)
        all_goals
          go_wp2
          simp only [Exit.jump]
          refine bodyPost_ret (v := .tuple #[valX (andM x k) (k : Int), .int .i64 zn, .bool true]) (by simp [results, Try.results43, go_sem, y0, y1]) rfl ⟨?_, ((HBV.out.setCell (p := ⟨w.heap.size, 0, none⟩) (Nat.le_refl _) _).setCell (p := ⟨w.heap.size, 1, none⟩) (Nat.le_refl _) _).drew⟩
          rw [HE.out.1, HE.out.2.1, HE.out.2.2.1, HE.out.2.2.2, HZn.out]
    · have hc0' : ¬ (c : Int) = 0 := by omega
      have HA := HAh.out (by rw [HC.out]; exact hc0)
      rw [HC.out] at HA
      obtain ⟨ha1, ha2, ha3⟩ := HA
      have HA3 : Hid (ws c = wayX x (k + 1)) := ha3
      clear HAh HF ha3
      go_wp2
      go_quiet ((go_at_call 58; exact Calls.quiet_of_same (bit_any _ _ _ hk HBt.out)))
      go_wp2
      go_step3
      refine ⟨rfl, ⟨c, k + 1, _, _, _, _, _, _, _, _, _, _, _, _, _, _, _, _, _, _, _, _, _, _, _, _, _, _, _, _, _, _, _, _, _, _, _, _, _, _, _, _, _, _, _, _, _, _, _, _, _, _, _, _, _, rfl, by rw [HN.out]; exact ha2, by omega, HA3.out, HBest.out, below_drewN HJ.out _⟩, ?_⟩
      have := HQ.out
      simp [slot8, intOf]
      omega
  · have HBt : Hid (bitI x k = 1) := hs1
    clear hs1
    obtain ⟨c, hc⟩ : ∃ c, y.b = c := ⟨_, rfl⟩
    have HC : Hid (y.kid true = c) := hc
    rw [hc] at d1
    clear hc d0 d2 d4
    by_cases hc0 : c = 0
    · subst hc0
      have HF' := HF.out HC.out
      clear HF HAh
      obtain ⟨h, -⟩ | ⟨-, HFz⟩ := HF'
      · cases h
      · obtain ⟨z, hz, he32, hfs⟩ := HFz
        have HE : Hid (fndA x L = andM x k ∧ fndL x L = (k : Int) ∧ fndN x L = z.n ∧ fndB x L = true) := fnd_some hfs
        have HZ : Hid (ns[i]? = some z) := hz
        have HNn : Hid (ns.length = n) := HN
        have hfn : i < n := by rw [← HN.out]; exact lt_of_at hz
        have hfn' : (i : Int) < (n : Int) := by omega
        have HM : Hid (∀ V, Calls Try.prog 59 #[.int .u32 x, .int .i64 (k : Int)] V fun z w' => z = .returned (.tuple #[.agg #[.int .u32 (andM x k), .int .i64 (k : Int)], .int .i64 0]) ∧ w' = V.alloc (.cells #[.int .u32 (andM x k), .int .i64 (k : Int)] 24)) := fun V => by have := make_ok x (k : Int) V h0 h1 (by omega) (by omega); simpa using this
        clear hz hfs
        go_wp2
        go_quiet ((go_at_call 58; exact Calls.quiet_of_same (bit_any _ _ _ hk HBt.out)))
        go_wp2_with (go_at_call 59; refine (HM.out _).mono ?_; rintro e w' ⟨rfl, rfl⟩)
        clear HQ HN HG HBest hk hi hi' HY HW HBt HC
        obtain ⟨V, hV⟩ : ∃ V, V = ((W.drewN nq).alloc (objX (andM x k) (k : Int))).alloc (objX (andM x k) (k : Int)) := ⟨_, rfl⟩
        obtain ⟨B, hBe⟩ : ∃ B, B = W.heap.size + 1 := ⟨_, rfl⟩
        rw [← hV, ← hBe]
        have hBV : Below (w.heap.size + 1) (w.alloc (objX 0 0)) V := by
          rw [hV]
          have := HJ.out.size
          simp at this
          exact ((below_drewN HJ.out _).alloc (by simpa using this) _).alloc (by simp; omega) _
        have HBV : Hid (Below w.heap.size w V) := out8 hBV
        have hwB : w.heap.size < B := by have := HJ.out.size; simp at this; omega
        have p0 : V.cell? ⟨B, 0, none⟩ = some (.int .u32 (andM x k)) := by rw [hV, hBe]; simp [go_sem]
        have p1 : V.cell? ⟨B, 1, none⟩ = some (.int .i64 (k : Int)) := by rw [hV, hBe]; simp [go_sem]
        have z0 := (HT.out.later HBV.out).c0
        rw [HNn.out] at z0
        have dz := ((HT.out.later HBV.out).at HZ.out).2.2.2.2
        have y0 : V.cell? ⟨w.heap.size, 0, none⟩ = some (.int .u32 0) := hBV.cell (p := ⟨w.heap.size, 0, none⟩) (Nat.lt_succ_self _) |>.trans (by simp [go_sem])
        have y1 : V.cell? ⟨w.heap.size, 1, none⟩ = some (.int .i64 0) := hBV.cell (p := ⟨w.heap.size, 1, none⟩) (Nat.lt_succ_self _) |>.trans (by simp [go_sem])
        have yz : ∀ o, V.frozen? ⟨w.heap.size, o, none⟩ = false := fun o => (hBV.frozen (p := ⟨w.heap.size, o, none⟩) (Nat.lt_succ_self _)).trans (by simp [go_sem])
        obtain ⟨zn, hzn⟩ : ∃ zn, z.n = zn := ⟨_, rfl⟩
        have HZn : Hid (z.n = zn) := hzn
        rw [hzn] at dz
        clear hzn hV hBe
        have b1 : g ≠ w.heap.size := by omega
        have b2 : w.heap.size ≠ g := by omega
        have n1 : N ≠ w.heap.size := by omega
        have n2 : w.heap.size ≠ N := by omega
        have m1 : B ≠ w.heap.size := by omega
        have m2 : w.heap.size ≠ B := by omega
        have kp : ∀ u0 u1, ((V.setCell ⟨w.heap.size, 0, none⟩ u0).setCell ⟨w.heap.size, 1, none⟩ u1).cell? ⟨N, 0, none⟩ = some (.slice (some ⟨g, 0, none⟩) n cap) ∧ ((V.setCell ⟨w.heap.size, 0, none⟩ u0).setCell ⟨w.heap.size, 1, none⟩ u1).cell? ⟨g, i * 5 + 4, none⟩ = some (.int .i64 zn) ∧ ((V.setCell ⟨w.heap.size, 0, none⟩ u0).setCell ⟨w.heap.size, 1, none⟩ u1).cell? ⟨B, 0, none⟩ = some (.int .u32 (andM x k)) ∧ ((V.setCell ⟨w.heap.size, 0, none⟩ u0).setCell ⟨w.heap.size, 1, none⟩ u1).cell? ⟨B, 1, none⟩ = some (.int .i64 (k : Int)) := fun u0 u1 => by
          refine ⟨?_, ?_, ?_, ?_⟩ <;> rw [World.cell?_setCell_other _ _ _ _ (by simp <;> omega), World.cell?_setCell_other _ _ _ _ (by simp <;> omega)] <;> assumption
        go_region_held3 (fun w' => w'.cell? ⟨N, 0, none⟩ = some (.slice (some ⟨g, 0, none⟩) n cap) ∧ w'.cell? ⟨g, i * 5 + 4, none⟩ = some (.int .i64 zn) ∧ w'.cell? ⟨B, 0, none⟩ = some (.int .u32 (andM x k)) ∧ w'.cell? ⟨B, 1, none⟩ = some (.int .i64 (k : Int))) (first | exact ⟨z0, dz, p0, p1⟩ | exact kp _ _) (fail)
        all_goals
          go_wp2
          simp only [Exit.jump]
          refine bodyPost_ret (v := .tuple #[valX (andM x k) (k : Int), .int .i64 zn, .bool true]) (by simp [results, Try.results43, go_sem, y0, y1]) rfl ⟨?_, ((HBV.out.setCell (p := ⟨w.heap.size, 0, none⟩) (Nat.le_refl _) _).setCell (p := ⟨w.heap.size, 1, none⟩) (Nat.le_refl _) _).drew⟩
          rw [HE.out.1, HE.out.2.1, HE.out.2.2.1, HE.out.2.2.2, HZn.out]
    · have hc0' : ¬ (c : Int) = 0 := by omega
      have HA := HAh.out (by rw [HC.out]; exact hc0)
      rw [HC.out] at HA
      obtain ⟨ha1, ha2, ha3⟩ := HA
      have HA3 : Hid (ws c = wayX x (k + 1)) := ha3
      clear HAh HF ha3
      go_wp2
      go_quiet ((go_at_call 58; exact Calls.quiet_of_same (bit_any _ _ _ hk HBt.out)))
      go_wp2
      go_step3
      refine ⟨rfl, ⟨c, k + 1, _, _, _, _, _, _, _, _, _, _, _, _, _, _, _, _, _, _, _, _, _, _, _, _, _, _, _, _, _, _, _, _, _, _, _, _, _, _, _, _, _, _, _, _, _, _, _, _, _, _, _, _, _, rfl, by rw [HN.out]; exact ha2, by omega, HA3.out, HBest.out, below_drewN HJ.out _⟩, ?_⟩
      have := HQ.out
      simp [slot8, intOf]
      omega
set_option maxRecDepth 100000 in
set_option maxHeartbeats 4000000 in
theorem find_no (w : World) (N g cap : Nat) (most cnt : Int) (ns : List Nd) (ws : Nat → List Bool) (L : List Pr) (x : Int) (hT : TrM w N g cap most cnt ns) (hG : Good ns ws) (hH : Holds ns ws L) (hS : Srt L) (h0 : 0 ≤ x) (h1 : x < 4294967296) (q : Nat) (c : Act) (hq : slot8 c = q) (W : World) (hJ : FiJ w N ns ws x c W) (hh : ∀ (i : Nat) (y : Nd), c.tmps.getD 7 undef = .int .i64 (i : Int) → ns[i]? = some y → y.h = false) :
    Code.wp Try.prog restFi (Exit.jump 0 (fun a' w' => FiJ w N ns ws x a' w' ∧ 32 - slot8 a' < 32 - q) (bodyPost Try.prog Try.f43 (FindD w L x))) c W := by
  obtain ⟨i, k, f, e, v, u2, u3, u5, u6, u12, u13, u14, u15, u16, u17, u18, u19, u20, u21, u22, u23, u24, u25, u26, u27, u28, u29, u30, u31, u32, u33, u34, u35, u36, u37, u38, u39, u40, u41, u42, u43, u44, u45, u46, u47, u48, u49, u50, u51, u52, u53, u54, u55, u56, u57, rfl, hi, hk, hw, hbest, hB⟩ := hJ
  obtain ⟨y, hy⟩ := at_of_lt hi
  have hyh : y.h = false := hh i y rfl hy
  have HJ : Hid (Below (w.heap.size + 1) (w.alloc (objX 0 0)) W) := hB
  have HBw : Hid (Below w.heap.size w W) := out8 hB
  have HT : Hid (TrM w N g cap most cnt ns) := hT
  have hT' := hT.later HBw.out
  obtain ⟨z0, z1, z2, fz, -, -, -⟩ := hT'
  have HY : Hid (ns[i]? = some y) := hy
  have HG : Hid (Good ns ws) := hG
  have HW : Hid (ws i = wayX x k) := hw
  have HQ : Hid (k = q) := by unfold Hid; rw [← hq]; simp [slot8, intOf]
  obtain ⟨d0, d1, d2, d3, d4⟩ := (hT.later HBw.out).at hy
  rw [hyh] at d3
  have ca := (hT.cap_le).1
  have hgw := hT.g_lt
  have hNw := hT.lt
  have hNg := hT.ne
  have HBest : Hid (BestF ns ws x v f e (k + 1)) := bestF_not hG hbest hy hw hyh
  obtain ⟨s, hs1, hs2, hs3⟩ := downF hG h0 hy hw hk
  have y0 : W.cell? ⟨w.heap.size, 0, none⟩ = some (.int .u32 0) := hB.cell (p := ⟨w.heap.size, 0, none⟩) (Nat.lt_succ_self _) |>.trans (by simp [go_sem])
  have y1 : W.cell? ⟨w.heap.size, 1, none⟩ = some (.int .i64 0) := hB.cell (p := ⟨w.heap.size, 1, none⟩) (Nat.lt_succ_self _) |>.trans (by simp [go_sem])
  have yz : ∀ o, W.frozen? ⟨w.heap.size, o, none⟩ = false := fun o => (hB.frozen (p := ⟨w.heap.size, o, none⟩) (Nat.lt_succ_self _)).trans (by simp [go_sem])
  have HF : Hid (y.kid s = 0 → (v = false ∧ findP x L none = none) ∨ (v = true ∧ ∃ z : Nd, ns[f]? = some z ∧ e ≤ 32 ∧ findP x L none = some ⟨andM x e, (e : Int), z.n⟩)) := fun h => bestF_find hG hH hS h0 h1 HBest.out (hs2 h)
  obtain ⟨n, hn⟩ : ∃ n, ns.length = n := ⟨_, rfl⟩
  have HN : Hid (ns.length = n) := hn
  have HAh : Hid (y.kid s ≠ 0 → k < 32 ∧ y.kid s < n ∧ ws (y.kid s) = wayX x (k + 1)) := by rw [hn] at hs3; exact hs3
  rw [hn] at z0 hi ca
  have hi' : (i : Int) < (n : Int) := by omega
  clear hT hG hw hy hn hB hq hbest hs2 hs3 hH hS hh
  conv => arg 2; whnf
  cases s
  · have HBt : Hid (bitI x k = 0) := hs1
    clear hs1
    obtain ⟨c, hc⟩ : ∃ c, y.a = c := ⟨_, rfl⟩
    have HC : Hid (y.kid false = c) := hc
    rw [hc] at d0
    clear hc d1 d2 d4
    by_cases hc0 : c = 0
    · subst hc0
      have HF' := HF.out HC.out
      clear HF HAh
      obtain ⟨rfl, hfn⟩ | ⟨rfl, HFz⟩ := HF'
      · have HFn : Hid (findP x L none = none) := hfn
        clear hfn
        go_wp2
        go_quiet ((go_at_call 58; exact Calls.quiet_of_same (bit_any _ _ _ hk HBt.out)))
        go_wp2
        simp only [Exit.jump]
        refine bodyPost_ret (v := .tuple #[valX 0 0, .int .i64 0, .bool false]) (by simp [results, Try.results43, go_sem, y0, y1]) rfl ⟨?_, ((below_drewN HBw.out _).setCell (p := ⟨w.heap.size, 0, none⟩) (Nat.le_refl _) _).setCell (p := ⟨w.heap.size, 1, none⟩) (Nat.le_refl _) _⟩
        have HE := fnd_none HFn.out
        rw [HE.1, HE.2.1, HE.2.2.1, HE.2.2.2]
      · obtain ⟨z, hz, he32, hfs⟩ := HFz
        have HE : Hid (fndA x L = andM x e ∧ fndL x L = (e : Int) ∧ fndN x L = z.n ∧ fndB x L = true) := fnd_some hfs
        have HZ : Hid (ns[f]? = some z) := hz
        have HNn : Hid (ns.length = n) := HN
        have hfn : f < n := by rw [← HN.out]; exact lt_of_at hz
        have hfn' : (f : Int) < (n : Int) := by omega
        have HM : Hid (∀ V, Calls Try.prog 59 #[.int .u32 x, .int .i64 (e : Int)] V fun z w' => z = .returned (.tuple #[.agg #[.int .u32 (andM x e), .int .i64 (e : Int)], .int .i64 0]) ∧ w' = V.alloc (.cells #[.int .u32 (andM x e), .int .i64 (e : Int)] 24)) := fun V => by have := make_ok x (e : Int) V h0 h1 (by omega) (by omega); simpa using this
        clear hz hfs
        go_wp2
        go_quiet ((go_at_call 58; exact Calls.quiet_of_same (bit_any _ _ _ hk HBt.out)))
        go_wp2_with (go_at_call 59; refine (HM.out _).mono ?_; rintro e w' ⟨rfl, rfl⟩)
        clear HQ HN HG HBest hk hi hi' HY HW HBt HC
        obtain ⟨V, hV⟩ : ∃ V, V = ((W.drewN nq).alloc (objX (andM x e) (e : Int))).alloc (objX (andM x e) (e : Int)) := ⟨_, rfl⟩
        obtain ⟨B, hBe⟩ : ∃ B, B = W.heap.size + 1 := ⟨_, rfl⟩
        rw [← hV, ← hBe]
        have hBV : Below (w.heap.size + 1) (w.alloc (objX 0 0)) V := by
          rw [hV]
          have := HJ.out.size
          simp at this
          exact ((below_drewN HJ.out _).alloc (by simpa using this) _).alloc (by simp; omega) _
        have HBV : Hid (Below w.heap.size w V) := out8 hBV
        have hwB : w.heap.size < B := by have := HJ.out.size; simp at this; omega
        have p0 : V.cell? ⟨B, 0, none⟩ = some (.int .u32 (andM x e)) := by rw [hV, hBe]; simp [go_sem]
        have p1 : V.cell? ⟨B, 1, none⟩ = some (.int .i64 (e : Int)) := by rw [hV, hBe]; simp [go_sem]
        have z0 := (HT.out.later HBV.out).c0
        rw [HNn.out] at z0
        have dz := ((HT.out.later HBV.out).at HZ.out).2.2.2.2
        have y0 : V.cell? ⟨w.heap.size, 0, none⟩ = some (.int .u32 0) := hBV.cell (p := ⟨w.heap.size, 0, none⟩) (Nat.lt_succ_self _) |>.trans (by simp [go_sem])
        have y1 : V.cell? ⟨w.heap.size, 1, none⟩ = some (.int .i64 0) := hBV.cell (p := ⟨w.heap.size, 1, none⟩) (Nat.lt_succ_self _) |>.trans (by simp [go_sem])
        have yz : ∀ o, V.frozen? ⟨w.heap.size, o, none⟩ = false := fun o => (hBV.frozen (p := ⟨w.heap.size, o, none⟩) (Nat.lt_succ_self _)).trans (by simp [go_sem])
        obtain ⟨zn, hzn⟩ : ∃ zn, z.n = zn := ⟨_, rfl⟩
        have HZn : Hid (z.n = zn) := hzn
        rw [hzn] at dz
        clear hzn hV hBe
        have b1 : g ≠ w.heap.size := by omega
        have b2 : w.heap.size ≠ g := by omega
        have n1 : N ≠ w.heap.size := by omega
        have n2 : w.heap.size ≠ N := by omega
        have m1 : B ≠ w.heap.size := by omega
        have m2 : w.heap.size ≠ B := by omega
        have kp : ∀ u0 u1, ((V.setCell ⟨w.heap.size, 0, none⟩ u0).setCell ⟨w.heap.size, 1, none⟩ u1).cell? ⟨N, 0, none⟩ = some (.slice (some ⟨g, 0, none⟩) n cap) ∧ ((V.setCell ⟨w.heap.size, 0, none⟩ u0).setCell ⟨w.heap.size, 1, none⟩ u1).cell? ⟨g, f * 5 + 4, none⟩ = some (.int .i64 zn) ∧ ((V.setCell ⟨w.heap.size, 0, none⟩ u0).setCell ⟨w.heap.size, 1, none⟩ u1).cell? ⟨B, 0, none⟩ = some (.int .u32 (andM x e)) ∧ ((V.setCell ⟨w.heap.size, 0, none⟩ u0).setCell ⟨w.heap.size, 1, none⟩ u1).cell? ⟨B, 1, none⟩ = some (.int .i64 (e : Int)) := fun u0 u1 => by
          refine ⟨?_, ?_, ?_, ?_⟩ <;> rw [World.cell?_setCell_other _ _ _ _ (by simp <;> omega), World.cell?_setCell_other _ _ _ _ (by simp <;> omega)] <;> assumption
        go_region_held3 (fun w' => w'.cell? ⟨N, 0, none⟩ = some (.slice (some ⟨g, 0, none⟩) n cap) ∧ w'.cell? ⟨g, f * 5 + 4, none⟩ = some (.int .i64 zn) ∧ w'.cell? ⟨B, 0, none⟩ = some (.int .u32 (andM x e)) ∧ w'.cell? ⟨B, 1, none⟩ = some (.int .i64 (e : Int))) (first | exact ⟨z0, dz, p0, p1⟩ | exact kp _ _) (fail)
        all_goals
          go_wp2
          simp only [Exit.jump]
          refine bodyPost_ret (v := .tuple #[valX (andM x e) (e : Int), .int .i64 zn, .bool true]) (by simp [results, Try.results43, go_sem, y0, y1]) rfl ⟨?_, ((HBV.out.setCell (p := ⟨w.heap.size, 0, none⟩) (Nat.le_refl _) _).setCell (p := ⟨w.heap.size, 1, none⟩) (Nat.le_refl _) _).drew⟩
          rw [HE.out.1, HE.out.2.1, HE.out.2.2.1, HE.out.2.2.2, HZn.out]
    · have hc0' : ¬ (c : Int) = 0 := by omega
      have HA := HAh.out (by rw [HC.out]; exact hc0)
      rw [HC.out] at HA
      obtain ⟨ha1, ha2, ha3⟩ := HA
      have HA3 : Hid (ws c = wayX x (k + 1)) := ha3
      clear HAh HF ha3
      go_wp2
      go_quiet ((go_at_call 58; exact Calls.quiet_of_same (bit_any _ _ _ hk HBt.out)))
      go_wp2
      go_step3
      refine ⟨rfl, ⟨c, k + 1, _, _, _, _, _, _, _, _, _, _, _, _, _, _, _, _, _, _, _, _, _, _, _, _, _, _, _, _, _, _, _, _, _, _, _, _, _, _, _, _, _, _, _, _, _, _, _, _, _, _, _, _, _, rfl, by rw [HN.out]; exact ha2, by omega, HA3.out, HBest.out, below_drewN HJ.out _⟩, ?_⟩
      have := HQ.out
      simp [slot8, intOf]
      omega
  · have HBt : Hid (bitI x k = 1) := hs1
    clear hs1
    obtain ⟨c, hc⟩ : ∃ c, y.b = c := ⟨_, rfl⟩
    have HC : Hid (y.kid true = c) := hc
    rw [hc] at d1
    clear hc d0 d2 d4
    by_cases hc0 : c = 0
    · subst hc0
      have HF' := HF.out HC.out
      clear HF HAh
      obtain ⟨rfl, hfn⟩ | ⟨rfl, HFz⟩ := HF'
      · have HFn : Hid (findP x L none = none) := hfn
        clear hfn
        go_wp2
        go_quiet ((go_at_call 58; exact Calls.quiet_of_same (bit_any _ _ _ hk HBt.out)))
        go_wp2
        simp only [Exit.jump]
        refine bodyPost_ret (v := .tuple #[valX 0 0, .int .i64 0, .bool false]) (by simp [results, Try.results43, go_sem, y0, y1]) rfl ⟨?_, ((below_drewN HBw.out _).setCell (p := ⟨w.heap.size, 0, none⟩) (Nat.le_refl _) _).setCell (p := ⟨w.heap.size, 1, none⟩) (Nat.le_refl _) _⟩
        have HE := fnd_none HFn.out
        rw [HE.1, HE.2.1, HE.2.2.1, HE.2.2.2]
      · obtain ⟨z, hz, he32, hfs⟩ := HFz
        have HE : Hid (fndA x L = andM x e ∧ fndL x L = (e : Int) ∧ fndN x L = z.n ∧ fndB x L = true) := fnd_some hfs
        have HZ : Hid (ns[f]? = some z) := hz
        have HNn : Hid (ns.length = n) := HN
        have hfn : f < n := by rw [← HN.out]; exact lt_of_at hz
        have hfn' : (f : Int) < (n : Int) := by omega
        have HM : Hid (∀ V, Calls Try.prog 59 #[.int .u32 x, .int .i64 (e : Int)] V fun z w' => z = .returned (.tuple #[.agg #[.int .u32 (andM x e), .int .i64 (e : Int)], .int .i64 0]) ∧ w' = V.alloc (.cells #[.int .u32 (andM x e), .int .i64 (e : Int)] 24)) := fun V => by have := make_ok x (e : Int) V h0 h1 (by omega) (by omega); simpa using this
        clear hz hfs
        go_wp2
        go_quiet ((go_at_call 58; exact Calls.quiet_of_same (bit_any _ _ _ hk HBt.out)))
        go_wp2_with (go_at_call 59; refine (HM.out _).mono ?_; rintro e w' ⟨rfl, rfl⟩)
        clear HQ HN HG HBest hk hi hi' HY HW HBt HC
        obtain ⟨V, hV⟩ : ∃ V, V = ((W.drewN nq).alloc (objX (andM x e) (e : Int))).alloc (objX (andM x e) (e : Int)) := ⟨_, rfl⟩
        obtain ⟨B, hBe⟩ : ∃ B, B = W.heap.size + 1 := ⟨_, rfl⟩
        rw [← hV, ← hBe]
        have hBV : Below (w.heap.size + 1) (w.alloc (objX 0 0)) V := by
          rw [hV]
          have := HJ.out.size
          simp at this
          exact ((below_drewN HJ.out _).alloc (by simpa using this) _).alloc (by simp; omega) _
        have HBV : Hid (Below w.heap.size w V) := out8 hBV
        have hwB : w.heap.size < B := by have := HJ.out.size; simp at this; omega
        have p0 : V.cell? ⟨B, 0, none⟩ = some (.int .u32 (andM x e)) := by rw [hV, hBe]; simp [go_sem]
        have p1 : V.cell? ⟨B, 1, none⟩ = some (.int .i64 (e : Int)) := by rw [hV, hBe]; simp [go_sem]
        have z0 := (HT.out.later HBV.out).c0
        rw [HNn.out] at z0
        have dz := ((HT.out.later HBV.out).at HZ.out).2.2.2.2
        have y0 : V.cell? ⟨w.heap.size, 0, none⟩ = some (.int .u32 0) := hBV.cell (p := ⟨w.heap.size, 0, none⟩) (Nat.lt_succ_self _) |>.trans (by simp [go_sem])
        have y1 : V.cell? ⟨w.heap.size, 1, none⟩ = some (.int .i64 0) := hBV.cell (p := ⟨w.heap.size, 1, none⟩) (Nat.lt_succ_self _) |>.trans (by simp [go_sem])
        have yz : ∀ o, V.frozen? ⟨w.heap.size, o, none⟩ = false := fun o => (hBV.frozen (p := ⟨w.heap.size, o, none⟩) (Nat.lt_succ_self _)).trans (by simp [go_sem])
        obtain ⟨zn, hzn⟩ : ∃ zn, z.n = zn := ⟨_, rfl⟩
        have HZn : Hid (z.n = zn) := hzn
        rw [hzn] at dz
        clear hzn hV hBe
        have b1 : g ≠ w.heap.size := by omega
        have b2 : w.heap.size ≠ g := by omega
        have n1 : N ≠ w.heap.size := by omega
        have n2 : w.heap.size ≠ N := by omega
        have m1 : B ≠ w.heap.size := by omega
        have m2 : w.heap.size ≠ B := by omega
        have kp : ∀ u0 u1, ((V.setCell ⟨w.heap.size, 0, none⟩ u0).setCell ⟨w.heap.size, 1, none⟩ u1).cell? ⟨N, 0, none⟩ = some (.slice (some ⟨g, 0, none⟩) n cap) ∧ ((V.setCell ⟨w.heap.size, 0, none⟩ u0).setCell ⟨w.heap.size, 1, none⟩ u1).cell? ⟨g, f * 5 + 4, none⟩ = some (.int .i64 zn) ∧ ((V.setCell ⟨w.heap.size, 0, none⟩ u0).setCell ⟨w.heap.size, 1, none⟩ u1).cell? ⟨B, 0, none⟩ = some (.int .u32 (andM x e)) ∧ ((V.setCell ⟨w.heap.size, 0, none⟩ u0).setCell ⟨w.heap.size, 1, none⟩ u1).cell? ⟨B, 1, none⟩ = some (.int .i64 (e : Int)) := fun u0 u1 => by
          refine ⟨?_, ?_, ?_, ?_⟩ <;> rw [World.cell?_setCell_other _ _ _ _ (by simp <;> omega), World.cell?_setCell_other _ _ _ _ (by simp <;> omega)] <;> assumption
        go_region_held3 (fun w' => w'.cell? ⟨N, 0, none⟩ = some (.slice (some ⟨g, 0, none⟩) n cap) ∧ w'.cell? ⟨g, f * 5 + 4, none⟩ = some (.int .i64 zn) ∧ w'.cell? ⟨B, 0, none⟩ = some (.int .u32 (andM x e)) ∧ w'.cell? ⟨B, 1, none⟩ = some (.int .i64 (e : Int))) (first | exact ⟨z0, dz, p0, p1⟩ | exact kp _ _) (fail)
        all_goals
          go_wp2
          simp only [Exit.jump]
          refine bodyPost_ret (v := .tuple #[valX (andM x e) (e : Int), .int .i64 zn, .bool true]) (by simp [results, Try.results43, go_sem, y0, y1]) rfl ⟨?_, ((HBV.out.setCell (p := ⟨w.heap.size, 0, none⟩) (Nat.le_refl _) _).setCell (p := ⟨w.heap.size, 1, none⟩) (Nat.le_refl _) _).drew⟩
          rw [HE.out.1, HE.out.2.1, HE.out.2.2.1, HE.out.2.2.2, HZn.out]
    · have hc0' : ¬ (c : Int) = 0 := by omega
      have HA := HAh.out (by rw [HC.out]; exact hc0)
      rw [HC.out] at HA
      obtain ⟨ha1, ha2, ha3⟩ := HA
      have HA3 : Hid (ws c = wayX x (k + 1)) := ha3
      clear HAh HF ha3
      go_wp2
      go_quiet ((go_at_call 58; exact Calls.quiet_of_same (bit_any _ _ _ hk HBt.out)))
      go_wp2
      go_step3
      refine ⟨rfl, ⟨c, k + 1, _, _, _, _, _, _, _, _, _, _, _, _, _, _, _, _, _, _, _, _, _, _, _, _, _, _, _, _, _, _, _, _, _, _, _, _, _, _, _, _, _, _, _, _, _, _, _, _, _, _, _, _, _, rfl, by rw [HN.out]; exact ha2, by omega, HA3.out, HBest.out, below_drewN HJ.out _⟩, ?_⟩
      have := HQ.out
      simp [slot8, intOf]
      omega
theorem find_pass (w : World) (N g cap : Nat) (most cnt : Int) (ns : List Nd) (ws : Nat → List Bool) (L : List Pr) (x : Int) (hT : TrM w N g cap most cnt ns) (hG : Good ns ws) (hH : Holds ns ws L) (hS : Srt L) (h0 : 0 ≤ x) (h1 : x < 4294967296) (q : Nat) (c : Act) (hq : slot8 c = q) (W : World) (hJ : FiJ w N ns ws x c W) :
    Code.wp Try.prog restFi (Exit.jump 0 (fun a' w' => FiJ w N ns ws x a' w' ∧ 32 - slot8 a' < 32 - q) (bodyPost Try.prog Try.f43 (FindD w L x))) c W := by
  have hJ' := hJ
  obtain ⟨i, k, f, e, v, u2, u3, u5, u6, u12, u13, u14, u15, u16, u17, u18, u19, u20, u21, u22, u23, u24, u25, u26, u27, u28, u29, u30, u31, u32, u33, u34, u35, u36, u37, u38, u39, u40, u41, u42, u43, u44, u45, u46, u47, u48, u49, u50, u51, u52, u53, u54, u55, u56, u57, he, hi, -⟩ := hJ'
  obtain ⟨y, hy⟩ := at_of_lt hi
  have hc : ∀ (j : Nat) (z : Nd), c.tmps.getD 7 undef = .int .i64 (j : Int) → ns[j]? = some z → z.h = y.h := by
    intro j z hj hz
    rw [he] at hj
    have : (Value.int .i64 (i : Int)) = .int .i64 (j : Int) := hj
    simp at this
    have : i = j := by omega
    subst this
    rw [hy] at hz; cases hz; rfl
  cases hh : y.h
  · exact find_no w N g cap most cnt ns ws L x hT hG hH hS h0 h1 q c hq W hJ fun j z hj hz => (hc j z hj hz).trans hh
  · exact find_yes w N g cap most cnt ns ws L x hT hG hH hS h0 h1 q c hq W hJ fun j z hj hz => (hc j z hj hz).trans hh
set_option maxHeartbeats 1000000 in
theorem find_any (N g cap : Nat) (most cnt : Int) (ns : List Nd) (ws : Nat → List Bool) (L : List Pr) (x : Int) (w : World) (hT : TrM w N g cap most cnt ns) (hG : Good ns ws) (hH : Holds ns ws L) (hS : Srt L) (h0 : 0 ≤ x) (h1 : x < 4294967296) :
    Calls Try.prog 43 #[.pointer (some ⟨N, 0, none⟩), .int .u32 x] w (FindD w L x) := by
  have PASS : Hid (_) := find_pass w N g cap most cnt ns ws L x hT hG hH hS h0 h1
  have HR : Hid (0 < ns.length ∧ ws 0 = []) := ⟨hG.r, hG.w⟩
  clear hT hG hH hS
  go_enter Try.func43, Try.ntmps43
  go_wp2
  refine wp_scope_jumps 0 (FiJ w N ns ws x) (fun a' _ => 32 - slot8 a') rfl ?_ ?_
  rotate_left
  · intro a' W' hJ
    exact wp_seq (wp_skip (PASS.out _ a' rfl W' hJ))
  go_wp2
  go_step3
  rename_i K hK
  refine hK _ _ (wp_mono (PASS.out _ _ rfl _ ?_) (jump_mono fun a w h => h.1))
  exact ⟨0, 0, 0, 0, false, _, _, _, _, _, _, _, _, _, _, _, _, _, _, _, _, _, _, _, _, _, _, _, _, _, _, _, _, _, _, _, _, _, _, _, _, _, _, _, _, _, _, _, _, _, _, _, _, _, _, rfl, HR.out.1, Nat.zero_le _, by rw [HR.out.2]; rfl, bestF_start _ _ _, Below.refl _ _⟩
end Go.Proofs.Ytcabeclbdjfoaaa
