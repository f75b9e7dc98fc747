/- Bytes of one's own; the contracts of num's Put32 and Get32, of bytes.Clone, of encode and decode. -/
import Derived.Test.YtofmgkpghkeegaaJouB
import Derived.Test.YtofmgkpghkeegaaProK
import Derived.Test.YtofmgkpghkeegaaJouP
import Derived.Test.YtofmgkpghkeegaaReg
import Derived.Deep.RegionLaw
namespace Go.Proofs.Ytofmgkpghkeegaa
open Go.RowKit

theorem Own8.same {W W' : World} {base : Nat} {e : TypeId} {v : Value} {n : Nat} {l : List Int} (h : Own8 W base e v n l) (hb : ∀ g, v.ownBlock = some g → W'.heap[g]? = W.heap[g]?) : Own8 W' base e v n l := by
  refine ⟨h.1, ?_⟩
  rcases h.2 with hn | ⟨g, cap, cur, hv, hbg, hg, r⟩
  · exact .inl hn
  · refine .inr ⟨g, cap, cur, hv, hbg, ?_, r⟩
    rw [hb g (by rw [hv]; rfl)]
    exact hg
theorem Own8.own_lt {W : World} {base : Nat} {e : TypeId} {v : Value} {n : Nat} {l : List Int} (h : Own8 W base e v n l) {g : Nat} (hg : v.ownBlock = some g) : g < W.heap.size := (World.ownsRow.lt h g hg).2
theorem Own8.base {w : World} {b b' : Nat} {e : TypeId} {v : Value} {n : Nat} {l : List Int} (h : Own8 w b e v n l) (hb : b' ≤ b) : Own8 w b' e v n l := by
  refine ⟨h.1, ?_⟩
  rcases h.2 with hn | ⟨g, cap, cur, hv, hbg, r⟩
  · exact .inl hn
  · exact .inr ⟨g, cap, cur, hv, Nat.le_trans hb hbg, r⟩
theorem Own8.cap_le {w : World} {base n cap : Nat} {e : TypeId} {ad : Option Addr} {l : List Int} (h : Own8 w base e (.slice ad n cap) n l) : n ≤ cap := by
  rcases h.2 with ⟨e, e'⟩ | ⟨g, c, cur, hv, _, _, hle, _⟩
  · simp only [Value.slice.injEq] at e; omega
  · simp only [Value.slice.injEq] at hv; omega
theorem Own8.nil_or {w : World} {base n cap : Nat} {e : TypeId} {ad : Option Addr} {l : List Int} (h : Own8 w base e (.slice ad n cap) n l) : (ad = none ∧ n = 0 ∧ cap = 0) ∨ ∃ g, ad = some ⟨g, 0, none⟩ := by
  rcases h.2 with ⟨e, e'⟩ | ⟨g, c, cur, hv, _⟩
  · simp only [Value.slice.injEq] at e; exact .inl ⟨e.1, e.2.1, e.2.2⟩
  · simp only [Value.slice.injEq] at hv; exact .inr ⟨g, hv.1⟩
/-- A shorter slice of the same row. -/
theorem Own8.cut {w : World} {base n cap : Nat} {e : TypeId} {ad : Option Addr} {l : List Int} (h : Own8 w base e (.slice ad n cap) n l) {k : Nat} (hk : k ≤ n) : Own8 w base e (.slice ad k cap) k (l.take k) := by
  have hl := h.len
  refine ⟨by simp; omega, ?_⟩
  rcases h.2 with ⟨e, e'⟩ | ⟨g, c, cur, hv, hb, hg, h1, h2, h3, h4⟩
  · simp only [Value.slice.injEq] at e
    obtain ⟨rfl, -, rfl⟩ := e
    obtain rfl : k = 0 := by omega
    exact .inl ⟨rfl, rfl⟩
  · simp only [Value.slice.injEq] at hv
    obtain ⟨rfl, -, rfl⟩ := hv
    refine .inr ⟨g, cap, cur, rfl, hb, hg, by omega, h2, h3, ?_⟩
    have h5 : cur.toList.take (k * 1) = (cur.toList.take (n * 1)).take (k * 1) := by rw [List.take_take]; congr 1; omega
    rw [h5, h4, List.map_take, Nat.mul_one]
theorem Row8.take {w : World} {a : Option Addr} {n : Nat} {l : List Int} (h : Row8 w a n l) (k : Nat) (hk : k ≤ n) : Row8 w a k (l.take k) := by
  refine ⟨by rw [List.length_take, h.1]; omega, by have := h.2.1; omega, fun x hx => h.2.2.1 x (List.mem_of_mem_take hx), fun i hi => ?_⟩
  obtain ⟨b, off, e, hc⟩ := h.2.2.2 i (by omega)
  refine ⟨b, off, e, ?_⟩
  rw [hc, List.getElem?_take_of_lt hi]
theorem Row8.drop {w : World} {b off n : Nat} {l : List Int} (h : Row8 w (some ⟨b, off, none⟩) n l) (k : Nat) (hk : k ≤ n) : Row8 w (some ⟨b, off + k, none⟩) (n - k) (l.drop k) := by
  refine ⟨by rw [List.length_drop, h.1], by have := h.2.1; omega, fun x hx => h.2.2.1 x (List.mem_of_mem_drop hx), fun i hi => ?_⟩
  obtain ⟨b', off', e, hc⟩ := h.2.2.2 (k + i) (by omega)
  simp only [Option.some.injEq, Addr.mk.injEq, and_true] at e
  obtain ⟨rfl, rfl⟩ := e
  refine ⟨b, off + k, rfl, ?_⟩
  rw [List.getElem?_drop, Nat.add_assoc, hc]
theorem row8_later {w w' : World} {a : Option Addr} {n : Nat} {l : List Int} (h : Row8 w a n l) (hb : Below w.heap.size w w') : Row8 w' a n l :=
  ⟨h.1, h.2.1, h.2.2.1, fun i hi => by obtain ⟨b, off, e, hc⟩ := h.2.2.2 i hi; exact ⟨b, off, e, cell_later hb hc⟩⟩
section
variable {P : Program} (w : World)
theorem run_app8g (base : Nat) (t ty e : TypeId) (ht : P.underlying t = some (.slice e)) (hinfo : (P.info? e).map (fun i => (i.zero, i.size, i.bytes)) = some (some (.int .u8 0), 1, 1))
    (v : Value) (n : Nat) (l1 : List Int) (hown : Own8 w base e v n l1) (ad : Option Addr) (m c : Nat) (l2 : List Int) (h2 : Row8 w ad m l2) (hlen : n + m ≤ 100000) (hbase : base ≤ w.heap.size) :
    ∃ a' c' w', (Builtin.append_ #[t, t] ty #[v, .slice ad m c]).run P w = .ok (.slice a' (n + m) c') w' ∧ Own8 w' base e (.slice a' (n + m) c') (n + m) (l1 ++ l2) ∧ w.grownBy w' v.ownBlock ∧ ((Value.slice a' (n + m) c').ownBlock = v.ownBlock ∨ (Value.slice a' (n + m) c').ownBlock = some w.heap.size) := by
  obtain ⟨i, hi, hzz⟩ := Option.map_eq_some_iff.1 hinfo
  simp only [Prod.mk.injEq] at hzz
  obtain ⟨hz, hs, hb⟩ := hzz
  obtain ⟨hl2, _, _, hc2⟩ := h2
  cases ad with
  | none =>
    have hm : m = 0 := by
      rcases Nat.eq_zero_or_pos m with h | h
      · exact h
      · obtain ⟨_, _, h, _⟩ := hc2 0 h; cases h
    subst hm
    obtain rfl : l2 = [] := List.eq_nil_of_length_eq_zero hl2
    obtain ⟨a', c', rfl⟩ := hown.shape
    exact ⟨a', c', w, run_app8_nil w t ty e i ht hi base _ n l1 hown c, by simpa using hown, grown_refl _ _, .inl rfl⟩
  | some x =>
    have hnews : ∀ j u, (l2.map (Value.int .u8))[j]? = some u → w.cell? (x.add j) = some u := by
      intro j u hj
      have hjl : j < l2.length := by
        rcases Nat.lt_or_ge j l2.length with h | h
        · exact h
        · simp [List.getElem?_eq_none h] at hj
      obtain ⟨b, off, e1, hc⟩ := hc2 j (by omega)
      simp only [Option.some.injEq] at e1
      subst e1
      rw [Go.WideShapes.add_plain, hc]
      simpa [List.getElem?_eq_getElem hjl] using hj
    obtain ⟨v', w', hr, h3, h4, _, hat⟩ := run_append_own_at (P := P) w base t ty e i (.int .u8 0) 1 1 ht hi hz hs hb rfl (by decide) v n _ hown x m c (l2.map (Value.int .u8)) (by simp [hl2]) hnews
      (by intro u hu; obtain ⟨k, _, rfl⟩ := List.mem_map.1 hu; rfl) (by unfold maxLen; omega) (by omega) hbase
    have h5 : Own8 w' base e v' (n + m) (l1 ++ l2) := by unfold Own8; rw [List.map_append]; exact h3
    obtain ⟨a', c', rfl⟩ := h5.shape
    exact ⟨a', c', w', hr, h5, h4, hat⟩
theorem wp_app8g {o : Oper} {a : Act} {K : Act → World → Prop} {Q : Exit → Act → World → Prop} (s x : Operand) (t e : TypeId)
    (ho : o.op = .call { callee := .builtin .append, args := #[s, x], argTypes := #[t, t] }) (base : Nat)
    (ht : P.underlying t = some (.slice e)) (hinfo : (P.info? e).map (fun i => (i.zero, i.size, i.bytes)) = some (some (.int .u8 0), 1, 1))
    (v : Value) (n : Nat) (l1 : List Int) (hs : a.eval s = v) (hown : Own8 w base e v n l1) (ad : Option Addr) (m c : Nat) (l2 : List Int) (hx : a.eval x = .slice ad m c) (h2 : Row8 w ad m l2) (k : Nat) (hk : n + m = k) (l3 : List Int) (hl : l1 ++ l2 = l3) (hlen : k ≤ 100000) (hbase : base ≤ w.heap.size)
    (h : ∀ a' c' w', Own8 w' base e (.slice a' k c') k l3 → w.grownBy w' v.ownBlock → ((Value.slice a' k c').ownBlock = v.ownBlock ∨ (Value.slice a' k c').ownBlock = some w.heap.size) → K (a.put o.dst (.slice a' k c')) w') : o.wp P a w K Q := by
  subst hk hl
  obtain ⟨a', c', w', hr, h3, h4, h5⟩ := run_app8g (P := P) w base t o.type e ht hinfo v n l1 hown ad m c l2 h2 hlen hbase
  unfold Oper.wp execOp
  simp only [ho, resolve, invoke, builtin, Sem.run_bind, Sem.run_pure, Result.andThen_ok, List.map_toArray, List.map_cons, List.map_nil, hs, hx, hr]
  exact h a' c' w' h3 h4 h5
theorem step_app8g {ops : Array Oper} {o : Oper} {a : Act} {K : Act → World → Prop} {Q : Exit → Act → World → Prop} {E : Prop} (hgd : o.guard = none) (s x : Operand) (t e : TypeId)
    (ho : o.op = .call { callee := .builtin .append, args := #[s, x], argTypes := #[t, t] }) (base : Nat)
    (ht : P.underlying t = some (.slice e)) (hinfo : (P.info? e).map (fun i => (i.zero, i.size, i.bytes)) = some (some (.int .u8 0), 1, 1))
    (v : Value) (n : Nat) (l1 : List Int) (hs : a.eval s = v) (hown : Own8 w base e v n l1) (ad : Option Addr) (m c : Nat) (l2 : List Int) (hx : a.eval x = .slice ad m c) (h2 : Row8 w ad m l2) (k : Nat) (hk : n + m = k) (l3 : List Int) (hl : l1 ++ l2 = l3) (hlen : k ≤ 100000) (hbase : base ≤ w.heap.size)
    (h : ∀ a' c' w', Own8 w' base e (.slice a' k c') k l3 → w.grownBy w' v.ownBlock → ((Value.slice a' k c').ownBlock = v.ownBlock ∨ (Value.slice a' k c').ownBlock = some w.heap.size) → K (a.put o.dst (.slice a' k c')) w') :
    if Region.wanted o (yielded ops a.tmps) = true then Oper.wp P o a w K Q else E := by
  have hw : Region.wanted o (yielded ops a.tmps) = true := by simp [Region.wanted, hgd]
  rw [if_pos hw]
  exact wp_app8g w s x t e ho base ht hinfo v n l1 hs hown ad m c l2 hx h2 k hk l3 hl hlen hbase h
end
theorem step_callf {P : Program} {ops : Array Oper} {o : Oper} {a : Act} {W : World} {K : Act → World → Prop} {Q : Exit → Act → World → Prop} {E : Prop} (hgd : o.guard = none) (f : FuncId) (xs : Array Operand) (ts : Array TypeId) (vals : Array Value)
    (ho : o.op = .call { callee := .value (.func f), args := xs, argTypes := ts }) (hf : (P.funcs[f]?).map (fun fn => fn.name == "runtime.NumGoroutine" || fn.body.isNone) = some false) (hv : xs.map a.eval = vals) (S : Value → World → Prop)
    (hc : Calls P f vals W fun e W' => ∃ v, e = .returned v ∧ S v W') (h : ∀ v W', S v W' → K (a.put o.dst v) W') : if Region.wanted o (yielded ops a.tmps) = true then Oper.wp P o a W K Q else E := by
  have hw : Region.wanted o (yielded ops a.tmps) = true := by simp [Region.wanted, hgd]
  rw [if_pos hw]
  exact wp_callf f xs ts vals ho hf hv (hc.mono fun e W' ⟨v, he, hs⟩ => ⟨v, he, h v W' hs⟩)
theorem put32_any (n : Int) (w : World) (h0 : 0 ≤ n) (h1 : n ≤ 4294967295) :
    Calls Try.prog 33 #[.int .u32 n] w fun e w' => e = .returned (.slice (some ⟨w.heap.size, 0, none⟩) 4 4) ∧ w' = w.alloc (.cells #[.int .u8 (n / 16777216), .int .u8 (n / 65536 % 256), .int .u8 (n / 256 % 256), .int .u8 (n % 256)] 5) := by
  go_enter Try.func33, Try.ntmps33
  go_wp2
  go_ret
  exact ⟨rfl, rfl⟩
set_option maxHeartbeats 1000000 in
theorem get_yes (a : Option Addr) (len cap : Nat) (l : List Int) (p s : Nat) (w : World) (hr : Row8 w a len l) (hm : len ≤ 3000) (hs : s ≤ 4) (h : p + s ≤ len) :
    Calls Try.prog 52 #[.slice a len cap, .int .i64 p, .int .i64 s] w fun e w' => e = .returned (.tuple #[.int .u32 (getV l p s), .bool true]) ∧ w' = w := by
  obtain ⟨hl, -, hB, hc⟩ := hr
  go_enter Try.func52, Try.ntmps52
  go_wp2
  go_loop [8, 21] (fun n i => ∃ k : Nat, k ≤ s ∧ i = .int .i64 k ∧ n = .int .u32 (getV l p k)) (fun _ i => s - (intOf i).toNat)
  case atStart => exact ⟨0, Nat.zero_le _, rfl, rfl⟩
  case round =>
    obtain ⟨k, hk, rfl, rfl⟩ := hrel
    by_cases hlt : k < s
    · obtain ⟨b, off, rfl, hcell⟩ := hc (p + k) (by omega)
      have hv := hB.at (p + k)
      have hg := getV_small hB p k (by omega)
      have HO : Hid (bits .or .u32 (getV l p k * 256) (l[p + k]?.getD 0) = getV l p (k + 1)) := or_low _ _ hg hv
      clear hc hl
      generalize getV l p k = g at hg HO
      generalize l[p + k]?.getD 0 = v at hcell hv HO
      go_wp2
      go_round
      case rel => exact ⟨k + 1, by omega, by go_num, by rw [← HO.out]⟩
      case measure => simp [intOf]; omega
    · obtain rfl : k = s := by omega
      go_wp2
      go_ret2
      exact ⟨rfl, rfl⟩
theorem get32_yes (a : Option Addr) (len cap : Nat) (l : List Int) (p : Nat) (w : World) (hr : Row8 w a len l) (hm : len ≤ 3000) (h : p + 4 ≤ len) :
    Calls Try.prog 39 #[.slice a len cap, .int .i64 p] w fun e w' => e = .returned (.tuple #[.int .u32 (getV l p 4), .bool true]) ∧ w' = w := by
  go_enter Try.func39, Try.ntmps39
  go_wp2_with (go_at_call 52; refine (get_yes _ _ _ l p 4 _ hr hm (by omega) h).mono ?_; rintro e w' ⟨rfl, rfl⟩)
  go_ret2
  exact ⟨rfl, rfl⟩
/-- What a fact's bytes tell. -/
theorem byF_len (f : Fc) : (byF f).length = 12 := by simp [byF, b4]
theorem byF_key (f : Fc) : getV (byF f) 4 4 = f.y := by
  have h := getV_put4 [f.k, 0, 0, 0] (b4 f.n) f.y
  simpa [byF, b4] using h
theorem byF_num (f : Fc) : getV (byF f) 8 4 = f.n := by
  have h := getV_put4 ([f.k, 0, 0, 0] ++ b4 f.y) [] f.n
  simpa [byF, b4] using h
theorem decode_any (f : Fc) (a : Option Addr) (cap : Nat) (w : World) (hr : Row8 w a 12 (byF f)) (hm : MayF f) :
    Calls Try.prog 34 #[.slice a 12 cap] w fun e w' => e = .returned (valFc f) ∧ Below w.heap.size w w' := by
  obtain ⟨k, y, n⟩ := f
  have e4 := byF_key ⟨k, y, n⟩
  have e8 := byF_num ⟨k, y, n⟩
  have h1 := fun w' (hb : Below w.heap.size w w') => get32_yes a 12 cap (byF ⟨k, y, n⟩) 4 w' (row8_later hr hb) (by decide) (by decide)
  have h2 := fun w' (hb : Below w.heap.size w w') => get32_yes a 12 cap (byF ⟨k, y, n⟩) 8 w' (row8_later hr hb) (by decide) (by decide)
  rw [e4] at h1
  rw [e8] at h2
  have H1 : Hid (_) := h1
  have H2 : Hid (_) := h2
  obtain ⟨b, off, rfl, hcell⟩ := hr.2.2.2 0 (by decide)
  have hcell : w.cell? ⟨b, off, none⟩ = some (.int .u8 k) := by simpa [byF] using hcell
  have hm0 : 0 ≤ k ∧ k ≤ 255 := hm
  have hb0 : Below w.heap.size w (w.alloc (objF 0 0 0)) := below1 _ _
  have hc1 := cell_later hb0 hcell
  clear h1 h2 e4 e8 hm hr hcell
  go_enter Try.func34, Try.ntmps34
  go_wp2_with (first
    | (go_at_call_of 39 (Value.int IntKind.i64 4); refine (H1.out _ hb0).mono ?_; rintro e w' ⟨rfl, rfl⟩)
    | (go_at_call_of 39 (Value.int IntKind.i64 8); refine (H2.out _ hb0).mono ?_; rintro e w' ⟨rfl, rfl⟩))
  refine bodyPost_ret (v := .agg #[.int .i64 k, .int .u32 y, .int .u32 n]) (by simp [results, Try.results34, go_sem]) rfl ?_
  exact ⟨rfl, below1 _ _⟩
theorem encode_any (f : Fc) (w : World) (hf : f.Ok) (hm : MayF f) :
    Calls Try.prog 27 #[valFc f] w fun e w' => ∃ v, e = .returned v ∧ ∃ a cap, v = .slice a 12 cap ∧ Row8 w' a 12 (byF f) ∧ Below w.heap.size w w' := by
  obtain ⟨k, y, n⟩ := f
  have hm0 : 0 ≤ k ∧ k ≤ 255 := hm
  have ec2 : k % 256 = k := by omega
  have HOK : Hid (Fc.Ok ⟨k, y, n⟩) := hf
  have HB4 : Hid (Bytes [k, 0, 0, 0]) := fun m hm => by
    simp only [List.mem_cons, List.not_mem_nil, or_false] at hm
    rcases hm with rfl | rfl | rfl | rfl <;> omega
  have HC : Hid (∀ W, Below (w.heap.size + 1) (w.alloc (objF k y n)) W → W.cell? ⟨w.heap.size, 0, none⟩ = some (.int .i64 k) ∧ W.cell? ⟨w.heap.size, 1, none⟩ = some (.int .u32 y) ∧ W.cell? ⟨w.heap.size, 2, none⟩ = some (.int .u32 n)) := fun W hW => ((F3.new w k y n).later (hW.mono (by simp))).z
  have HBy : Hid (Bytes ([k, 0, 0, 0] ++ b4 y ++ b4 n)) := (HB4.out.append (bytes_b4 hf.y0 hf.y1)).append (bytes_b4 hf.n0 hf.n1)
  obtain ⟨l8, h8⟩ : ∃ l8, [k, 0, 0, 0] ++ b4 y = l8 := ⟨_, rfl⟩
  have H8 : Hid ([k, 0, 0, 0] ++ b4 y = l8) := h8
  obtain ⟨l12, h12⟩ : ∃ l12, byF ⟨k, y, n⟩ = l12 := ⟨_, rfl⟩
  have H12 : Hid (l8 ++ b4 n = l12) := by rw [← h8, ← h12]; rfl
  have HBL : Hid (Bytes l12) := by rw [← h12]; exact HBy.out
  have HS0 : Hid (Own8 ((w.alloc (objF k y n)).alloc (.cells #[.int .u8 k, .int .u8 0, .int .u8 0, .int .u8 0] 5)) (w.heap.size + 1) 5 (.slice (some ⟨w.heap.size + 1, 0, none⟩) 4 4) 4 [k, 0, 0, 0]) := own8_at (w.alloc (objF k y n)) (w.heap.size + 1) (by simp) (w.heap.size + 1) 5 [k, 0, 0, 0] (by omega) (by simp)
  have HMk : Hid True := trivial
  rw [h12]
  clear hf hm h8 h12
  go_enter Try.func27, Try.ntmps27
  go_wp2_with (first
    | (go_at_call_of 33 (Value.int IntKind.u32 y); refine (put32_any _ _ HOK.out.y0 HOK.out.y1).mono ?_; rintro e W_ ⟨rfl, rfl⟩)
    | (go_at_call_of 33 (Value.int IntKind.u32 n); refine (put32_any _ _ HOK.out.n0 HOK.out.n1).mono ?_; rintro e W_ ⟨rfl, rfl⟩)
    | (at_builtin; clear HMk; go_must (refine wpList_app8 _ rfl (.tmp 8) (.tmp 11) 43 5 rfl (w.heap.size + 1) Try.underlying43 info5 _ 4 [k, 0, 0, 0] rfl (HS0.out.alloc _) _ 4 4 (b4 y) rfl (row_b4 HOK.out.y0 HOK.out.y1 _ (by simp)) 8 rfl l8 H8.out (by omega) (by simp) ?_; intro a1 p1 W1 own1 hb1; have HO1 : Hid (Own8 W1 (w.heap.size + 1) 5 (.slice a1 8 p1) 8 l8) := own1; have HB1 : Hid (Below (w.heap.size + 1) (w.alloc (objF k y n)) W1) := ((below2 (w.alloc (objF k y n)) _ _).mono (by simp)).trans hb1; obtain ⟨b0, b1, b2⟩ := HC.out W1 HB1.out; clear own1 hb1))
    | (at_builtin; go_must (refine wpList_app8 _ rfl (.tmp 13) (.tmp 16) 43 5 rfl (w.heap.size + 1) Try.underlying43 info5 _ 8 l8 rfl (HO1.out.alloc _) _ 4 4 (b4 n) rfl (row_b4 HOK.out.n0 HOK.out.n1 _ rfl) 12 rfl l12 H12.out (by omega) (by have := HB1.out.size; simp at this ⊢; omega) ?_; intro a2 p2 W2 own2 hb2; have HO2 : Hid (Own8 W2 (w.heap.size + 1) 5 (.slice a2 12 p2) 12 l12) := own2; have HB2 : Hid (Below (w.heap.size + 1) (w.alloc (objF k y n)) W2) := (HB1.out.alloc (Nat.le_trans (by simp) HB1.out.size) _).trans hb2; clear own2 hb2)))
  go_ret
  exact ⟨_, rfl, a2, p2, rfl, HO2.out.row HBL.out (by omega), (below1 _ _).trans (HB2.out.mono (by simp))⟩
set_option maxRecDepth 10000 in
theorem run_nil8 (W : World) : (binOp .eql 43 (.slice none 0 0) (.slice none 0 0)).run Try.prog W = .ok (.bool true) W := rfl
set_option maxRecDepth 10000 in
theorem run_one8 (p : Addr) (n c : Nat) (W : World) : (binOp .eql 43 (.slice (some p) n c) (.slice none 0 0)).run Try.prog W = .ok (.bool false) W := rfl
theorem clone_any (w : World) (base n cap : Nat) (a : Option Addr) (l : List Int) (h : Own8 w base 5 (.slice a n cap) n l) (hB : Bytes l) (hn : n ≤ 100000) :
    Calls Try.prog 31 #[.slice a n cap] w fun e w' => ∃ ad k c, e = .returned (.slice ad k c) ∧ Row8 w' ad k l ∧ Below w.heap.size w w' := by
  have hrow := h.row hB hn
  rcases h.nil_or with ⟨rfl, rfl, rfl⟩ | ⟨g, rfl⟩
  · have HR : Hid (Row8 w none 0 l) := hrow
    have hq := run_nil8
    clear h hrow hB
    go_enter Try.func31, Try.ntmps31
    go_wp2
    go_ret
    exact ⟨none, 0, 0, rfl, HR.out, Below.refl _ _⟩
  · have HR : Hid (Row8 w (some ⟨g, 0, none⟩) n l) := hrow
    have hq := run_one8 ⟨g, 0, none⟩ n cap
    have HB : Hid (Bytes l) := hB
    clear h hrow hB
    go_enter Try.func31, Try.ntmps31
    go_wp2_with (at_builtin; go_must (refine wpList_app8 _ rfl (.tmp 5) (.tmp 6) 43 5 rfl w.heap.size Try.underlying43 info5 _ 0 [] rfl (own8_at w w.heap.size rfl w.heap.size 5 [] (Nat.le_refl _) (by simp)) _ n cap l rfl (row8_later HR.out (below1 _ _)) n (by omega) l rfl hn (by simp) ?_; intro a1 p1 W1 own1 hb1; have HO1 : Hid (Own8 W1 w.heap.size 5 (.slice a1 n p1) n l) := own1; have HB1 : Hid (Below w.heap.size w W1) := (below1 w _).trans hb1; clear own1 hb1))
    go_ret
    exact ⟨a1, n, p1, rfl, HO1.out.row HB.out hn, HB1.out⟩
end Go.Proofs.Ytofmgkpghkeegaa
