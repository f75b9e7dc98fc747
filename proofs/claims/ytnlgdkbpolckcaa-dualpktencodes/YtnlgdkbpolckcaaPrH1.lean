/- The contract of the program's Decode. -/
import Derived.Test.YtnlgdkbpolckcaaPrG
import Derived.ScopeJumps
namespace Go.Proofs.Ytnlgdkbpolckcaa
open Go.RowKit

theorem str_eq {A B : List Int} (hA : Bytes A) (hB : Bytes B) {v : Bool} (h : decide (A = B) = v) : ((strOfNums A).toList == (strOfNums B).toList) = v := by
  subst h
  by_cases e : A = B
  · subst e; simp
  · rw [decide_eq_false e, beq_eq_false_iff_ne]
    exact fun h => e (str_inj hA hB (by rw [ByteArray.toList_eq, ByteArray.toList_eq] at h; exact ByteArray.ext (Array.ext' h)))
theorem at8_take {l : List Int} {m i : Nat} (h : i < m) : at8 (l.take m) i = at8 l i := by unfold at8; rw [List.getElem?_take_of_lt h]
theorem getV_take (l : List Int) {m p : Nat} : ∀ {k : Nat}, p + k ≤ m → getV (l.take m) p k = getV l p k
  | 0, _ => rfl
  | k + 1, h => by
    rw [getV, getV, getV_take l (k := k) (by omega), List.getElem?_take_of_lt (by omega)]
theorem hd_take (l : List Int) : (decide (at8 (l.take 16) 4 ≤ 1) && (((l.take 16).drop 5).take 3).all (· == 0)) = hdOk l := by
  unfold hdOk
  rw [at8_take (by decide), List.drop_take, List.take_take]
  rfl
theorem framed_all {l : List Int} (h : framed l = true) : 16 ≤ l.length ∧ (l.length - 16) % 20 = 0 := by
  unfold framed at h
  simp only [Bool.and_eq_true, decide_eq_true_eq] at h
  exact h.1
theorem dec_form {l : List Int} (hB : Bytes l) (h : framed l = true) (h2 : sumOk l = true) (h3 : (l.length - 16) / 20 ≤ 40) {v : Bool} (hv : (hdOk l && zF ((l.length - 16) / 20) (l.drop 16) && mayP (pkOf l)) = v) : dec l = if v = true then (pkOf l, 0) else (pk0, 2) := by
  obtain ⟨a1, a2⟩ := framed_all h
  rw [dec_is hB, if_neg (by rw [h]; simp), if_neg (by rw [h2]; simp), if_neg (by omega), form_parts hB a1 a2, hv]
theorem row8_zero {W : World} {a : Option Addr} {L : List Int} (h : L.length = 0) : Row8 W a 0 L := by
  obtain rfl := List.eq_nil_of_length_eq_zero h
  exact ⟨rfl, by omega, (fun _ h => by cases h), fun i hi => by omega⟩
/-- The answer, once its box is written. -/
theorem fin12 {w V : World} {a : Act} {p : Pk} {x : Int} {ad : Option Addr} {n cap : Nat} {c0 : Int} {i0 : Bool} {s0 k0 : Int} {ad0 : Option Addr} {n0 cap0 : Nat} (h : P5 V w.heap.size c0 i0 s0 k0 ad0 n0 cap0) (hB : Below w.heap.size w V)
    (h2 : a.tmps[2]?.getD undef = .pointer (some ⟨w.heap.size, 0, none⟩)) (h3 : a.tmps[3]?.getD undef = .int .i64 x) (hd : a.defers = []) (hr : RowE (put5 V w.heap.size p.c p.i p.s p.k ad n cap) ad n p.es) :
    bodyPost Try.prog Try.f12 (DecD w (p, x)) Exit.ret a (put5 V w.heap.size p.c p.i p.s p.k ad n cap) := by
  obtain ⟨c0, c1, c2, c3, c4, -⟩ := put5_P h p.c p.i p.s p.k ad n cap
  refine bodyPost_ret (v := .tuple #[valP p.c p.i p.s p.k ad n cap, .int .i64 x]) ?_ hd ⟨ad, n, cap, rfl, hr, put5_b hB (Nat.le_refl _) _ _ _ _ _ _ _⟩
  generalize put5 V w.heap.size p.c p.i p.s p.k ad n cap = V2 at *
  simp [results, Try.results12, go_sem, h2, h3, c0, c1, c2, c3, c4]
def lenV : Value → Nat
  | .slice _ n _ => n
  | _ => 0
/-- At the label: the entries that are read, and what is left. -/
def DJ (w : World) (b n : Nat) (c : Int) (i : Bool) (s k : Int) (l : List Int) (a' : Act) (W : World) : Prop :=
  ∃ (M j : Nat) (ok : Bool) (o m cc : Nat) (ad : Option Addr) (cp : Nat) (u0 u1 u7 u8 u9 u10 u11 u12 u13 u14 u15 u16 u17 u18 u19 u20 u21 u22 u23 u24 u25 u26 u27 u28 u29 u30 u31 u32 u33 u34 u35 u36 u37 u38 u39 u40 u41 u42 u43 u44 u45 u46 u47 u48 u49 u50 u51 u52 u53 u54 u55 u56 u57 u58 : Value), a' = { tmps := #[u0, u1, .pointer (some ⟨w.heap.size, 0, none⟩), .int .i64 0, .slice (some ⟨b, o, none⟩) m cc, .pointer (some ⟨M, 0, none⟩), .bool ok, u7, u8, u9, u10, u11, u12, u13, u14, u15, u16, u17, u18, u19, u20, u21, u22, u23, u24, u25, u26, u27, u28, u29, u30, u31, u32, u33, u34, u35, u36, u37, u38, u39, u40, u41, u42, u43, u44, u45, u46, u47, u48, u49, u50, u51, u52, u53, u54, u55, u56, u57, u58], defers := [] } ∧
    PF5 W M c i s k ad j cp ∧ OwnE W (M + 1) (.slice ad j cp) j (ents j (l.drop 16)) ∧ PF5 W w.heap.size 0 false 0 0 none 0 0 ∧ Row8 W (some ⟨b, o, none⟩) m (l.drop (16 + 20 * j)) ∧ m ≤ cc ∧ 16 + 20 * j + m = n ∧ ok = (hdOk l && zF j (l.drop 16)) ∧ w.heap.size < M ∧ Below w.heap.size w W
noncomputable def afterScope : Code → Option Code
  | .scope c => findLabel c 0
  | .seq a b => match afterScope a with
    | some c => some c
    | none => afterScope b
  | .block _ c => afterScope c
  | _ => none
def Code.second : Code → Code
  | .seq _ b => b
  | c => c
noncomputable def restCode : Code := Code.second ((Try.f12.body.bind afterScope).getD .skip)
theorem jump_mono {l : Nat} {J J' : Act → World → Prop} {Q : Exit → Act → World → Prop} (h : ∀ a w, J a w → J' a w) : ∀ e a w, Exit.jump l J Q e a w → Exit.jump l J' Q e a w := by
  intro e a w
  cases e <;> intro hq <;> first | exact ⟨hq.1, h _ _ hq.2⟩ | exact hq
set_option maxRecDepth 100000 in
set_option maxHeartbeats 4000000 in
theorem pass_end (w : World) (b n : Nat) (c : Int) (i : Bool) (s k : Int) (l : List Int) (hB : Bytes l) (hl : l.length = n) (hf : framed l = true) (hs : sumOk l = true) (h40 : (l.length - 16) / 20 ≤ 40) (hpk : ⟨c, i, s, k, ents ((l.length - 16) / 20) (l.drop 16)⟩ = pkOf l) (_hbz : b < w.heap.size) (q : Nat) (a : Act) (hq : lenV (a.tmps.getD 4 undef) = q) (W : World) (hJ : DJ w b n c i s k l a W) (he : a.tmps.getD 6 undef = .bool false ∨ lenV (a.tmps.getD 4 undef) = 0) :
    Code.wp Try.prog restCode (Exit.jump 0 (fun a' w' => DJ w b n c i s k l a' w' ∧ lenV (a'.tmps.getD 4 undef) < q) (bodyPost Try.prog Try.f12 (DecD w (dec l)))) a W := by
  obtain ⟨M, j, ok, o, m, cc, ad, cp, u0, u1, u7, u8, u9, u10, u11, u12, u13, u14, u15, u16, u17, u18, u19, u20, u21, u22, u23, u24, u25, u26, u27, u28, u29, u30, u31, u32, u33, u34, u35, u36, u37, u38, u39, u40, u41, u42, u43, u44, u45, u46, u47, u48, u49, u50, u51, u52, u53, u54, u55, u56, u57, u58, rfl, hP, hO, hP0, hr, hmc, hn, hok, hwM, hBw⟩ := hJ
  have HP : Hid (PF5 W M c i s k ad j cp) := hP
  have HO : Hid (OwnE W (M + 1) (.slice ad j cp) j (ents j (l.drop 16))) := hO
  have HP0 : Hid (PF5 W w.heap.size 0 false 0 0 none 0 0) := hP0
  have HR : Hid (Row8 W (some ⟨b, o, none⟩) m (l.drop (16 + 20 * j))) := hr
  have HBw : Hid (Below w.heap.size w W) := hBw
  have HN : Hid (16 + 20 * j + m = n) := hn
  have HOK : Hid (ok = (hdOk l && zF j (l.drop 16))) := hok
  have HL : Hid (l.length = n) := hl
  have HBy : Hid (Bytes l) := hB
  have hmod := (framed_all hf).2
  rw [hl] at hmod
  obtain ⟨N, hN⟩ : ∃ N, (n - 16) / 20 = N := ⟨_, rfl⟩
  have HNN : Hid ((l.length - 16) / 20 = N) := by unfold Hid; rw [hl]; exact hN
  have hNm : m = 20 * (N - j) := by omega
  have hjN : j ≤ N := by omega
  have hN40 : N ≤ 40 := by rw [hl] at h40; omega
  have HM : Hid (m = 20 * (N - j)) := hNm
  obtain ⟨⟨f0, f1, f2, f3, f4, fz⟩, ff⟩ := hP
  obtain ⟨⟨z0, z1, z2, z3, z4, zz⟩, zf⟩ := hP0
  have HQ : Hid (m = q) := hq
  clear hq
  have HDF : Hid (∀ v, (hdOk l && zF ((l.length - 16) / 20) (l.drop 16) && mayP (pkOf l)) = v → dec l = if v = true then (pkOf l, 0) else (pk0, 2)) := fun v hv => dec_form hB hf hs h40 hv
  have HPK : Hid (_) := hpk
  have he' : ok = false ∨ m = 0 := by
    rcases he with h | h
    · exact .inl (by simpa using h)
    · exact .inr h
  clear hr hO hBw hn hok hl hB hmod hN hpk hf hs h40 he
  conv => arg 2; whnf
  cases ok
  · have HD : Hid (dec l = (pk0, 2)) := by
      have h1 : (hdOk l && zF j (l.drop 16)) = false := HOK.out.symm
      have h2 : (hdOk l && zF N (l.drop 16)) = false := by
        cases hh : hdOk l
        · rfl
        · rw [hh] at h1; exact zF_less hjN h1
      exact HDF.out false (by rw [HNN.out, h2]; rfl)
    clear hNm he'
    go_wp2
    simp only [Exit.jump]
    rw [HD.out]
    exact fin12 (p := pk0) HP0.out.1 HBw.out rfl rfl rfl (rowE_none _)
  have hm : m = 0 := by
    rcases he' with h | h
    · cases h
    · exact h
  have hjn : j = N := by omega
  obtain ⟨v, hv⟩ : ∃ v, mayP ⟨c, i, s, k, ents j (l.drop 16)⟩ = v := ⟨_, rfl⟩
  have HV : Hid (mayP ⟨c, i, s, k, ents j (l.drop 16)⟩ = v) := hv
  have HD : Hid (dec l = if v = true then (⟨c, i, s, k, ents j (l.drop 16)⟩, 0) else (pk0, 2)) := by
    have h0 := HPK.out
    rw [HNN.out, ← hjn] at h0
    have := HDF.out v (by rw [HNN.out, ← hjn, ← HOK.out, ← h0, hv]; rfl)
    rw [← h0] at this
    exact this
  have HE : Hid (RowE W ad j (ents j (l.drop 16))) := HO.out.row (ents_ok (drop_b HBy.out 16) j)
  have hj200 : j ≤ 200 := by omega
  subst hm
  clear hNm hjn hv he' hjN hN40
  cases v
  · go_wp2_with (go_at_call 15; refine (mayPk_any c i s k ad j cp _ _ HE.out hj200 HV.out).mono ?_; rintro e W2 ⟨rfl, hb2⟩; have HP2 : Hid (PF5 W2 w.heap.size 0 false 0 0 none 0 0) := HP0.out.later hb2; obtain ⟨⟨z0, z1, z2, z3, z4, zz⟩, zf⟩ := HP2.out; have hB2 := stp HBw.out hb2)
    simp only [Exit.jump]
    rw [HD.out]
    exact fin12 (p := pk0) HP2.out.1 hB2 rfl rfl rfl (rowE_none _)
  · go_wp2_with (go_at_call 15; refine (mayPk_any c i s k ad j cp _ _ HE.out hj200 HV.out).mono ?_; rintro e W2 ⟨rfl, hb2⟩; have HP2 : Hid (PF5 W2 w.heap.size 0 false 0 0 none 0 0) := HP0.out.later hb2; obtain ⟨⟨z0, z1, z2, z3, z4, zz⟩, zf⟩ := HP2.out; obtain ⟨⟨f0, f1, f2, f3, f4, fz⟩, ff⟩ := HP.out.later hb2; have HO2 : Hid (OwnE W2 (M + 1) (.slice ad j cp) j (ents j (l.drop 16))) := HO.out.later hb2; have hB2 := stp HBw.out hb2)
    simp only [Exit.jump]
    rw [HD.out]
    exact fin12 (p := ⟨c, i, s, k, ents j (l.drop 16)⟩) HP2.out.1 hB2 rfl rfl rfl ((((((HO2.out.set (by omega)).set (by omega)).set (by omega)).set (by omega)).set (by omega)).row (ents_ok (drop_b HBy.out 16) j))
end Go.Proofs.Ytnlgdkbpolckcaa
