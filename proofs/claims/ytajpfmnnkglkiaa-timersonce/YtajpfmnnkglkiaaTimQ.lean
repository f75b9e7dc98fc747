/- The contract of the document's Set. -/
import Derived.Test.YtajpfmnnkglkiaaTimR
namespace Go.Proofs.Ytajpfmnnkglkiaa
open Go.RowKit

/-- What is still to come behind the first j. -/
def restT (x : Tm) (L : List Tm) (dn : Bool) (j : Nat) : List Tm := if dn = true then L.drop j else insT x (L.drop j)
theorem restT_done {x p : Tm} {L out I : List Tm} {j : Nat} (h : I = out ++ restT x L true j) (hp : L[j]? = some p) : I = (out ++ [p]) ++ restT x L true (j + 1) := by
  have hj := (List.getElem?_eq_some_iff.1 hp).1
  unfold restT at *
  rw [if_pos rfl] at *
  rw [h, List.drop_eq_getElem_cons hj, (List.getElem?_eq_some_iff.1 hp).2]
  simp
theorem restT_yes {x p : Tm} {L out I : List Tm} {j : Nat} (h : I = out ++ restT x L false j) (hp : L[j]? = some p) (hl : x.lt p) : I = ((out ++ [x]) ++ [p]) ++ restT x L true (j + 1) := by
  have hj := (List.getElem?_eq_some_iff.1 hp).1
  unfold restT at *
  rw [if_neg (by simp)] at h
  rw [if_pos rfl, h, List.drop_eq_getElem_cons hj, (List.getElem?_eq_some_iff.1 hp).2, insT, if_pos hl]
  simp
theorem restT_no {x p : Tm} {L out I : List Tm} {j : Nat} (h : I = out ++ restT x L false j) (hp : L[j]? = some p) (hl : ¬ x.lt p) : I = (out ++ [p]) ++ restT x L false (j + 1) := by
  have hj := (List.getElem?_eq_some_iff.1 hp).1
  unfold restT at *
  rw [if_neg (by simp)] at *
  rw [h, List.drop_eq_getElem_cons hj, (List.getElem?_eq_some_iff.1 hp).2, insT, if_neg hl]
  simp
theorem restT_end {x : Tm} {L out I : List Tm} {dn : Bool} (h : I = out ++ restT x L dn L.length) : I = out ++ (if dn = true then [] else [x]) := by
  unfold restT at h
  rw [h, List.drop_length]
  cases dn <;> rfl
theorem Tms_stop {L : List Tm} (h : Tms L) (i : Int) : Tms (stopT L i) := fun p hp => h p (mem_stopT.1 hp).1
theorem done_two {w W1 W : World} {N : Nat} {v v1 v2 : Value} {L : List Tm} (hg : ∀ g, v1.ownBlock = some g → v.ownBlock = some g ∨ w.heap.size ≤ g) (hk : Keep (fpM N v) w W1)
    (h : RefM W N v2 L ∧ (∀ g, v2.ownBlock = some g → W1.heap.size ≤ g) ∧ Keep (fpM N v1) W1 W) (x : Int) : DoneM w N v L x (.returned (.int .i64 x)) W := by
  obtain ⟨h1, h2, h3⟩ := h
  refine ⟨v2, rfl, h1, fun g hg2 => .inr (Nat.le_trans hk.size (h2 g hg2)), hk.trans h3 fun i hi hf => ?_⟩
  rcases hf with rfl | hf
  · exact .inl rfl
  · rcases hg i hf with e | e
    · exact .inr e
    · omega
set_option maxRecDepth 100000 in
set_option maxHeartbeats 8000000 in
theorem refSet_any (N : Nat) (v : Value) (L : List Tm) (i a : Int) (w : World) (h : RefM w N v L) (hL : L.length ≤ 1000) (hq : Tm.Ok ⟨i, a⟩) :
    Calls Try.prog 11 #[.pointer (some ⟨N, 0, none⟩), .int .i64 i, .int .i64 a] w (DoneM w N v (setT L i a) (setTX L i a)) := by
  have HQ : Hid (Tm.Ok ⟨i, a⟩) := hq
  have HT0 : Hid (RefM w N v L) := h
  have HL : Hid (L.length ≤ 1000) := hL
  by_cases ha : a < 0 ∨ 1099511627776 < a
  · have hx : setTX L i a = 1 := by unfold setTX; rw [if_pos ha]
    have hs : setT L i a = L := setT_same (by rw [hx]; decide)
    rw [hx, hs]
    clear h hL hq hx hs
    by_cases h0 : a < 0
    · clear ha
      go_enter Try.func11, Try.ntmps11
      go_wp2
      go_ret
      exact DoneM.none HT0.out (Below.refl _ _)
    · have h1 : (1099511627776 : Int) < a := by omega
      clear ha
      go_enter Try.func11, Try.ntmps11
      go_wp2
      go_ret
      exact DoneM.none HT0.out (Below.refl _ _)
  have h0 : ¬ a < 0 := by omega
  have h1 : ¬ (1099511627776 : Int) < a := by omega
  by_cases hfull : hasI i L = false ∧ 256 ≤ L.length
  · have hx : setTX L i a = 4 := by unfold setTX; rw [if_neg ha, if_neg (by rw [hfull.1]; simp), if_pos hfull.2]
    have hs : setT L i a = L := setT_same (by rw [hx]; decide)
    have HS : Hid (stopT L i = L ∧ stopTX L i = 5) := ⟨stopT_none hfull.1, by unfold stopTX; rw [hfull.1]; rfl⟩
    rw [hx, hs]
    have h256 : (L.length : Int) ≥ 256 := by omega
    obtain ⟨nn, hn⟩ : ∃ n, L.length = n := ⟨_, rfl⟩
    have HN : Hid (L.length = nn) := hn
    rw [hn] at h256
    clear h hL hq hx hs ha hfull hn
    go_enter Try.func11, Try.ntmps11
    go_wp2_with (go_at_call 13; refine (refStop_any N v L i _ HT0.out HL.out).mono ?_; rw [HS.out.1, HS.out.2]; rintro e W1 hd; have HD : Hid (DoneM w N v L 5 e W1) := hd; obtain ⟨v1, rfl, hr1, -, -⟩ := hd; obtain ⟨ad1, cap1, rfl⟩ := hr1.own.shape; rw [HN.out] at hr1; obtain ⟨z0, zf, -⟩ := hr1)
    go_ret
    obtain ⟨v2, -, g1, g2, g3⟩ := HD.out
    exact ⟨v2, rfl, g1, g2, g3⟩
  have hx : setTX L i a = 0 := by
    unfold setTX
    rw [if_neg ha]
    split
    · rfl
    · rename_i hh
      rw [if_neg (fun hl => hfull ⟨by simpa using hh, hl⟩)]
  have hs : setT L i a = insT ⟨i, a⟩ (stopT L i) := by unfold setT; rw [if_pos hx]
  rw [hx, hs]
  obtain ⟨L1, hL1⟩ : ∃ L1, stopT L i = L1 := ⟨_, rfl⟩
  have HL1 : Hid (stopT L i = L1) := hL1
  rw [hL1]
  have HTm : Hid (Tms L1) := by unfold Hid; rw [← hL1]; exact Tms_stop h.ok i
  obtain ⟨nn, hn⟩ : ∃ n, L1.length = n := ⟨_, rfl⟩
  have HN : Hid (L1.length = nn) := hn
  have hnn : nn ≤ 1000 := by have := stopT_len_le L i; rw [hL1, hn] at this; omega
  obtain ⟨x, hxx⟩ : ∃ x, stopTX L i = x := ⟨_, rfl⟩
  have HX : Hid (stopTX L i = x) := hxx
  have hcase : (x != 0) = false ∨ ((x != 0) = true ∧ ¬ (nn : Int) ≥ 256) := by
    cases hh : hasI i L with
    | true => left; rw [← hxx]; unfold stopTX; rw [hh]; rfl
    | false =>
      right
      have : L1 = L := by rw [← hL1]; exact stopT_none hh
      refine ⟨by rw [← hxx]; unfold stopTX; rw [hh]; rfl, fun hc => hfull ⟨hh, ?_⟩⟩
      rw [← this, hn]
      omega
  have HIL : Hid ((insT ⟨i, a⟩ L1).length = nn + 1) := by unfold Hid; rw [insT_len, HN.out]
  have HIP : Hid (Tms (insT ⟨i, a⟩ L1)) := fun p hp => by
    rcases mem_insT.1 hp with rfl | hp
    · exact HQ.out
    · exact HTm.out p hp
  clear h hL hq hx hs ha hfull hn hL1 hxx
  rcases hcase with hc | ⟨hc, hc2⟩
  all_goals
    go_enter Try.func11, Try.ntmps11
    go_wp2_with (go_at_call 13; refine (refStop_any N v L i _ HT0.out HL.out).mono ?_; rw [HL1.out, HX.out]; rintro e W1 hd; obtain ⟨v1, rfl, hr1, hg1, hk1⟩ := hd; obtain ⟨ad, cap, rfl⟩ := hr1.own.shape; rw [HN.out] at hr1 hg1; have HT : Hid (RefM W1 N (.slice ad nn cap) L1) := hr1; have HG1 : Hid (∀ g, (Value.slice ad nn cap).ownBlock = some g → v.ownBlock = some g ∨ w.heap.size ≤ g) := hg1; have HK1 : Hid (Keep (fpM N v) w W1) := hk1; obtain ⟨z0, zf, -⟩ := hr1)
    have HRow : Hid (RowT W1 ad nn L1) := by unfold Hid; have := HT.out.own; rw [HN.out] at this; exact this.row HTm.out
    clear hg1 hk1 z0 zf
    go_loopw [8, 9, 10] (fun o_ d_ i_ W => ∃ (j k : Nat) (dn : Bool) (out : List Tm), j ≤ nn ∧ i_ = .int .i64 j ∧ d_ = .bool dn ∧ Hid (OwnT W W1.heap.size o_ k out) ∧ Hid (insT ⟨i, a⟩ L1 = out ++ restT ⟨i, a⟩ L1 dn j) ∧ Hid (Below W1.heap.size W1 W)) (fun _ _ i_ _ => nn - (intOf i_).toNat)
    case atStart => exact ⟨0, 0, false, [], Nat.zero_le _, rfl, rfl, ownT_nil _ _, rfl, Below.refl _ _⟩
    case round =>
      obtain ⟨j, k, dn, out, hj, rfl, rfl, HO, HI, HB⟩ := hrel
      obtain ⟨z0, zf, -⟩ := HT.out.later HB.out
      have hsz := HB.out.size
      have hk : k ≤ nn + 1 := by
        have h1 := congrArg List.length HI.out
        rw [List.length_append, HIL.out, HO.out.len] at h1
        omega
      by_cases hlt : j < nn
      · have hlt' : (j : Int) < (nn : Int) := by omega
        obtain ⟨⟨pi, pa⟩, b, off, he, hok, rfl, q⟩ := HRow.out.at hlt
        have HOK : Hid (Tm.Ok ⟨pi, pa⟩) := hok
        have HE : Hid (L1[j]? = some ⟨pi, pa⟩) := he
        have HQp : Hid (∀ V, Below W1.heap.size W1 V → T2 V b (off + j * 2) ⟨pi, pa⟩) := fun V hb => q.later hb
        obtain ⟨d0, d1⟩ := HQp.out wr HB.out
        simp only at d0 d1
        clear he hok q
        cases dn
        · have hw : (a < pa ∨ ¬ a < pa ∧ (pa == a) = true ∧ i < pi) ∨ (¬ a < pa ∧ (pa == a) = true ∧ ¬ i < pi ∨ ¬ a < pa ∧ (pa == a) = false) := by
            by_cases h1 : a < pa
            · exact .inl (.inl h1)
            · by_cases h2 : pa = a
              · by_cases h3 : i < pi
                · exact .inl (.inr ⟨h1, by simpa using h2, h3⟩)
                · exact .inr (.inl ⟨h1, by simpa using h2, h3⟩)
              · exact .inr (.inr ⟨h1, by simpa using h2⟩)
          rcases hw with hw | hw
          · have HI' : Hid (_) := restT_yes HI.out HE.out (show Tm.lt ⟨i, a⟩ ⟨pi, pa⟩ by
              unfold Tm.lt; simp only
              rcases hw with h1 | ⟨h1, h2, h3⟩
              · omega
              · have : pa = a := by simpa using h2
                omega)
            clear HI
            rcases hw with hw1 | ⟨hw1, hw2, hw3⟩
            all_goals
              go_wp2_with (first
                | (at_builtin; refine wpList_appT _ rfl (.tmp 77) (.tmp 81) 27 rfl W1.heap.size Try.underlying27 infoT _ (k) (out) rfl (HO.out.later (below1 _ _)) _ 1 1 [⟨i, a⟩] rfl (rowT_one (T2.newAt wr _ rfl i a) rfl HQ.out) (k + 1) rfl _ rfl (by omega) (by simp; omega) ?_; intro a4 c4 V4 own4 hb4; have HB4 : Hid (Below W1.heap.size W1 V4) := (Below.alloc HB.out (by have := HB.out.size; exact this) _).trans hb4; have HO4 : Hid (OwnT V4 W1.heap.size (.slice a4 (k + 1) c4) (k + 1) (out ++ [⟨i, a⟩])) := own4; have hs4 := HB4.out.size; obtain ⟨z0, zf, -⟩ := HT.out.later HB4.out; obtain ⟨d0, d1⟩ := HQp.out V4 HB4.out; simp only at d0 d1)
                | (at_builtin; refine wpList_appT _ rfl (.tmp 83) (.tmp 91) 27 rfl W1.heap.size Try.underlying27 infoT _ (k + 1) (out ++ [⟨i, a⟩]) rfl (HO4.out.later (below1 _ _)) _ 1 1 [⟨pi, pa⟩] rfl (rowT_one (T2.newAt V4 _ rfl pi pa) rfl HOK.out) (k + 1 + 1) rfl _ rfl (by omega) (by simp; omega) ?_; intro a5 c5 V5 own5 hb5; have HB5 : Hid (Below W1.heap.size W1 V5) := (Below.alloc HB4.out (by have := HB4.out.size; exact this) _).trans hb5; have HO5 : Hid (OwnT V5 W1.heap.size (.slice a5 (k + 1 + 1) c5) (k + 1 + 1) (out ++ [⟨i, a⟩] ++ [⟨pi, pa⟩])) := own5; have hs5 := HB5.out.size; obtain ⟨z0, zf, -⟩ := HT.out.later HB5.out))
              go_roundw
              case rel => exact ⟨j + 1, k + 1 + 1, true, _, by omega, by go_num, rfl, HO5, HI', HB5⟩
              case measure => simp [intOf]; omega
          · have HI' : Hid (_) := restT_no HI.out HE.out (show ¬ Tm.lt ⟨i, a⟩ ⟨pi, pa⟩ by
              unfold Tm.lt; simp only
              rcases hw with ⟨h1, h2, h3⟩ | ⟨h1, h2⟩
              · have : pa = a := by simpa using h2
                omega
              · have : pa ≠ a := by simpa using h2
                omega)
            clear HI
            rcases hw with ⟨hw1, hw2, hw3⟩ | ⟨hw1, hw2⟩
            all_goals
              go_wp2_with (at_builtin; refine wpList_appT _ rfl (.tmp 83) (.tmp 91) 27 rfl W1.heap.size Try.underlying27 infoT _ (k) (out) rfl (HO.out.later (below1 _ _)) _ 1 1 [⟨pi, pa⟩] rfl (rowT_one (T2.newAt wr _ rfl pi pa) rfl HOK.out) (k + 1) rfl _ rfl (by omega) (by simp; omega) ?_; intro a5 c5 V5 own5 hb5; have HB5 : Hid (Below W1.heap.size W1 V5) := (Below.alloc HB.out (by have := HB.out.size; exact this) _).trans hb5; have HO5 : Hid (OwnT V5 W1.heap.size (.slice a5 (k + 1) c5) (k + 1) (out ++ [⟨pi, pa⟩])) := own5; have hs5 := HB5.out.size; obtain ⟨z0, zf, -⟩ := HT.out.later HB5.out)
              go_roundw
              case rel => exact ⟨j + 1, k + 1, false, _, by omega, by go_num, rfl, HO5, HI', HB5⟩
              case measure => simp [intOf]; omega
        · have HI' : Hid (_) := restT_done HI.out HE.out
          clear HI
          go_wp2_with (at_builtin; refine wpList_appT _ rfl (.tmp 83) (.tmp 91) 27 rfl W1.heap.size Try.underlying27 infoT _ (k) (out) rfl (HO.out.later (below1 _ _)) _ 1 1 [⟨pi, pa⟩] rfl (rowT_one (T2.newAt wr _ rfl pi pa) rfl HOK.out) (k + 1) rfl _ rfl (by omega) (by simp; omega) ?_; intro a5 c5 V5 own5 hb5; have HB5 : Hid (Below W1.heap.size W1 V5) := (Below.alloc HB.out (by have := HB.out.size; exact this) _).trans hb5; have HO5 : Hid (OwnT V5 W1.heap.size (.slice a5 (k + 1) c5) (k + 1) (out ++ [⟨pi, pa⟩])) := own5; have hs5 := HB5.out.size; obtain ⟨z0, zf, -⟩ := HT.out.later HB5.out)
          go_roundw
          case rel => exact ⟨j + 1, k + 1, true, _, by omega, by go_num, rfl, HO5, HI', HB5⟩
          case measure => simp [intOf]; omega
      · have hlt' : ¬ (j : Int) < (nn : Int) := by omega
        obtain rfl : j = nn := by omega
        have HIe : Hid (_) := restT_end (I := insT ⟨i, a⟩ L1) (out := out) (by rw [HN.out]; exact HI.out)
        clear HI
        cases dn
        · have HIe' : Hid (out ++ [⟨i, a⟩] = insT ⟨i, a⟩ L1) := HIe.out.symm
          have HEl : Hid (k + 1 = (insT ⟨i, a⟩ L1).length) := by unfold Hid; rw [← HIe'.out, List.length_append, HO.out.len]; rfl
          go_wp2_with (at_builtin; refine wpList_appT _ rfl (.tmp 95) (.tmp 99) 27 rfl W1.heap.size Try.underlying27 infoT _ (k) (out) rfl (HO.out.later (below1 _ _)) _ 1 1 [⟨i, a⟩] rfl (rowT_one (T2.newAt wr _ rfl i a) rfl HQ.out) (k + 1) rfl _ rfl (by omega) (by simp; omega) ?_; intro a5 c5 V5 own5 hb5; have HB5 : Hid (Below W1.heap.size W1 V5) := (Below.alloc HB.out (by have := HB.out.size; exact this) _).trans hb5; have HO5 : Hid (OwnT V5 W1.heap.size (.slice a5 (k + 1) c5) (k + 1) (out ++ [⟨i, a⟩])) := own5; have hs5 := HB5.out.size; obtain ⟨z0, zf, -⟩ := HT.out.later HB5.out)
          go_ret
          exact done_two HG1.out HK1.out (HT.out.laid HB5.out (by rw [← HEl.out, ← HIe'.out]; exact HO5.out) HIP.out) 0
        · have HIe' : Hid (out = insT ⟨i, a⟩ L1) := by unfold Hid; have := HIe.out; simpa using this.symm
          have HEl : Hid (k = (insT ⟨i, a⟩ L1).length) := by unfold Hid; rw [← HIe'.out, HO.out.len]
          obtain ⟨ad', cap', hv⟩ := HO.out.shape
          subst hv
          go_wp2
          go_ret
          exact done_two HG1.out HK1.out (HT.out.laid HB.out (by rw [← HEl.out, ← HIe'.out]; exact HO.out) HIP.out) 0
end Go.Proofs.Ytajpfmnnkglkiaa
