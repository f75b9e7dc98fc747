/- The document's bytes of a packet. -/
import Derived.Test.YtnlgdkbpolckcaaApp8f
namespace Go.Proofs.Ytnlgdkbpolckcaa
open Go.RowKit

abbrev objP (c : Int) (i : Bool) (s k : Int) (ad : Option Addr) (n cap : Nat) : Obj := .cells #[.int .i64 c, .bool i, .int .u32 s, .int .u32 k, .slice ad n cap] 25
abbrev valP (c : Int) (i : Bool) (s k : Int) (ad : Option Addr) (n cap : Nat) : Value := .agg #[.int .i64 c, .bool i, .int .u32 s, .int .u32 k, .slice ad n cap]
/-- The cells of a packet in block N. -/
def P5 (W : World) (N : Nat) (c : Int) (i : Bool) (s k : Int) (ad : Option Addr) (n cap : Nat) : Prop :=
  W.cell? ⟨N, 0, none⟩ = some (.int .i64 c) ∧ W.cell? ⟨N, 1, none⟩ = some (.bool i) ∧ W.cell? ⟨N, 2, none⟩ = some (.int .u32 s) ∧ W.cell? ⟨N, 3, none⟩ = some (.int .u32 k) ∧ W.cell? ⟨N, 4, none⟩ = some (.slice ad n cap) ∧ N < W.heap.size
theorem P5.lift {W W' : World} {B N : Nat} {c : Int} {i : Bool} {s k : Int} {ad : Option Addr} {n cap : Nat} (h : P5 W N c i s k ad n cap) (hb : Below B W W') (hN : N < B) : P5 W' N c i s k ad n cap := by
  obtain ⟨h0, h1, h2, h3, h4, hz⟩ := h
  exact ⟨(hb.cell (p := ⟨N, 0, none⟩) hN).trans h0, (hb.cell (p := ⟨N, 1, none⟩) hN).trans h1, (hb.cell (p := ⟨N, 2, none⟩) hN).trans h2, (hb.cell (p := ⟨N, 3, none⟩) hN).trans h3, (hb.cell (p := ⟨N, 4, none⟩) hN).trans h4, Nat.lt_of_lt_of_le hz hb.size⟩
theorem P5.later {W W' : World} {N : Nat} {c : Int} {i : Bool} {s k : Int} {ad : Option Addr} {n cap : Nat} (h : P5 W N c i s k ad n cap) (hb : Below W.heap.size W W') : P5 W' N c i s k ad n cap := h.lift hb h.2.2.2.2.2
theorem P5.new (W : World) (c : Int) (i : Bool) (s k : Int) (ad : Option Addr) (n cap : Nat) : P5 (W.alloc (objP c i s k ad n cap)) W.heap.size c i s k ad n cap := by
  refine ⟨?_, ?_, ?_, ?_, ?_, ?_⟩ <;> simp [go_sem]
theorem boxP {w W : World} {c : Int} {i : Bool} {s k : Int} {ad : Option Addr} {n cap : Nat} (h : Below (w.heap.size + 1) (w.alloc (objP c i s k ad n cap)) W) : P5 W w.heap.size c i s k ad n cap := (P5.new w c i s k ad n cap).later (by simpa using h)
theorem out8 {w W : World} {o : Obj} (h : Below (w.heap.size + 1) (w.alloc o) W) : Below w.heap.size w W := (below1 w o).trans (h.mono (by omega))
abbrev ob4 (n : Int) : Obj := .cells #[.int .u8 (n / 16777216), .int .u8 (n / 65536 % 256), .int .u8 (n / 256 % 256), .int .u8 (n % 256)] 5
abbrev ob2 (n : Int) : Obj := .cells #[.int .u8 (n / 256), .int .u8 (n % 256)] 5
theorem row_b4 (w : World) {n : Int} (h0 : 0 ≤ n) (h1 : n ≤ 4294967295) (k : Nat) (hk : k = w.heap.size) : Row8 (w.alloc (ob4 n)) (some ⟨k, 0, none⟩) 4 (b4 n) := row8_at w k hk (b4 n) 5 4 rfl (b4_bytes h0 h1) (by simp [b4])
theorem row_b2 (w : World) {n : Int} (h0 : 0 ≤ n) (h1 : n ≤ 65535) (k : Nat) (hk : k = w.heap.size) : Row8 (w.alloc (ob2 n)) (some ⟨k, 0, none⟩) 2 (b2 n) := row8_at w k hk (b2 n) 5 2 rfl (b2_bytes h0 h1) (by simp [b2])
theorem bytes_two {x y : Int} (hx : 0 ≤ x ∧ x ≤ 255) (hy : 0 ≤ y ∧ y ≤ 255) : Bytes [x, y] := fun v hv => by
  simp only [List.mem_cons, List.not_mem_nil, or_false] at hv
  rcases hv with rfl | rfl <;> assumption
theorem bytes_four {x : Int} (hx : 0 ≤ x ∧ x ≤ 255) : Bytes [x, 0, 0, 0] := fun v hv => by
  simp only [List.mem_cons, List.not_mem_nil, or_false] at hv
  rcases hv with rfl | rfl | rfl | rfl
  · exact hx
  all_goals exact ⟨by decide, by decide⟩
theorem wrap8 {x : Int} (h0 : 0 ≤ x) (h1 : x ≤ 255) : IntKind.u8.wrap x = x := by
  simp [IntKind.wrap, IntKind.signed, IntKind.bits]; omega
theorem wrapU {x : Int} (h0 : 0 ≤ x) (h1 : x ≤ 4294967295) : IntKind.u32.wrap x = x := by
  simp [IntKind.wrap, IntKind.signed, IntKind.bits]; omega
theorem take_next {es : List Ent} {j : Nat} {e : Ent} (h : es[j]? = some e) : es.take (j + 1) = es.take j ++ [e] := by
  rw [List.take_add_one, h]; rfl
theorem may_at {es : List Ent} (h : es.all mayE = true) {j : Nat} {e : Ent} (he : es[j]? = some e) : mayE e = true := List.all_eq_true.1 h e (List.mem_of_getElem? he)
set_option maxHeartbeats 4000000 in
theorem refBytes_any (c : Int) (i : Bool) (s k : Int) (ad : Option Addr) (n cap : Nat) (es : List Ent) (sm : Int) (w : World) (hr : RowE w ad n es) (hn : n ≤ 40) (hm : es.all mayE = true) (c0 : 0 ≤ c) (c1 : c ≤ 3) (s0 : 0 ≤ s) (s1 : s ≤ 4294967295) (k0 : 0 ≤ k) (k1 : k ≤ 4294967295) (m0 : 0 ≤ sm) (m1 : sm ≤ 65535) :
    Calls Try.prog 20 #[valP c i s k ad n cap, .int .u16 sm] w fun e w' => ∃ a m cp, e = .returned (.slice a m cp) ∧ Own8 w' w.heap.size 5 (.slice a m cp) m (bodyB ⟨c, i, s, k, es⟩ sm) ∧ Below w.heap.size w w' := by
  have HR : Hid (RowE w ad n es) := hr
  have HL : Hid (es.length = n) := hr.1
  have HM : Hid (es.all mayE = true) := hm
  have ec : IntKind.u8.wrap c = c := wrap8 c0 (by omega)
  have esm : IntKind.u32.wrap sm = sm := wrapU m0 (by omega)
  have HC : Hid (Bytes [2, c]) := bytes_two (by omega) (by omega)
  clear hr hm
  obtain ⟨u, hu⟩ : ∃ u, ini i = u := ⟨_, rfl⟩
  have HU : Hid (ini i = u) := hu
  have hu01 : 0 ≤ u ∧ u ≤ 255 := by rw [← hu]; unfold ini; cases i <;> decide
  have HU4 : Hid (Bytes [u, 0, 0, 0]) := bytes_four hu01
  have HHd : Hid ((([2, c] ++ b2 sm) ++ [u, 0, 0, 0]) ++ b4 s ++ b4 k = headB ⟨c, i, s, k, es⟩ sm) := by unfold Hid headB; rw [hu]
  cases i
  · obtain rfl := hu
    clear hu01
    go_enter Try.func20, Try.ntmps20
    go_wp2_with (first
      | (go_at_call_of 35 (Value.int IntKind.u32 sm); refine (refPut2 _ _ m0 m1).mono ?_; rintro e W_ ⟨rfl, rfl⟩)
      | (go_at_call_of 35 (Value.int IntKind.u32 s); refine (refPut4 _ _ s0 s1).mono ?_; rintro e W_ ⟨rfl, rfl⟩)
      | (go_at_call_of 35 (Value.int IntKind.u32 k); refine (refPut4 _ _ k0 k1).mono ?_; rintro e W_ ⟨rfl, rfl⟩)
      | (at_builtin; refine wpList_app8 _ rfl (.tmp 15) (.tmp 18) 27 5 rfl (w.heap.size + 1) Try.underlying27 info5 _ 2 [2, c] rfl ((own8_at (w.alloc (objP c _ s k ad n cap)) (w.heap.size + 1) (by simp) (w.heap.size + 1) 5 [2, c] (Nat.le_refl _) (by simp)).alloc _) _ 2 2 (b2 sm) rfl (row_b2 _ m0 m1 _ (by simp)) 4 rfl _ rfl (by omega) (by simp) ?_; intro a1 p1 W1 own1 hb1; have hB1 := (((Below.refl (w.heap.size + 1) (w.alloc (objP c _ s k ad n cap))).alloc (by simp) (.cells #[.int .u8 2, .int .u8 c] 5)).alloc (by simp) (ob2 sm)).trans hb1; obtain ⟨g0, g1, g2, g3, g4, gz⟩ := boxP hB1)
      | (at_builtin; refine wpList_app8 _ rfl (.tmp 20) (.tmp 22) 27 5 rfl (w.heap.size + 1) Try.underlying27 info5 _ 4 _ rfl (own1.alloc _) _ 4 4 [_, 0, 0, 0] rfl (row8_at W1 _ rfl [_, 0, 0, 0] 5 4 rfl HU4.out (by simp)) 8 rfl _ rfl (by omega) (by first | omega | (simp <;> omega)) ?_; intro a2 p2 W2 own2 hb2; have hB2 := (hB1.alloc (by omega) (.cells #[.int .u8 _, .int .u8 0, .int .u8 0, .int .u8 0] 5)).trans hb2; obtain ⟨g0, g1, g2, g3, g4, gz⟩ := boxP hB2)
      | (at_builtin; refine wpList_app8 _ rfl (.tmp 24) (.tmp 27) 27 5 rfl (w.heap.size + 1) Try.underlying27 info5 _ 8 _ rfl (own2.alloc _) _ 4 4 (b4 s) rfl (row_b4 W2 s0 s1 _ rfl) 12 rfl _ rfl (by omega) (by first | omega | (simp <;> omega)) ?_; intro a3 p3 W3 own3 hb3; have hB3 := (hB2.alloc (by omega) (ob4 s)).trans hb3; obtain ⟨g0, g1, g2, g3, g4, gz⟩ := boxP hB3)
      | (at_builtin; refine wpList_app8 _ rfl (.tmp 29) (.tmp 32) 27 5 rfl (w.heap.size + 1) Try.underlying27 info5 _ 12 _ rfl (own3.alloc _) _ 4 4 (b4 k) rfl (row_b4 W3 k0 k1 _ rfl) 16 rfl _ HHd.out (by omega) (by first | omega | (simp <;> omega)) ?_; intro a4 p4 W4 own4 hb4; have hB4 := (hB3.alloc (by omega) (ob4 k)).trans hb4; obtain ⟨g0, g1, g2, g3, g4, gz⟩ := boxP hB4))
    go_loopw [6, 7] (fun u i W => ∃ (j : Nat) (ad' : Option Addr) (cp' : Nat), j ≤ n ∧ i = .int .i64 j ∧ u = .slice ad' (16 + 20 * j) cp' ∧ Hid (Own8 W (w.heap.size + 1) 5 (.slice ad' (16 + 20 * j) cp') (16 + 20 * j) (headB ⟨c, false, s, k, es⟩ sm ++ (es.take j).flatMap entB)) ∧ Below (w.heap.size + 1) (w.alloc (objP c false s k ad n cap)) W) (fun _ i _ => n - (intOf i).toNat)
    case atStart => exact ⟨0, a4, p4, Nat.zero_le _, rfl, rfl, by unfold Hid; simpa using own4, hB4⟩
    case round =>
      clear own1 own2 own3 own4 hb1 hb2 hb3 hb4 hB1 hB2 hB3 hB4
      obtain ⟨j, ad', cp', hj, rfl, rfl, HO, hB⟩ := hrel
      obtain ⟨g0, g1, g2, g3, g4, gz⟩ := boxP hB
      by_cases hlt : j < n
      · have hlt' : (j : Int) < (n : Int) := by omega
        obtain ⟨⟨ea, el, eb, ed, eh, et⟩, b, off, he, hok, rfl, h5⟩ := (HR.out.later (out8 hB)).at hlt
        obtain ⟨d0, d1, d2, d3, d4, d5⟩ := h5
        simp only at d0 d1 d2 d3 d4 d5
        obtain ⟨-, l0, l1, h0, h1, b0, b1, dd0, dd1⟩ := mayE_all (may_at HM.out he)
        simp only at l0 l1 h0 h1 b0 b1 dd0 dd1
        have ea0 : 0 ≤ ea := hok.a0
        have ea1 : ea ≤ 4294967295 := by have := hok.a1; simp only at this; omega
        have et0 : 0 ≤ et := hok.t0
        have et1 : et ≤ 65535 := hok.t1
        have wl : IntKind.u8.wrap el = el := wrap8 l0 (by omega)
        have wh : IntKind.u8.wrap eh = eh := wrap8 h0 (by omega)
        have wt' : IntKind.u32.wrap et = et := wrapU et0 (by omega)
        have wb : IntKind.u32.wrap eb = eb := wrapU b0 (by omega)
        have wd : IntKind.u32.wrap ed = ed := wrapU dd0 (by omega)
        have HT : Hid (es.take (j + 1) = es.take j ++ [⟨ea, el, eb, ed, eh, et⟩]) := take_next he
        have HLH : Hid (Bytes [el, eh]) := bytes_two ⟨l0, by omega⟩ ⟨h0, by omega⟩
        have HZ : Hid (Bytes [0, 0, 0, 0]) := bytes_four ⟨by decide, by decide⟩
        have ne0 := HO.out.not_new
        obtain ⟨m, hm⟩ : ∃ m, 16 + 20 * j = m := ⟨_, rfl⟩
        have HMM : Hid (16 + 20 * j = m) := hm
        have hmb : m ≤ 816 := by omega
        rw [hm] at HO
        rw [hm] at ne0
        rw [hm]
        clear hok he hm
        go_wp2_with (first
          | (go_at_call_of 35 (Value.int IntKind.u32 ea); refine (refPut4 _ _ ea0 ea1).mono ?_; rintro e W_ ⟨rfl, rfl⟩)
          | (go_at_call_of 35 (Value.int IntKind.u32 et); refine (refPut2 _ _ et0 et1).mono ?_; rintro e W_ ⟨rfl, rfl⟩)
          | (go_at_call_of 35 (Value.int IntKind.u32 eb); refine (refPut4 _ _ b0 (by omega)).mono ?_; rintro e W_ ⟨rfl, rfl⟩)
          | (go_at_call_of 35 (Value.int IntKind.u32 ed); refine (refPut4 _ _ dd0 (by omega)).mono ?_; rintro e W_ ⟨rfl, rfl⟩)
          | (at_builtin; refine wpList_app8f _ wr.heap.size rfl (.tmp 46) (.tmp 50) 27 5 rfl (by first | omega | (simp <;> omega)) (w.heap.size + 1) Try.underlying27 info5 _ (m) _ rfl ((HO.out.alloc _).alloc _) ne0 _ 4 4 (b4 ea) rfl (row_b4 _ ea0 ea1 _ (by simp)) (m + 4) (by omega) _ rfl (by omega) (by first | omega | (simp <;> omega)) ?_; intro a1 p1 W1 own1 hb1 ne1 far1 sz1; have F1 := ((E6.new wr ea el eb ed eh et).later (below1 _ _)).far far1; clear far1; have hB1 := ((hB.alloc (by omega) (objE ea el eb ed eh et)).alloc (by first | omega | (simp <;> omega)) (ob4 ea)).trans hb1; obtain ⟨q0, q1, q2, q3, q4, q5⟩ := F1.z; have zz1 : wr.heap.size < W1.heap.size := by { simp at sz1; omega })
          | (at_builtin; refine wpList_app8f _ wr.heap.size rfl (.tmp 52) (.tmp 61) 27 5 rfl (by first | omega | (simp <;> omega)) (w.heap.size + 1) Try.underlying27 info5 _ (m + 4) _ rfl (own1.alloc _) ne1 _ 2 2 ([el, eh]) rfl (row8_at _ _ (by simp) [el, eh] 5 2 rfl HLH.out (by simp)) (m + 6) (by omega) _ rfl (by omega) (by first | omega | (simp <;> omega)) ?_; intro a2 p2 W2 own2 hb2 ne2 far2 sz2; have F2 := (F1.later (below1 _ _)).far far2; clear far2; have hB2 := (hB1.alloc (by omega) (.cells #[.int .u8 el, .int .u8 eh] 5)).trans hb2; obtain ⟨q0, q1, q2, q3, q4, q5⟩ := F2.z; have zz2 : wr.heap.size < W2.heap.size := by { simp at sz2; omega })
          | (at_builtin; refine wpList_app8f _ wr.heap.size rfl (.tmp 63) (.tmp 67) 27 5 rfl (by first | omega | (simp <;> omega)) (w.heap.size + 1) Try.underlying27 info5 _ (m + 6) _ rfl (own2.alloc _) ne2 _ 2 2 (b2 et) rfl (row_b2 _ et0 et1 _ (by simp)) (m + 8) (by omega) _ rfl (by omega) (by first | omega | (simp <;> omega)) ?_; intro a3 p3 W3 own3 hb3 ne3 far3 sz3; have F3 := (F2.later (below1 _ _)).far far3; clear far3; have hB3 := (hB2.alloc (by omega) (ob2 et)).trans hb3; obtain ⟨q0, q1, q2, q3, q4, q5⟩ := F3.z; have zz3 : wr.heap.size < W3.heap.size := by { simp at sz3; omega })
          | (at_builtin; refine wpList_app8f _ wr.heap.size rfl (.tmp 69) (.tmp 74) 27 5 rfl (by first | omega | (simp <;> omega)) (w.heap.size + 1) Try.underlying27 info5 _ (m + 8) _ rfl (own3.alloc _) ne3 _ 4 4 (b4 eb) rfl (row_b4 _ b0 (by omega) _ (by simp)) (m + 12) (by omega) _ rfl (by omega) (by first | omega | (simp <;> omega)) ?_; intro a4 p4 W4 own4 hb4 ne4 far4 sz4; have F4 := (F3.later (below1 _ _)).far far4; clear far4; have hB4 := (hB3.alloc (by omega) (ob4 eb)).trans hb4; obtain ⟨q0, q1, q2, q3, q4, q5⟩ := F4.z; have zz4 : wr.heap.size < W4.heap.size := by { simp at sz4; omega })
          | (at_builtin; refine wpList_app8f _ wr.heap.size rfl (.tmp 76) (.tmp 81) 27 5 rfl (by first | omega | (simp <;> omega)) (w.heap.size + 1) Try.underlying27 info5 _ (m + 12) _ rfl (own4.alloc _) ne4 _ 4 4 (b4 ed) rfl (row_b4 _ dd0 (by omega) _ (by simp)) (m + 16) (by omega) _ rfl (by omega) (by first | omega | (simp <;> omega)) ?_; intro a5 p5 W5 own5 hb5 ne5 far5 sz5; have F5 := (F4.later (below1 _ _)).far far5; clear far5; have hB5 := (hB4.alloc (by omega) (ob4 ed)).trans hb5; obtain ⟨q0, q1, q2, q3, q4, q5⟩ := F5.z; have zz5 : wr.heap.size < W5.heap.size := by { simp at sz5; omega })
          | (at_builtin; refine wpList_app8f _ wr.heap.size rfl (.tmp 83) (.tmp 84) 27 5 rfl (by first | omega | (simp <;> omega)) (w.heap.size + 1) Try.underlying27 info5 _ (m + 16) _ rfl (own5.alloc _) ne5 _ 4 4 ([0, 0, 0, 0]) rfl (row8_at _ _ (by simp) [0, 0, 0, 0] 5 4 rfl HZ.out (by simp)) (m + 20) (by omega) _ rfl (by omega) (by first | omega | (simp <;> omega)) ?_; intro a6 p6 W6 own6 hb6 ne6 far6 sz6; have F6 := (F5.later (below1 _ _)).far far6; clear far6; have hB6 := (hB5.alloc (by omega) (.cells #[.int .u8 0, .int .u8 0, .int .u8 0, .int .u8 0] 5)).trans hb6; obtain ⟨q0, q1, q2, q3, q4, q5⟩ := F6.z; have zz6 : wr.heap.size < W6.heap.size := by { simp at sz6; omega }))
        go_roundw
        case rel => exact ⟨j + 1, a6, p6, by omega, by go_num, by have := HMM.out; rw [show 16 + 20 * (j + 1) = m + 20 by omega], by unfold Hid; have := HMM.out; rw [show 16 + 20 * (j + 1) = m + 20 by omega, HT.out, List.flatMap_append]; simpa [entB, List.append_assoc] using own6, hB6⟩
        case measure => simp [intOf]; omega
      · have hlt' : ¬ (j : Int) < (n : Int) := by omega
        obtain rfl : j = n := by omega
        have hfin : es.take j = es := by rw [← HL.out]; exact List.take_length
        rw [hfin] at HO
        clear hfin
        go_wp2
        go_ret
        refine ⟨ad', _, cp', rfl, ?_, out8 hB⟩
        exact HO.out.base (by omega)
  · obtain rfl := hu
    clear hu01
    go_enter Try.func20, Try.ntmps20
    go_wp2_with (first
      | (go_at_call_of 35 (Value.int IntKind.u32 sm); refine (refPut2 _ _ m0 m1).mono ?_; rintro e W_ ⟨rfl, rfl⟩)
      | (go_at_call_of 35 (Value.int IntKind.u32 s); refine (refPut4 _ _ s0 s1).mono ?_; rintro e W_ ⟨rfl, rfl⟩)
      | (go_at_call_of 35 (Value.int IntKind.u32 k); refine (refPut4 _ _ k0 k1).mono ?_; rintro e W_ ⟨rfl, rfl⟩)
      | (at_builtin; refine wpList_app8 _ rfl (.tmp 15) (.tmp 18) 27 5 rfl (w.heap.size + 1) Try.underlying27 info5 _ 2 [2, c] rfl ((own8_at (w.alloc (objP c _ s k ad n cap)) (w.heap.size + 1) (by simp) (w.heap.size + 1) 5 [2, c] (Nat.le_refl _) (by simp)).alloc _) _ 2 2 (b2 sm) rfl (row_b2 _ m0 m1 _ (by simp)) 4 rfl _ rfl (by omega) (by simp) ?_; intro a1 p1 W1 own1 hb1; have hB1 := (((Below.refl (w.heap.size + 1) (w.alloc (objP c _ s k ad n cap))).alloc (by simp) (.cells #[.int .u8 2, .int .u8 c] 5)).alloc (by simp) (ob2 sm)).trans hb1; obtain ⟨g0, g1, g2, g3, g4, gz⟩ := boxP hB1)
      | (at_builtin; refine wpList_app8 _ rfl (.tmp 20) (.tmp 22) 27 5 rfl (w.heap.size + 1) Try.underlying27 info5 _ 4 _ rfl (own1.alloc _) _ 4 4 [_, 0, 0, 0] rfl (row8_at W1 _ rfl [_, 0, 0, 0] 5 4 rfl HU4.out (by simp)) 8 rfl _ rfl (by omega) (by first | omega | (simp <;> omega)) ?_; intro a2 p2 W2 own2 hb2; have hB2 := (hB1.alloc (by omega) (.cells #[.int .u8 _, .int .u8 0, .int .u8 0, .int .u8 0] 5)).trans hb2; obtain ⟨g0, g1, g2, g3, g4, gz⟩ := boxP hB2)
      | (at_builtin; refine wpList_app8 _ rfl (.tmp 24) (.tmp 27) 27 5 rfl (w.heap.size + 1) Try.underlying27 info5 _ 8 _ rfl (own2.alloc _) _ 4 4 (b4 s) rfl (row_b4 W2 s0 s1 _ rfl) 12 rfl _ rfl (by omega) (by first | omega | (simp <;> omega)) ?_; intro a3 p3 W3 own3 hb3; have hB3 := (hB2.alloc (by omega) (ob4 s)).trans hb3; obtain ⟨g0, g1, g2, g3, g4, gz⟩ := boxP hB3)
      | (at_builtin; refine wpList_app8 _ rfl (.tmp 29) (.tmp 32) 27 5 rfl (w.heap.size + 1) Try.underlying27 info5 _ 12 _ rfl (own3.alloc _) _ 4 4 (b4 k) rfl (row_b4 W3 k0 k1 _ rfl) 16 rfl _ HHd.out (by omega) (by first | omega | (simp <;> omega)) ?_; intro a4 p4 W4 own4 hb4; have hB4 := (hB3.alloc (by omega) (ob4 k)).trans hb4; obtain ⟨g0, g1, g2, g3, g4, gz⟩ := boxP hB4))
    go_loopw [6, 7] (fun u i W => ∃ (j : Nat) (ad' : Option Addr) (cp' : Nat), j ≤ n ∧ i = .int .i64 j ∧ u = .slice ad' (16 + 20 * j) cp' ∧ Hid (Own8 W (w.heap.size + 1) 5 (.slice ad' (16 + 20 * j) cp') (16 + 20 * j) (headB ⟨c, true, s, k, es⟩ sm ++ (es.take j).flatMap entB)) ∧ Below (w.heap.size + 1) (w.alloc (objP c true s k ad n cap)) W) (fun _ i _ => n - (intOf i).toNat)
    case atStart => exact ⟨0, a4, p4, Nat.zero_le _, rfl, rfl, by unfold Hid; simpa using own4, hB4⟩
    case round =>
      clear own1 own2 own3 own4 hb1 hb2 hb3 hb4 hB1 hB2 hB3 hB4
      obtain ⟨j, ad', cp', hj, rfl, rfl, HO, hB⟩ := hrel
      obtain ⟨g0, g1, g2, g3, g4, gz⟩ := boxP hB
      by_cases hlt : j < n
      · have hlt' : (j : Int) < (n : Int) := by omega
        obtain ⟨⟨ea, el, eb, ed, eh, et⟩, b, off, he, hok, rfl, h5⟩ := (HR.out.later (out8 hB)).at hlt
        obtain ⟨d0, d1, d2, d3, d4, d5⟩ := h5
        simp only at d0 d1 d2 d3 d4 d5
        obtain ⟨-, l0, l1, h0, h1, b0, b1, dd0, dd1⟩ := mayE_all (may_at HM.out he)
        simp only at l0 l1 h0 h1 b0 b1 dd0 dd1
        have ea0 : 0 ≤ ea := hok.a0
        have ea1 : ea ≤ 4294967295 := by have := hok.a1; simp only at this; omega
        have et0 : 0 ≤ et := hok.t0
        have et1 : et ≤ 65535 := hok.t1
        have wl : IntKind.u8.wrap el = el := wrap8 l0 (by omega)
        have wh : IntKind.u8.wrap eh = eh := wrap8 h0 (by omega)
        have wt' : IntKind.u32.wrap et = et := wrapU et0 (by omega)
        have wb : IntKind.u32.wrap eb = eb := wrapU b0 (by omega)
        have wd : IntKind.u32.wrap ed = ed := wrapU dd0 (by omega)
        have HT : Hid (es.take (j + 1) = es.take j ++ [⟨ea, el, eb, ed, eh, et⟩]) := take_next he
        have HLH : Hid (Bytes [el, eh]) := bytes_two ⟨l0, by omega⟩ ⟨h0, by omega⟩
        have HZ : Hid (Bytes [0, 0, 0, 0]) := bytes_four ⟨by decide, by decide⟩
        have ne0 := HO.out.not_new
        obtain ⟨m, hm⟩ : ∃ m, 16 + 20 * j = m := ⟨_, rfl⟩
        have HMM : Hid (16 + 20 * j = m) := hm
        have hmb : m ≤ 816 := by omega
        rw [hm] at HO
        rw [hm] at ne0
        rw [hm]
        clear hok he hm
        go_wp2_with (first
          | (go_at_call_of 35 (Value.int IntKind.u32 ea); refine (refPut4 _ _ ea0 ea1).mono ?_; rintro e W_ ⟨rfl, rfl⟩)
          | (go_at_call_of 35 (Value.int IntKind.u32 et); refine (refPut2 _ _ et0 et1).mono ?_; rintro e W_ ⟨rfl, rfl⟩)
          | (go_at_call_of 35 (Value.int IntKind.u32 eb); refine (refPut4 _ _ b0 (by omega)).mono ?_; rintro e W_ ⟨rfl, rfl⟩)
          | (go_at_call_of 35 (Value.int IntKind.u32 ed); refine (refPut4 _ _ dd0 (by omega)).mono ?_; rintro e W_ ⟨rfl, rfl⟩)
          | (at_builtin; refine wpList_app8f _ wr.heap.size rfl (.tmp 46) (.tmp 50) 27 5 rfl (by first | omega | (simp <;> omega)) (w.heap.size + 1) Try.underlying27 info5 _ (m) _ rfl ((HO.out.alloc _).alloc _) ne0 _ 4 4 (b4 ea) rfl (row_b4 _ ea0 ea1 _ (by simp)) (m + 4) (by omega) _ rfl (by omega) (by first | omega | (simp <;> omega)) ?_; intro a1 p1 W1 own1 hb1 ne1 far1 sz1; have F1 := ((E6.new wr ea el eb ed eh et).later (below1 _ _)).far far1; clear far1; have hB1 := ((hB.alloc (by omega) (objE ea el eb ed eh et)).alloc (by first | omega | (simp <;> omega)) (ob4 ea)).trans hb1; obtain ⟨q0, q1, q2, q3, q4, q5⟩ := F1.z; have zz1 : wr.heap.size < W1.heap.size := by { simp at sz1; omega })
          | (at_builtin; refine wpList_app8f _ wr.heap.size rfl (.tmp 52) (.tmp 61) 27 5 rfl (by first | omega | (simp <;> omega)) (w.heap.size + 1) Try.underlying27 info5 _ (m + 4) _ rfl (own1.alloc _) ne1 _ 2 2 ([el, eh]) rfl (row8_at _ _ (by simp) [el, eh] 5 2 rfl HLH.out (by simp)) (m + 6) (by omega) _ rfl (by omega) (by first | omega | (simp <;> omega)) ?_; intro a2 p2 W2 own2 hb2 ne2 far2 sz2; have F2 := (F1.later (below1 _ _)).far far2; clear far2; have hB2 := (hB1.alloc (by omega) (.cells #[.int .u8 el, .int .u8 eh] 5)).trans hb2; obtain ⟨q0, q1, q2, q3, q4, q5⟩ := F2.z; have zz2 : wr.heap.size < W2.heap.size := by { simp at sz2; omega })
          | (at_builtin; refine wpList_app8f _ wr.heap.size rfl (.tmp 63) (.tmp 67) 27 5 rfl (by first | omega | (simp <;> omega)) (w.heap.size + 1) Try.underlying27 info5 _ (m + 6) _ rfl (own2.alloc _) ne2 _ 2 2 (b2 et) rfl (row_b2 _ et0 et1 _ (by simp)) (m + 8) (by omega) _ rfl (by omega) (by first | omega | (simp <;> omega)) ?_; intro a3 p3 W3 own3 hb3 ne3 far3 sz3; have F3 := (F2.later (below1 _ _)).far far3; clear far3; have hB3 := (hB2.alloc (by omega) (ob2 et)).trans hb3; obtain ⟨q0, q1, q2, q3, q4, q5⟩ := F3.z; have zz3 : wr.heap.size < W3.heap.size := by { simp at sz3; omega })
          | (at_builtin; refine wpList_app8f _ wr.heap.size rfl (.tmp 69) (.tmp 74) 27 5 rfl (by first | omega | (simp <;> omega)) (w.heap.size + 1) Try.underlying27 info5 _ (m + 8) _ rfl (own3.alloc _) ne3 _ 4 4 (b4 eb) rfl (row_b4 _ b0 (by omega) _ (by simp)) (m + 12) (by omega) _ rfl (by omega) (by first | omega | (simp <;> omega)) ?_; intro a4 p4 W4 own4 hb4 ne4 far4 sz4; have F4 := (F3.later (below1 _ _)).far far4; clear far4; have hB4 := (hB3.alloc (by omega) (ob4 eb)).trans hb4; obtain ⟨q0, q1, q2, q3, q4, q5⟩ := F4.z; have zz4 : wr.heap.size < W4.heap.size := by { simp at sz4; omega })
          | (at_builtin; refine wpList_app8f _ wr.heap.size rfl (.tmp 76) (.tmp 81) 27 5 rfl (by first | omega | (simp <;> omega)) (w.heap.size + 1) Try.underlying27 info5 _ (m + 12) _ rfl (own4.alloc _) ne4 _ 4 4 (b4 ed) rfl (row_b4 _ dd0 (by omega) _ (by simp)) (m + 16) (by omega) _ rfl (by omega) (by first | omega | (simp <;> omega)) ?_; intro a5 p5 W5 own5 hb5 ne5 far5 sz5; have F5 := (F4.later (below1 _ _)).far far5; clear far5; have hB5 := (hB4.alloc (by omega) (ob4 ed)).trans hb5; obtain ⟨q0, q1, q2, q3, q4, q5⟩ := F5.z; have zz5 : wr.heap.size < W5.heap.size := by { simp at sz5; omega })
          | (at_builtin; refine wpList_app8f _ wr.heap.size rfl (.tmp 83) (.tmp 84) 27 5 rfl (by first | omega | (simp <;> omega)) (w.heap.size + 1) Try.underlying27 info5 _ (m + 16) _ rfl (own5.alloc _) ne5 _ 4 4 ([0, 0, 0, 0]) rfl (row8_at _ _ (by simp) [0, 0, 0, 0] 5 4 rfl HZ.out (by simp)) (m + 20) (by omega) _ rfl (by omega) (by first | omega | (simp <;> omega)) ?_; intro a6 p6 W6 own6 hb6 ne6 far6 sz6; have F6 := (F5.later (below1 _ _)).far far6; clear far6; have hB6 := (hB5.alloc (by omega) (.cells #[.int .u8 0, .int .u8 0, .int .u8 0, .int .u8 0] 5)).trans hb6; obtain ⟨q0, q1, q2, q3, q4, q5⟩ := F6.z; have zz6 : wr.heap.size < W6.heap.size := by { simp at sz6; omega }))
        go_roundw
        case rel => exact ⟨j + 1, a6, p6, by omega, by go_num, by have := HMM.out; rw [show 16 + 20 * (j + 1) = m + 20 by omega], by unfold Hid; have := HMM.out; rw [show 16 + 20 * (j + 1) = m + 20 by omega, HT.out, List.flatMap_append]; simpa [entB, List.append_assoc] using own6, hB6⟩
        case measure => simp [intOf]; omega
      · have hlt' : ¬ (j : Int) < (n : Int) := by omega
        obtain rfl : j = n := by omega
        have hfin : es.take j = es := by rw [← HL.out]; exact List.take_length
        rw [hfin] at HO
        clear hfin
        go_wp2
        go_ret
        refine ⟨ad', _, cp', rfl, ?_, out8 hB⟩
        exact HO.out.base (by omega)
end Go.Proofs.Ytnlgdkbpolckcaa
