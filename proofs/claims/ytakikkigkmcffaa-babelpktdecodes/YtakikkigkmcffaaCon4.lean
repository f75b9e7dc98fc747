/- Contracts of the functions that make bytes: addr, Squeeze of the document, put16, put64, two, long, tlv, head, putTag. -/
import Derived.Test.YtakikkigkmcffaaCon3
namespace Go.Proofs.Ytakikkigkmcffaa
open Go.RowKit

theorem Own8.later {w w' : World} {base : Nat} {e : TypeId} {v : Value} {n : Nat} {l : List Int} (h : Own8 w base e v n l) (hb : Below w.heap.size w w') : Own8 w' base e v n l := by
  refine ⟨h.1, ?_⟩
  rcases h.2 with hn | ⟨g, cap, cur, hv, hbg, hg, r⟩
  · exact .inl hn
  · refine .inr ⟨g, cap, cur, hv, hbg, ?_, r⟩
    rw [hb.block g (Array.getElem?_eq_some_iff.1 hg).1]
    exact hg
theorem Own8.base {w : World} {b b' : Nat} {e : TypeId} {v : Value} {n : Nat} {l : List Int} (h : Own8 w b e v n l) (hb : b' ≤ b) : Own8 w b' e v n l := by
  refine ⟨h.1, ?_⟩
  rcases h.2 with hn | ⟨g, cap, cur, hv, hbg, r⟩
  · exact .inl hn
  · exact .inr ⟨g, cap, cur, hv, Nat.le_trans hb hbg, r⟩
theorem Own8.len {w : World} {base : Nat} {e : TypeId} {v : Value} {n : Nat} {l : List Int} (h : Own8 w base e v n l) : l.length = n := by have := h.1; simpa using this

abbrev ob4 (n : Int) : Obj := .cells #[.int .u8 (n / 16777216), .int .u8 (n / 65536 % 256), .int .u8 (n / 256 % 256), .int .u8 (n % 256)] 5
abbrev ob2 (n : Int) : Obj := .cells #[.int .u8 (n / 256), .int .u8 (n % 256)] 5
theorem refAddr_any (x : Int) (n : Nat) (w : World) (h0 : 0 ≤ x) (h1 : x < 4294967296) (hn : n ≤ 4) :
    Calls Try.prog 29 #[.int .u32 x, .int .i64 n] w fun e w' => e = .returned (.slice (some ⟨w.heap.size, 0, none⟩) n 4) ∧ w' = w.alloc (ob4 x) := by
  go_enter Try.func29, Try.ntmps29
  go_wp2_with (go_at_call 47; refine (refPut4 _ _ h0 (by omega)).mono ?_; rintro e w' ⟨rfl, rfl⟩)
  go_ret
  exact ⟨rfl, rfl⟩
theorem put16i_any (n : Int) (w : World) (h0 : 0 ≤ n) (h1 : n ≤ 65535) :
    Calls Try.prog 41 #[.int .i64 n] w fun e w' => e = .returned (.slice (some ⟨w.heap.size, 0, none⟩) 2 2) ∧ w' = w.alloc (ob2 n) := by
  go_enter Try.func41, Try.ntmps41
  go_wp2_with (go_at_call 42; refine (put16_any _ _ h0 h1).mono ?_; rintro e w' ⟨rfl, rfl⟩)
  go_ret
  exact ⟨rfl, rfl⟩
theorem two_any (n : Int) (w : World) (h0 : 0 ≤ n) (h1 : n ≤ 65535) :
    Calls Try.prog 27 #[.int .i64 n] w fun e w' => e = .returned (.slice (some ⟨w.heap.size, 0, none⟩) 2 2) ∧ w' = w.alloc (ob2 n) := by
  go_enter Try.func27, Try.ntmps27
  go_wp2_with (go_at_call 47; refine (refPut2 _ _ h0 h1).mono ?_; rintro e w' ⟨rfl, rfl⟩)
  go_ret
  exact ⟨rfl, rfl⟩
theorem row_b4 (w : World) {n : Int} (h0 : 0 ≤ n) (h1 : n ≤ 4294967295) (k : Nat) (hk : k = w.heap.size) : Row8 (w.alloc (ob4 n)) (some ⟨k, 0, none⟩) 4 (b4 n) := row8_at w k hk (b4 n) 5 4 rfl (b4_bytes h0 h1) (by simp [b4])
theorem row_b2 (w : World) {n : Int} (h0 : 0 ≤ n) (h1 : n ≤ 65535) (k : Nat) (hk : k = w.heap.size) : Row8 (w.alloc (ob2 n)) (some ⟨k, 0, none⟩) 2 (b2 n) := row8_at w k hk (b2 n) 5 2 rfl (b2_bytes h0 h1) (by simp [b2])
theorem own_b4 (w : World) (n : Int) (k : Nat) (hk : k = w.heap.size) : Own8 (w.alloc (ob4 n)) k 5 (.slice (some ⟨k, 0, none⟩) 4 4) 4 (b4 n) := own8_at w k hk k 5 (b4 n) (Nat.le_refl _) (by simp [b4])
theorem own_b2 (w : World) (n : Int) (k : Nat) (hk : k = w.heap.size) : Own8 (w.alloc (ob2 n)) k 5 (.slice (some ⟨k, 0, none⟩) 2 2) 2 (b2 n) := own8_at w k hk k 5 (b2 n) (Nat.le_refl _) (by simp [b2])
/-- New bytes. -/
def New8 (w : World) (n : Nat) (l : List Int) (e : Ending) (w' : World) : Prop := ∃ ad c, e = .returned (.slice ad n c) ∧ Own8 w' w.heap.size 5 (.slice ad n c) n l ∧ Below w.heap.size w w'
set_option maxHeartbeats 400000 in
theorem put64_any (n : Int) (w : World) (h0 : 0 ≤ n) (h1 : n ≤ 18446744073709551615) : Calls Try.prog 44 #[.int .u64 n] w (New8 w 8 (b8 n)) := by
  obtain ⟨hi, hhi⟩ : ∃ hi, n / 4294967296 = hi := ⟨_, rfl⟩
  obtain ⟨lo, hlo⟩ : ∃ lo, n % 4294967296 = lo := ⟨_, rfl⟩
  have HL : Hid (b4 hi ++ b4 lo = b8 n) := by unfold Hid b8; rw [hhi, hlo]
  have g0 : 0 ≤ hi := by omega
  have g1 : hi ≤ 4294967295 := by omega
  have h3 : 0 ≤ lo := by omega
  have h4 : lo ≤ 4294967295 := by omega
  go_enter Try.func44, Try.ntmps44
  go_wp2_with (first
    | (go_at_call 37; refine (put32_any _ _ (by omega) (by omega)).mono ?_; rintro e w' ⟨rfl, rfl⟩)
    | (at_builtin; (refine wpList_app8 _ rfl (.tmp 6) (.tmp 9) 25 5 rfl w.heap.size Try.underlying25 info5 _ 4 (b4 hi) rfl ((own_b4 w _ _ rfl).alloc _) _ 4 4 (b4 lo) rfl (row_b4 _ h3 h4 _ (by first | rfl | simp)) 8 rfl (b8 n) HL.out (by omega) (by simp; omega) ?_; intro a3 c3 W3 own3 hb3)))
  go_ret
  exact ⟨a3, c3, rfl, own3, (below2 _ _ _).trans hb3⟩
set_option maxHeartbeats 400000 in
theorem long_any (n : Int) (w : World) (h0 : 0 ≤ n) (h1 : n ≤ 18446744073709551615) : Calls Try.prog 24 #[.int .u64 n] w (New8 w 8 (b8 n)) := by
  obtain ⟨hi, hhi⟩ : ∃ hi, n / 4294967296 = hi := ⟨_, rfl⟩
  obtain ⟨lo, hlo⟩ : ∃ lo, n % 4294967296 = lo := ⟨_, rfl⟩
  have HL : Hid (b4 hi ++ b4 lo = b8 n) := by unfold Hid b8; rw [hhi, hlo]
  have g0 : 0 ≤ hi := by omega
  have g1 : hi ≤ 4294967295 := by omega
  have h3 : 0 ≤ lo := by omega
  have h4 : lo ≤ 4294967295 := by omega
  go_enter Try.func24, Try.ntmps24
  go_wp2_with (first
    | (go_at_call 47; refine (refPut4 _ _ (by omega) (by omega)).mono ?_; rintro e w' ⟨rfl, rfl⟩)
    | (at_builtin; refine wpList_app8 _ rfl (.tmp 8) (.tmp 12) 25 5 rfl w.heap.size Try.underlying25 info5 _ 4 (b4 hi) rfl ((own_b4 w _ _ rfl).alloc _) _ 4 4 (b4 lo) rfl (row_b4 _ h3 h4 _ (by first | rfl | simp)) 8 rfl (b8 n) HL.out (by omega) (by simp; omega) ?_; intro a3 c3 W3 own3 hb3))
  go_ret
  exact ⟨a3, c3, rfl, own3, (below2 _ _ _).trans hb3⟩
set_option maxHeartbeats 400000 in
theorem head_any (n : Int) (w : World) (h0 : 0 ≤ n) (h1 : n ≤ 65535) : Calls Try.prog 21 #[.int .i64 n] w (New8 w 4 ([42, 2] ++ b2 n)) := by
  go_enter Try.func21, Try.ntmps21
  go_wp2_with (first
    | (go_at_call 42; refine (put16_any _ _ h0 h1).mono ?_; rintro e w' ⟨rfl, rfl⟩)
    | (at_builtin; refine wpList_app8 _ rfl (.tmp 3) (.tmp 6) 25 5 rfl w.heap.size Try.underlying25 info5 _ 2 [42, 2] rfl ((own8_at w _ rfl w.heap.size 5 [42, 2] (Nat.le_refl _) (by simp)).alloc _) _ 2 2 (b2 n) rfl (row_b2 _ h0 h1 _ (by simp)) 4 rfl ([42, 2] ++ b2 n) rfl (by omega) (by simp; omega) ?_; intro a3 c3 W3 own3 hb3))
  go_ret
  exact ⟨a3, c3, rfl, own3, (below2 _ _ _).trans hb3⟩
set_option maxHeartbeats 400000 in
theorem refTlv_any (k : Int) (a : Option Addr) (m cap : Nat) (l : List Int) (w : World) (hr : Row8 w a m l) (hm : m ≤ 255) :
    Calls Try.prog 25 #[.int .u8 k, .slice a m cap] w (New8 w (2 + m) (tlvB k l)) := by
  have HR : Hid (Row8 w a m l) := hr
  have HL : Hid ([k, (m : Int)] ++ l = tlvB k l) := by unfold Hid tlvB; rw [hr.1]
  clear hr
  go_enter Try.func25, Try.ntmps25
  go_wp2_with (first
    | (at_builtin; refine wpList_app8 _ rfl (.tmp 11) (.tmp 12) 25 5 rfl w.heap.size Try.underlying25 info5 _ 2 [k, (m : Int)] rfl (own8_at w _ rfl w.heap.size 5 [k, (m : Int)] (Nat.le_refl _) (by simp)) _ m cap l rfl (HR.out.later (below1 _ _)) (2 + m) rfl (tlvB k l) HL.out (by omega) (by simp) ?_; intro a3 c3 W3 own3 hb3))
  go_ret
  exact ⟨a3, c3, rfl, own3, (below1 _ _).trans hb3⟩
/-- What is known of a slice of rows of bytes. -/
def RowL (W : World) (a : Option Addr) (n : Nat) (Ls : List (List Int)) : Prop :=
  Ls.length = n ∧ ∀ (i : Nat) (L : List Int), Ls[i]? = some L → ∃ b off ad c, a = some ⟨b, off, none⟩ ∧ W.cell? ⟨b, off + i, none⟩ = some (.slice ad L.length c) ∧ Row8 W ad L.length L
theorem RowL.later {W W' : World} {a : Option Addr} {n : Nat} {Ls : List (List Int)} (h : RowL W a n Ls) (hb : Below W.heap.size W W') : RowL W' a n Ls :=
  ⟨h.1, fun i L hi => by obtain ⟨b, off, ad, c, e, h1, h2⟩ := h.2 i L hi; exact ⟨b, off, ad, c, e, cell_later hb h1, h2.later hb⟩⟩
theorem flat_take {Ls : List (List Int)} {k : Nat} {L : List Int} (h : Ls[k]? = some L) : (Ls.take k).flatten ++ L = (Ls.take (k + 1)).flatten := by
  have hk : k < Ls.length := (List.getElem?_eq_some_iff.1 h).1
  rw [List.take_succ_eq_append_getElem hk, List.flatten_append, (List.getElem?_eq_some_iff.1 h).2]
  simp
theorem flat_le {Ls : List (List Int)} (k : Nat) : (Ls.take k).flatten.length ≤ Ls.flatten.length := by
  have : Ls.flatten = (Ls.take k).flatten ++ (Ls.drop k).flatten := by rw [← List.flatten_append, List.take_append_drop]
  rw [this, List.length_append]; omega
set_option maxHeartbeats 1000000 in
theorem tlv_any (k : Int) (a : Option Addr) (n cap : Nat) (Ls : List (List Int)) (m : Nat) (L : List Int) (w : World) (hr : RowL w a n Ls) (hn : n ≤ 6) (hL : Ls.flatten = L) (hm : L.length = m) (hm2 : m ≤ 255) :
    Calls Try.prog 40 #[.int .u8 k, .slice a n cap] w (New8 w (2 + m) (tlvB k L)) := by
  subst hL hm
  have HR : Hid (RowL w a n Ls) := hr
  have HN : Hid (Ls.length = n) := hr.1
  clear hr
  go_enter Try.func40, Try.ntmps40
  go_wp2
  go_loopw [5, 10] (fun u i W => ∃ j : Nat, ∃ ad q cp, j ≤ n ∧ q ≤ 255 ∧ i = .int .i64 j ∧ u = .slice ad q cp ∧ Hid (Own8 W w.heap.size 5 (.slice ad q cp) q (Ls.take j).flatten) ∧ Below w.heap.size w W) (fun _ i _ => n - (intOf i).toNat)
  case atStart => exact ⟨0, none, 0, 0, Nat.zero_le _, by omega, rfl, rfl, own8_nil _ _ _, Below.refl _ _⟩
  case round =>
    obtain ⟨j, ad, q, cp, hj, hq, rfl, rfl, HO, hB⟩ := hrel
    by_cases hlt : j < n
    · have hlt' : (j : Int) < (n : Int) := by omega
      have hjl : j < Ls.length := by rw [HN.out]; exact hlt
      obtain ⟨b, off, ad2, c2, rfl, hc, hrow⟩ := (HR.out.later hB).2 j _ (List.getElem?_eq_getElem hjl)
      have HF : Hid ((Ls.take j).flatten ++ Ls[j] = (Ls.take (j + 1)).flatten) := flat_take (List.getElem?_eq_getElem hjl)
      have hq2 : q + Ls[j].length ≤ 255 := by
        have h1 := congrArg List.length HF.out
        have h2 := flat_le (Ls := Ls) (j + 1)
        have h3 := HO.out.len
        rw [List.length_append] at h1
        omega
      have HRow : Hid (Row8 wr ad2 Ls[j].length Ls[j]) := hrow
      clear hrow
      generalize hx : Ls[j].length = x at *
      go_wp2_with (first
        | (at_builtin; refine wpList_app8 _ rfl (.tmp 14) (.tmp 15) 25 5 rfl w.heap.size Try.underlying25 info5 _ q _ rfl HO.out _ x c2 _ rfl HRow.out (q + x) rfl _ HF.out (by omega) hB.size ?_; intro a3 c3 W3 own3 hb3; have hB3 := hB.trans hb3))
      go_roundw
      case rel => exact ⟨j + 1, a3, q + x, c3, by omega, hq2, by go_num, rfl, own3, hB3⟩
      case measure => simp [intOf]; omega
    · obtain rfl : j = n := by omega
      have HE : Hid (Ls.take j = Ls) := List.take_of_length_le (by rw [HN.out]; exact Nat.le_refl _)
      have HO' : Hid (Own8 wr w.heap.size 5 (.slice ad q cp) q Ls.flatten) := by have := HO.out; rw [HE.out] at this; exact this
      have HQ : Hid (Ls.flatten.length = q) := HO'.out.len
      have HL : Hid ([k, (q : Int)] ++ Ls.flatten = tlvB k Ls.flatten) := by unfold Hid tlvB; rw [HQ.out]
      have HBy : Hid (Row8 wr ad q Ls.flatten) := HO'.out.row (fun x hx => by
        obtain ⟨M, hM, hxM⟩ := List.mem_flatten.1 hx
        obtain ⟨i, hi, hMi⟩ := List.getElem_of_mem hM
        obtain ⟨_, _, _, _, _, _, hrow⟩ := HR.out.2 i M (by rw [← hMi]; exact List.getElem?_eq_getElem hi)
        exact hrow.2.2.1 x hxM) (by omega)
      go_wp2_with (first
        | (at_builtin; refine wpList_app8 _ rfl (.tmp 22) (.tmp 23) 25 5 rfl wr.heap.size Try.underlying25 info5 _ 2 [k, (q : Int)] rfl (own8_at wr _ rfl wr.heap.size 5 [k, (q : Int)] (Nat.le_refl _) (by simp)) _ q cp Ls.flatten rfl (HBy.out.later (below1 _ _)) (2 + q) rfl (tlvB k Ls.flatten) HL.out (by omega) (by simp) ?_; intro a3 c3 W3 own3 hb3))
      go_ret
      rw [HQ.out]
      exact ⟨a3, c3, rfl, own3.base hB.size, hB.trans (((below1 _ _).trans hb3).mono hB.size)⟩
end Go.Proofs.Ytakikkigkmcffaa
