/- The contract of Decode, ahead of its loop: bytes that are not framed, are too long, or ask for the whole table. -/
import Derived.Test.YtabpillcpnnidaaConC
import Derived.ScopeJumps
namespace Go.Proofs.Ytabpillcpnnidaa
open Go.RowKit

/-- What Decode answers. -/
def Decoded (w : World) (p : Pkt) (e : Ending) (w' : World) : Prop :=
  ∃ ad k cp, e = .returned (.tuple #[.agg #[.int .i64 p.c, .bool p.w, .slice ad k cp], .int .i64 p.x]) ∧ RowE w' ad k p.es ∧ Below w.heap.size w w'
theorem dec_bad {l : List Int} (h : framed l = false) : dec l = ⟨0, false, [], 2⟩ := by unfold dec; rw [h]; rfl
theorem dec_long {l : List Int} (h : framed l = true) (h2 : 25 < (l.length - 4) / 20) : dec l = ⟨0, false, [], 9⟩ := by unfold dec; rw [h, if_neg (by simp), if_pos h2]
theorem dec_wh {l : List Int} (h : framed l = true) (h2 : ¬ 25 < (l.length - 4) / 20) (h3 : isWhole l = true) : dec l = ⟨1, true, [], 0⟩ := by unfold dec; rw [h, if_neg (by simp), if_neg h2, if_pos h3]
theorem dec_none {l : List Int} (h : framed l = true) (h2 : ¬ 25 < (l.length - 4) / 20) (h3 : isWhole l = false) (h4 : decN ((l.length - 4) / 20) (l.drop 4) = none) : dec l = ⟨0, false, [], 2⟩ := by unfold dec; rw [h, if_neg (by simp), if_neg h2, h3, if_neg (by simp), h4]
theorem dec_some {l : List Int} {es : List Ent} (h : framed l = true) (h2 : ¬ 25 < (l.length - 4) / 20) (h3 : isWhole l = false) (h4 : decN ((l.length - 4) / 20) (l.drop 4) = some es) : dec l = ⟨l[0]?.getD 0, false, es, 0⟩ := by unfold dec; rw [h, if_neg (by simp), if_neg h2, h3, if_neg (by simp), h4]

/-- The three cells of a packet in block N, which may be written. -/
def PF (W : World) (N : Nat) (c : Int) (wh : Bool) (a : Option Addr) (n cap : Nat) : Prop := P3 W N c wh a n cap ∧ ∀ o, W.frozen? ⟨N, o, none⟩ = false
theorem PF.later {W W' : World} {N : Nat} {c : Int} {wh : Bool} {a : Option Addr} {n cap : Nat} (h : PF W N c wh a n cap) (hb : Below W.heap.size W W') : PF W' N c wh a n cap :=
  ⟨h.1.later hb, fun o => (hb.frozen (p := ⟨N, o, none⟩) h.1.2.2.2).trans (h.2 o)⟩
theorem PF.new (W : World) (c : Int) (wh : Bool) (a : Option Addr) (n cap : Nat) : PF (W.alloc (objP c wh a n cap)) W.heap.size c wh a n cap :=
  ⟨P3.new W c wh a n cap, fun o => by simp [go_sem]⟩
/-- Stored whole. -/
abbrev set3 (V : World) (N : Nat) (c : Int) (wh : Bool) (a : Option Addr) (n cap : Nat) : World := ((V.setCell ⟨N, 0, none⟩ (.int .i64 c)).setCell ⟨N, 1, none⟩ (.bool wh)).setCell ⟨N, 2, none⟩ (.slice a n cap)
theorem set3_cells {V : World} {N : Nat} {c0 : Int} {w0 : Bool} {a0 : Option Addr} {n0 cap0 : Nat} (h : P3 V N c0 w0 a0 n0 cap0) (c : Int) (wh : Bool) (a : Option Addr) (n cap : Nat) :
    (set3 V N c wh a n cap).cell? ⟨N, 0, none⟩ = some (.int .i64 c) ∧ (set3 V N c wh a n cap).cell? ⟨N, 1, none⟩ = some (.bool wh) ∧ (set3 V N c wh a n cap).cell? ⟨N, 2, none⟩ = some (.slice a n cap) := by
  obtain ⟨h0, h1, h2, _⟩ := h
  refine ⟨?_, ?_, ?_⟩ <;> simp [go_sem, h0, h1, h2]
theorem set3_below {w V : World} {N : Nat} (hB : Below w.heap.size w V) (hN : w.heap.size ≤ N) (c : Int) (wh : Bool) (a : Option Addr) (n cap : Nat) : Below w.heap.size w (set3 V N c wh a n cap) :=
  ((hB.setCell hN _).setCell hN _).setCell hN _
theorem zero3 (w : World) : PF (w.alloc (objP 0 false none 0 0)) w.heap.size 0 false none 0 0 := PF.new w 0 false none 0 0

theorem fin13 {w V : World} {a : Act} {p : Pkt} {ad : Option Addr} {k cp : Nat} {c0 : Int} {w0 : Bool} {a0 : Option Addr} {n0 cap0 : Nat} (h : P3 V w.heap.size c0 w0 a0 n0 cap0) (hB : Below w.heap.size w V)
    (h2 : a.tmps[2]?.getD undef = .pointer (some ⟨w.heap.size, 0, none⟩)) (h3 : a.tmps[3]?.getD undef = .int .i64 p.x) (hd : a.defers = []) (hr : RowE (set3 V w.heap.size p.c p.w ad k cp) ad k p.es) :
    bodyPost Try.prog Try.f13 (Decoded w p) Exit.ret a (set3 V w.heap.size p.c p.w ad k cp) := by
  obtain ⟨c0, c1, c2⟩ := set3_cells h p.c p.w ad k cp
  refine bodyPost_ret (v := .tuple #[.agg #[.int .i64 p.c, .bool p.w, .slice ad k cp], .int .i64 p.x]) ?_ hd ⟨ad, k, cp, rfl, hr, set3_below hB (Nat.le_refl _) _ _ _ _ _⟩
  simp [results, Try.results13, go_sem, h2, h3, c0, c1, c2]

set_option maxHeartbeats 1000000 in
theorem decode_bad (a : Option Addr) (n cap : Nat) (l : List Int) (w : World) (hr : Row8 w a n l) (hn : n ≤ 3000) (hc : n ≤ cap) (hf : framed l = false) :
    Calls Try.prog 13 #[.slice a n cap] w (Decoded w (dec l)) := by
  have HR : Hid (Row8 w a n l) := hr
  rw [dec_bad hf]
  clear hr
  go_enter Try.func13, Try.ntmps13
  go_wp2
  go_step3
  go_wp2_with (go_at_call 24; refine (isFramed_any _ _ _ l _ (HR.out.later (below1 _ _)) hn hc hf).mono ?_; rintro e W1 ⟨rfl, hb⟩; obtain ⟨⟨d0, d1, d2, z⟩, fz⟩ := (zero3 w).later hb)
  rw [Exit.noGoto_ret]
  exact fin13 (p := ⟨0, false, [], 2⟩) ⟨d0, d1, d2, z⟩ (Below.out1 hb) rfl rfl rfl (rowE_none _)

end Go.Proofs.Ytabpillcpnnidaa
