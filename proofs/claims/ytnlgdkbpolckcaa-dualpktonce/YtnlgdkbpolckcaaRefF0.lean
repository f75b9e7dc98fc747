/- The document's Decode. -/
import Derived.Deep.Cut
import Derived.Test.YtnlgdkbpolckcaaRefE
namespace Go.Proofs.Ytnlgdkbpolckcaa
open Go.RowKit

/-- What Decode answers: a packet, and a number. -/
def DecD (w : World) (r : Pk × Int) (e : Ending) (w' : World) : Prop := ∃ ad n cap, e = .returned (.tuple #[valP r.1.c r.1.i r.1.s r.1.k ad n cap, .int .i64 r.2]) ∧ RowE w' ad n r.1.es ∧ Below w.heap.size w w'
theorem wrap_in {x : Int} (h0 : -9223372036854775808 ≤ x) (h1 : x ≤ 9223372036854775807) : IntKind.i64.wrap x = x := by
  simp [IntKind.wrap, IntKind.signed, IntKind.bits]; omega
theorem Row8.at' {w : World} {a : Option Addr} {n : Nat} {l : List Int} (h : Row8 w a n l) (hn : 0 < n) : ∃ b off, a = some ⟨b, off, none⟩ ∧ ∀ i, i < n → w.cell? ⟨b, off + i, none⟩ = some (.int .u8 (l[i]?.getD 0)) := by
  obtain ⟨b, off, e, -⟩ := h.2.2.2 0 hn
  refine ⟨b, off, e, fun i hi => ?_⟩
  obtain ⟨b', off', e', hc⟩ := h.2.2.2 i hi
  rw [e] at e'
  simp only [Option.some.injEq, Addr.mk.injEq, and_true] at e'
  obtain ⟨rfl, rfl⟩ := e'
  exact hc
/-- One's own bytes, some of them: where they lie. -/
theorem Own8.head {w : World} {base : Nat} {e : TypeId} {a : Option Addr} {k n cp : Nat} {l : List Int} (h : Own8 w base e (.slice a k cp) n l) (hB : Bytes l) (hn : n ≤ 100000) (h0 : 0 < n) :
    ∃ g, a = some ⟨g, 0, none⟩ ∧ base ≤ g ∧ g < w.heap.size ∧ Row8 w (some ⟨g, 0, none⟩) n l ∧ ∀ o, w.frozen? ⟨g, o, none⟩ = false := by
  have hr := h.row hB hn
  rcases h.2 with ⟨_, h1⟩ | ⟨g, c, cur, hv, hbg, hg, _⟩
  · omega
  · simp only [Value.slice.injEq] at hv
    obtain ⟨rfl, -, -⟩ := hv
    exact ⟨g, rfl, hbg, (Array.getElem?_eq_some_iff.1 hg).1, hr, fun o => by simp [World.frozen?, hg]⟩
theorem row8_set2 {W : World} {g n : Nat} {l : List Int} {x y : Int} (h : Row8 W (some ⟨g, 0, none⟩) n l) (hn : 4 ≤ n) (x0 : 0 ≤ x) (x1 : x ≤ 255) (y0 : 0 ≤ y) (y1 : y ≤ 255) :
    Row8 ((W.setCell ⟨g, 2, none⟩ (.int .u8 x)).setCell ⟨g, 3, none⟩ (.int .u8 y)) (some ⟨g, 0, none⟩) n ((l.set 2 x).set 3 y) := by
  obtain ⟨h1, h2, h3, h4⟩ := h
  have hc : ∀ i, i < n → W.cell? ⟨g, i, none⟩ = some (.int .u8 (l[i]?.getD 0)) := fun i hi => by
    obtain ⟨b, off, e, hc⟩ := h4 i hi
    simp only [Option.some.injEq, Addr.mk.injEq, and_true] at e
    obtain ⟨rfl, rfl⟩ := e
    simpa using hc
  refine ⟨by simpa using h1, h2, fun z hz => ?_, fun i hi => ⟨g, 0, rfl, ?_⟩⟩
  · rcases List.mem_or_eq_of_mem_set hz with hz | rfl
    · rcases List.mem_or_eq_of_mem_set hz with hz | rfl
      · exact h3 z hz
      · exact ⟨x0, x1⟩
    · exact ⟨y0, y1⟩
  · rw [Nat.zero_add]
    have c2 : (W.setCell ⟨g, 2, none⟩ (.int .u8 x)).cell? ⟨g, 3, none⟩ = some (.int .u8 (l[3]?.getD 0)) := by
      rw [World.cell?_setCell_other _ _ _ _ (by simp)]; exact hc 3 (by omega)
    by_cases h3' : i = 3
    · subst h3'
      rw [World.cell?_setCell_same _ _ _ c2]
      simp [h1, hi]
    · rw [World.cell?_setCell_other _ _ _ _ (by simp only [ne_eq, Addr.mk.injEq, true_and, and_true]; omega)]
      by_cases h2' : i = 2
      · subst h2'
        rw [World.cell?_setCell_same _ _ _ (hc 2 (by omega))]
        simp [h1, hi]
      · rw [World.cell?_setCell_other _ _ _ _ (by simp only [ne_eq, Addr.mk.injEq, true_and, and_true]; omega), hc i hi]
        rw [List.getElem?_set_ne (by omega), List.getElem?_set_ne (by omega)]
theorem Own8.cap_le {w : World} {base : Nat} {e : TypeId} {a : Option Addr} {k n cp : Nat} {l : List Int} (h : Own8 w base e (.slice a k cp) n l) : n ≤ cp := by
  rcases h.2 with ⟨_, h0⟩ | ⟨g, c, cur, hv, _, _, hle, _⟩
  · omega
  · simp only [Value.slice.injEq] at hv
    rw [hv.2.2]; exact hle
theorem Row8.low {W W' : World} {N b off n : Nat} {l : List Int} (h : Row8 W (some ⟨b, off, none⟩) n l) (hb : Below N W W') (hN : b < N) : Row8 W' (some ⟨b, off, none⟩) n l :=
  ⟨h.1, h.2.1, h.2.2.1, fun i hi => by obtain ⟨b', off', e, hc⟩ := h.2.2.2 i hi; simp only [Option.some.injEq, Addr.mk.injEq, and_true] at e; obtain ⟨rfl, rfl⟩ := e; exact ⟨_, _, rfl, (hb.cell (p := ⟨b, off + i, none⟩) hN).trans hc⟩⟩
theorem B2 {w W1 : World} {o o' : Obj} {g : Nat} {x y : Value} (hb : Below (w.heap.size + 2) ((w.alloc o).alloc o') W1) (hg : w.heap.size + 2 ≤ g) : Below w.heap.size w ((W1.setCell ⟨g, 2, none⟩ x).setCell ⟨g, 3, none⟩ y) :=
  (((below2 w o o').trans (hb.mono (by omega))).setCell (p := ⟨g, 2, none⟩) (by show w.heap.size ≤ g; omega) _).setCell (p := ⟨g, 3, none⟩) (by show w.heap.size ≤ g; omega) _
abbrev objN : Obj := objP 0 false 0 0 none 0 0
/-- The two boxes at the beginning: the answer's, and the one that is none. -/
theorem boxes {w W1 : World} (hb : Below (w.heap.size + 2) ((w.alloc objN).alloc objN) W1) : P5 W1 w.heap.size 0 false 0 0 none 0 0 ∧ P5 W1 (w.heap.size + 1) 0 false 0 0 none 0 0 ∧ ∀ o, W1.frozen? ⟨w.heap.size, o, none⟩ = false := by
  have h1 : P5 ((w.alloc objN).alloc objN) (w.heap.size + 1) 0 false 0 0 none 0 0 := by
    have := P5.new (w.alloc objN) 0 false 0 0 none 0 0
    simpa using this
  refine ⟨((P5.new w 0 false 0 0 none 0 0).later (below1 _ _)).lift hb (by omega), h1.lift hb (by omega), fun o => (hb.frozen (p := ⟨w.heap.size, o, none⟩) (by show w.heap.size < _; omega)).trans (by simp [go_sem])⟩
/-- The answer's box is written. -/
abbrev put5 (W : World) (M : Nat) (c : Int) (i : Bool) (s k : Int) (ad : Option Addr) (n cap : Nat) : World := ((((W.setCell ⟨M, 0, none⟩ (.int .i64 c)).setCell ⟨M, 1, none⟩ (.bool i)).setCell ⟨M, 2, none⟩ (.int .u32 s)).setCell ⟨M, 3, none⟩ (.int .u32 k)).setCell ⟨M, 4, none⟩ (.slice ad n cap)
theorem put5_P {W : World} {M : Nat} {c0 : Int} {i0 : Bool} {s0 k0 : Int} {ad0 : Option Addr} {n0 cap0 : Nat} (h : P5 W M c0 i0 s0 k0 ad0 n0 cap0) (c : Int) (i : Bool) (s k : Int) (ad : Option Addr) (n cap : Nat) : P5 (put5 W M c i s k ad n cap) M c i s k ad n cap := by
  obtain ⟨h0, h1, h2, h3, h4, hz⟩ := h
  refine ⟨?_, ?_, ?_, ?_, ?_, by simpa using hz⟩ <;> simp [go_sem, h0, h1, h2, h3, h4]
theorem put5_b {w W : World} {B M : Nat} (h : Below B w W) (hM : B ≤ M) (c : Int) (i : Bool) (s k : Int) (ad : Option Addr) (n cap : Nat) : Below B w (put5 W M c i s k ad n cap) :=
  ((((h.setCell (p := ⟨M, 0, none⟩) hM _).setCell (p := ⟨M, 1, none⟩) hM _).setCell (p := ⟨M, 2, none⟩) hM _).setCell (p := ⟨M, 3, none⟩) hM _).setCell (p := ⟨M, 4, none⟩) hM _
/-- The answer, once its box is written. -/
theorem fin5 {w V : World} {a : Act} {p : Pk} {x : Int} {ad : Option Addr} {n cap : Nat} {c0 : Int} {i0 : Bool} {s0 k0 : Int} {ad0 : Option Addr} {n0 cap0 : Nat} (h : P5 V w.heap.size c0 i0 s0 k0 ad0 n0 cap0) (hB : Below w.heap.size w V)
    (h2 : a.tmps[2]?.getD undef = .pointer (some ⟨w.heap.size, 0, none⟩)) (h3 : a.tmps[3]?.getD undef = .int .i64 x) (hd : a.defers = []) (hr : RowE (put5 V w.heap.size p.c p.i p.s p.k ad n cap) ad n p.es) :
    bodyPost Try.prog Try.f13 (DecD w (p, x)) Exit.ret a (put5 V w.heap.size p.c p.i p.s p.k ad n cap) := by
  obtain ⟨c0, c1, c2, c3, c4, -⟩ := put5_P h p.c p.i p.s p.k ad n cap
  refine bodyPost_ret (v := .tuple #[valP p.c p.i p.s p.k ad n cap, .int .i64 x]) ?_ hd ⟨ad, n, cap, rfl, hr, put5_b hB (Nat.le_refl _) _ _ _ _ _ _ _⟩
  generalize put5 V w.heap.size p.c p.i p.s p.k ad n cap = V2 at *
  simp [results, Try.results13, go_sem, h2, h3, c0, c1, c2, c3, c4]
theorem dec_frame {l : List Int} (h : framed l = false) : dec l = (pk0, 2) := by unfold dec; rw [if_pos h]
theorem dec_sum {l : List Int} (h : framed l = true) (h2 : sumOk l = false) : dec l = (pk0, 8) := by unfold dec; rw [if_neg (by rw [h]; simp), if_pos h2]
theorem dec_long {l : List Int} (h : framed l = true) (h2 : sumOk l = true) (h3 : 40 < (l.length - 16) / 20) : dec l = (pk0, 9) := by unfold dec; rw [if_neg (by rw [h]; simp), if_neg (by rw [h2]; simp), if_pos h3]
theorem dec_rest {l : List Int} (h : framed l = true) (h2 : sumOk l = true) (h3 : ¬ 40 < (l.length - 16) / 20) : dec l = if encX (pkOf l) = 0 ∧ encB (pkOf l) = l then (pkOf l, 0) else (pk0, 2) := by unfold dec; rw [if_neg (by rw [h]; simp), if_neg (by rw [h2]; simp), if_neg h3]
theorem P2 {w W1 : World} {g : Nat} {x y : Value} (hb : Below (w.heap.size + 2) ((w.alloc objN).alloc objN) W1) (hg : w.heap.size + 2 ≤ g) : P5 ((W1.setCell ⟨g, 2, none⟩ x).setCell ⟨g, 3, none⟩ y) w.heap.size 0 false 0 0 none 0 0 :=
  (boxes hb).1.lift (B := w.heap.size + 2) (((Below.refl _ _).setCell (p := ⟨g, 2, none⟩) hg _).setCell (p := ⟨g, 3, none⟩) hg _) (by omega)
theorem ents_snoc : ∀ (n : Nat) (L : List Int), ents (n + 1) L = ents n L ++ [entOf ((L.drop (20 * n)).take 20)]
  | 0, L => by simp [ents]
  | n + 1, L => by
    rw [ents, ents_snoc n (L.drop 20), ents, List.drop_drop, show 20 + 20 * n = 20 * (n + 1) by omega]; rfl
theorem setCell_block (W : World) (a : Addr) (v : Value) (k : Nat) (h : a.block ≠ k) : (W.setCell a v).heap[k]? = W.heap[k]? := by
  unfold World.setCell
  split <;> simp only [Array.getElem?_modify, if_neg h]
theorem OwnE.set {W : World} {M o : Nat} {x : Value} {base : Nat} {v : Value} {n : Nat} {es : List Ent} (h : OwnE W base v n es) (hM : M < base) : OwnE (W.setCell ⟨M, o, none⟩ x) base v n es :=
  h.keep fun k hk => setCell_block W _ x k (by show M ≠ k; omega)
theorem drop_b {l : List Int} (h : Bytes l) (n : Nat) : Bytes (l.drop n) := h.drop' n
theorem entOf_ok {l : List Int} (h : Bytes l) : (entOf l).Ok := by
  have h0 := getV_bd h 0 4
  have h1 := getV_bd h 6 2
  have h2 := getV_bd h 8 4
  have h3 := getV_bd h 12 4
  have h4 := h.at 4
  have h5 := h.at 5
  have e4 : (256 : Int) ^ 4 = 4294967296 := by decide
  have e2 : (256 : Int) ^ 2 = 65536 := by decide
  rw [e4] at h0 h2 h3
  rw [e2] at h1
  unfold entOf at8
  constructor <;> simp only <;> omega
theorem ents_ok {l : List Int} (h : Bytes l) : ∀ n, Ents (ents n l)
  | 0 => fun _ hx => by cases hx
  | n + 1 => fun x hx => by
    rw [ents_snoc] at hx
    rcases List.mem_append.1 hx with hx | hx
    · exact ents_ok h n x hx
    · simp only [List.mem_cons, List.not_mem_nil, or_false] at hx
      subst hx
      exact entOf_ok ((drop_b h _).take' 20)
theorem u8_inj {a b : Int} (ha : 0 ≤ a ∧ a ≤ 255) (hb : 0 ≤ b ∧ b ≤ 255) (h : UInt8.ofNat a.toNat = UInt8.ofNat b.toNat) : a = b := by
  have h1 := congrArg UInt8.toNat h
  simp at h1
  omega
theorem str_inj {A B : List Int} (hA : Bytes A) (hB : Bytes B) (h : strOfNums A = strOfNums B) : A = B := by
  have h1 : A.map (fun n => UInt8.ofNat n.toNat) = B.map (fun n => UInt8.ofNat n.toNat) := by rw [← strOfNums_data, ← strOfNums_data, h]
  clear h
  induction A generalizing B with
  | nil => cases B with
    | nil => rfl
    | cons b B => simp at h1
  | cons a A ih => cases B with
    | nil => simp at h1
    | cons b B =>
      simp only [List.map_cons, List.cons.injEq] at h1
      rw [u8_inj (hA a List.mem_cons_self) (hB b List.mem_cons_self) h1.1, ih (fun x hx => hA x (List.mem_cons_of_mem _ hx)) (fun x hx => hB x (List.mem_cons_of_mem _ hx)) h1.2]
/-- A packet's cells that may be written. -/
def PF5 (W : World) (N : Nat) (c : Int) (i : Bool) (s k : Int) (ad : Option Addr) (n cap : Nat) : Prop := P5 W N c i s k ad n cap ∧ ∀ o, W.frozen? ⟨N, o, none⟩ = false
theorem PF5.lift {W W' : World} {B N : Nat} {c : Int} {i : Bool} {s k : Int} {ad : Option Addr} {n cap : Nat} (h : PF5 W N c i s k ad n cap) (hb : Below B W W') (hN : N < B) : PF5 W' N c i s k ad n cap := ⟨h.1.lift hb hN, fun o => (hb.frozen (p := ⟨N, o, none⟩) hN).trans (h.2 o)⟩
theorem PF5.later {W W' : World} {N : Nat} {c : Int} {i : Bool} {s k : Int} {ad : Option Addr} {n cap : Nat} (h : PF5 W N c i s k ad n cap) (hb : Below W.heap.size W W') : PF5 W' N c i s k ad n cap := h.lift hb h.1.2.2.2.2.2
theorem PF5.new (W : World) (c : Int) (i : Bool) (s k : Int) (ad : Option Addr) (n cap : Nat) : PF5 (W.alloc (objP c i s k ad n cap)) W.heap.size c i s k ad n cap := ⟨P5.new W c i s k ad n cap, fun o => by simp [go_sem]⟩
theorem PF5.set4 {W : World} {N : Nat} {c : Int} {i : Bool} {s k : Int} {ad : Option Addr} {n cap : Nat} (h : PF5 W N c i s k ad n cap) (ad' : Option Addr) (n' cap' : Nat) : PF5 (W.setCell ⟨N, 4, none⟩ (.slice ad' n' cap')) N c i s k ad' n' cap' := by
  obtain ⟨⟨h0, h1, h2, h3, h4, hz⟩, hf⟩ := h
  exact ⟨⟨by simp [go_sem, h0], by simp [go_sem, h1], by simp [go_sem, h2], by simp [go_sem, h3], by simp [go_sem, h4], by simpa using hz⟩, fun o => by simp [go_sem, hf]⟩
theorem entOf_at (L : List Int) : entOf (L.take 20) = ⟨getV L 0 4, at8 L 4, getV L 8 4, getV L 12 4, at8 L 5, getV L 6 2⟩ := by
  unfold entOf at8
  simp [getV]
theorem getV_off (l : List Int) (a p k : Nat) : getV (l.drop a) p k = getV l (a + p) k := by
  induction k with
  | zero => rfl
  | succ k ih => simp only [getV, ih, List.getElem?_drop, Nat.add_assoc]
theorem at8_off (l : List Int) (a p : Nat) : at8 (l.drop a) p = l[a + p]?.getD 0 := by unfold at8; rw [List.getElem?_drop]
end Go.Proofs.Ytnlgdkbpolckcaa
