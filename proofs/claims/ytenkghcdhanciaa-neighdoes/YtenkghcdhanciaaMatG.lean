/- What is known of a neighbour: sixteen bits, the last hello that was expected first; what the document's calls do, and what follows. No program is named here. -/
import Derived.WalkKit
namespace Go.Proofs.Ytenkghcdhanciaa

/-- The history, whether something is expected, and what; what was told. -/
structure Nh where
  h : List Bool
  y : Bool
  x : Int
  t : Int
deriving DecidableEq
structure GoodN (s : Nh) : Prop where
  l : s.h.length = 16
  x0 : 0 ≤ s.x
  x1 : s.x < 65536
  t0 : 0 ≤ s.t
  t1 : s.t ≤ 65535
def zeroN : List Bool := List.replicate 16 false
def newN : Nh := ⟨zeroN, false, 0, 65535⟩
def inN (b : Bool) (h : List Bool) : List Bool := b :: h.take 15
def downN : Nat → List Bool → List Bool
  | 0, h => h
  | k + 1, h => downN k (inN false h)
def upN (k : Nat) (h : List Bool) : List Bool := ((h ++ List.replicate k false).drop k).take 16
def aheadN (s : Nh) (q : Int) : Int := (q - s.x) % 65536
def behindN (s : Nh) (q : Int) : Int := (s.x - q) % 65536
def baseN (s : Nh) (q : Int) : List Bool :=
  if s.y = false ∨ 17 ≤ aheadN s q ∧ 17 ≤ behindN s q then zeroN
  else if aheadN s q < 17 then downN (aheadN s q).toNat s.h
  else upN (behindN s q).toNat s.h
def helloN (s : Nh) (q : Int) : Nh := ⟨inN true (baseN s q), true, (q + 1) % 65536, s.t⟩
def missN (s : Nh) : Nh := if s.y = true then ⟨inN false s.h, true, (s.x + 1) % 65536, s.t⟩ else s
def toldN (c : Int) : Int := if c < 0 then 0 else if 65535 < c then 65535 else c
def ihuN (s : Nh) (c : Int) : Nh := { s with t := toldN c }
def bitN (b : Bool) : Int := if b = true then 1 else 0
def numN (l : List Bool) : Int := l.foldl (fun n b => n * 2 + bitN b) 0
def firstN (l : List Bool) : Int := (l.take 3).foldl (fun n b => n + bitN b) 0
def rxN (s : Nh) : Int := if firstN s.h < 2 then 65535 else 96
def costN (s : Nh) : Int := if rxN s < s.t then s.t else rxN s

theorem inN_len {b : Bool} {h : List Bool} (hl : h.length = 16) : (inN b h).length = 16 := by simp [inN, hl]
theorem downN_len : ∀ (k : Nat) {h : List Bool}, h.length = 16 → (downN k h).length = 16
  | 0, _, hl => hl
  | k + 1, _, hl => downN_len k (inN_len hl)
theorem upN_len (k : Nat) {h : List Bool} (hl : h.length = 16) : (upN k h).length = 16 := by simp [upN, hl]
theorem baseN_len {s : Nh} (G : GoodN s) (q : Int) : (baseN s q).length = 16 := by
  unfold baseN
  split
  · rfl
  · split
    · exact downN_len _ G.l
    · exact upN_len _ G.l
theorem goodN_new : GoodN newN := ⟨rfl, by decide, by decide, by decide, by decide⟩
theorem goodN_hello {s : Nh} (G : GoodN s) (q : Int) : GoodN (helloN s q) := ⟨inN_len (baseN_len G q), by simp only [helloN]; omega, by simp only [helloN]; omega, G.t0, G.t1⟩
theorem goodN_miss {s : Nh} (G : GoodN s) : GoodN (missN s) := by
  unfold missN
  split
  · exact ⟨inN_len G.l, by simp only; omega, by simp only; omega, G.t0, G.t1⟩
  · exact G
theorem goodN_ihu {s : Nh} (G : GoodN s) (c : Int) : GoodN (ihuN s c) := by
  refine ⟨G.l, G.x0, G.x1, ?_, ?_⟩ <;> simp only [ihuN, toldN] <;> split <;> (try split) <;> omega
theorem bitN_le (b : Bool) : 0 ≤ bitN b ∧ bitN b ≤ 1 := by cases b <;> decide
/-- The number of the first j bits. -/
theorem numN_take {l : List Bool} {j : Nat} {b : Bool} (h : l[j]? = some b) : numN (l.take (j + 1)) = numN (l.take j) * 2 + bitN b := by
  obtain ⟨hj, he⟩ := List.getElem?_eq_some_iff.1 h
  rw [List.take_succ_eq_append_getElem hj, he]
  simp [numN]
theorem numN_lt : ∀ (j : Nat) {l : List Bool}, j ≤ l.length → 0 ≤ numN (l.take j) ∧ numN (l.take j) < 2 ^ j
  | 0, l, _ => by simp [numN]
  | j + 1, l, hj => by
    obtain ⟨h0, h1⟩ := numN_lt j (l := l) (by omega)
    have hb := bitN_le l[j]
    rw [numN_take (List.getElem?_eq_getElem (by omega))]
    have : (2 : Int) ^ (j + 1) = 2 ^ j * 2 := by rw [Int.pow_succ]
    omega
theorem firstN_take {l : List Bool} {j : Nat} {b : Bool} (h : l[j]? = some b) : (l.take (j + 1)).foldl (fun n b => n + bitN b) 0 = (l.take j).foldl (fun n b => n + bitN b) 0 + bitN b := by
  obtain ⟨hj, he⟩ := List.getElem?_eq_some_iff.1 h
  rw [List.take_succ_eq_append_getElem hj, he]
  simp
/-- A list of sixteen, written out. -/
theorem len16 {l : List Bool} (h : l.length = 16) : ∃ b0 b1 b2 b3 b4 b5 b6 b7 b8 b9 b10 b11 b12 b13 b14 b15, l = [b0, b1, b2, b3, b4, b5, b6, b7, b8, b9, b10, b11, b12, b13, b14, b15] := by
  match l, h with
  | [b0, b1, b2, b3, b4, b5, b6, b7, b8, b9, b10, b11, b12, b13, b14, b15], _ => exact ⟨b0, b1, b2, b3, b4, b5, b6, b7, b8, b9, b10, b11, b12, b13, b14, b15, rfl⟩
/-- A hello twice is as one. -/
theorem hello_twice {s : Nh} (G : GoodN s) (q : Int) : (helloN (helloN s q) q).h = (helloN s q).h := by
  have hl := baseN_len G q
  generalize hb : baseN s q = l at hl
  have h1 : helloN s q = ⟨inN true l, true, (q + 1) % 65536, s.t⟩ := by unfold helloN; rw [hb]
  have ha : aheadN ⟨inN true l, true, (q + 1) % 65536, s.t⟩ q = 65535 := by simp only [aheadN]; omega
  have hd : behindN ⟨inN true l, true, (q + 1) % 65536, s.t⟩ q = 1 := by simp only [behindN]; omega
  rw [h1]
  unfold helloN baseN
  rw [ha, hd, if_neg (by simp), if_neg (by decide)]
  obtain ⟨b0, b1, b2, b3, b4, b5, b6, b7, b8, b9, b10, b11, b12, b13, b14, b15, rfl⟩ := len16 hl
  rfl
/-- Far from what is expected: as the first one. -/
theorem hello_far (s : Nh) (q : Int) : numN (helloN (helloN s q) ((q + 32768) % 65536)).h = 32768 ∧ rxN (helloN (helloN s q) ((q + 32768) % 65536)) = 65535 := by
  obtain ⟨l, hl⟩ : ∃ l, inN true (baseN s q) = l := ⟨_, rfl⟩
  have h1 : helloN s q = ⟨l, true, (q + 1) % 65536, s.t⟩ := by unfold helloN; rw [hl]
  have ha : 17 ≤ aheadN ⟨l, true, (q + 1) % 65536, s.t⟩ ((q + 32768) % 65536) := by simp only [aheadN]; omega
  have hd : 17 ≤ behindN ⟨l, true, (q + 1) % 65536, s.t⟩ ((q + 32768) % 65536) := by simp only [behindN]; omega
  have h2 : (helloN ⟨l, true, (q + 1) % 65536, s.t⟩ ((q + 32768) % 65536)).h = inN true zeroN := by
    show inN true (baseN _ _) = _
    unfold baseN
    rw [if_pos (.inr ⟨ha, hd⟩)]
  rw [h1]
  constructor
  · rw [h2]; decide
  · unfold rxN; rw [h2]; decide
/-- Two hellos, one behind the other. -/
theorem hello_next {s : Nh} (G : GoodN s) (q : Int) : ∃ l, (helloN (helloN s q) ((q + 1) % 65536)).h = true :: true :: l ∧ l.length = 14 := by
  have hl := baseN_len G q
  generalize hb : baseN s q = l at hl
  have h1 : helloN s q = ⟨inN true l, true, (q + 1) % 65536, s.t⟩ := by unfold helloN; rw [hb]
  have ha : aheadN ⟨inN true l, true, (q + 1) % 65536, s.t⟩ ((q + 1) % 65536) = 0 := by simp only [aheadN]; omega
  rw [h1]
  unfold helloN baseN
  rw [ha, if_neg (by simp), if_pos (by decide)]
  obtain ⟨b0, b1, b2, b3, b4, b5, b6, b7, b8, b9, b10, b11, b12, b13, b14, b15, rfl⟩ := len16 hl
  exact ⟨[b0, b1, b2, b3, b4, b5, b6, b7, b8, b9, b10, b11, b12, b13], rfl, rfl⟩
theorem num_two {l : List Bool} (h : l.length = 14) : 49152 ≤ numN (true :: true :: l) ∧ ∀ s : Nh, s.h = true :: true :: l → rxN s = 96 := by
  match l, h with
  | [b0, b1, b2, b3, b4, b5, b6, b7, b8, b9, b10, b11, b12, b13], _ =>
    have := bitN_le b0; have := bitN_le b1; have := bitN_le b2; have := bitN_le b3; have := bitN_le b4; have := bitN_le b5; have := bitN_le b6
    have := bitN_le b7; have := bitN_le b8; have := bitN_le b9; have := bitN_le b10; have := bitN_le b11; have := bitN_le b12; have := bitN_le b13
    have ht : bitN true = 1 := rfl
    refine ⟨?_, fun s hs => ?_⟩
    · simp only [numN, List.foldl_cons, List.foldl_nil, ht]; omega
    · unfold rxN firstN
      rw [hs]
      simp only [List.take, List.foldl_cons, List.foldl_nil, ht]
      rw [if_neg (by omega)]
/-- Misses, one behind the other. -/
def missesN : Nat → Nh → Nh
  | 0, s => s
  | k + 1, s => missN (missesN k s)
theorem misses_bits {s : Nh} (G : GoodN s) (hy : s.y = true) : ∀ k, (missesN k s).h = (List.replicate k false ++ s.h).take 16 ∧ (missesN k s).y = true
  | 0 => by simp [missesN, hy, G.l, List.take_of_length_le]
  | k + 1 => by
    obtain ⟨h1, h2⟩ := misses_bits G hy k
    refine ⟨?_, ?_⟩
    · show (missN (missesN k s)).h = _
      unfold missN
      rw [if_pos h2]
      show inN false _ = _
      rw [h1, List.replicate_succ]
      simp [inN, List.take_take]
    · show (missN (missesN k s)).y = true
      unfold missN
      rw [if_pos h2]
end Go.Proofs.Ytenkghcdhanciaa
