/- Babel parts as bytes: the pure functions of writing, and their lengths. No program is named here. -/
import Derived.Test.YtakikkigkmcffaaMat1
import Derived.Test.YtakikkigkmcffaaMat2
namespace Go.Proofs.Ytakikkigkmcffaa
open Go.RowKit

/-- A part: kind, seq, interval, cost, address, length, router, tag, hops. -/
structure Tlv where
  k : Int
  s : Int
  i : Int
  c : Int
  a : Int
  l : Int
  r : Int
  t : Int
  h : Int
deriving DecidableEq

/-- The nine numbers are of their kinds. -/
structure Tlv.Ok (p : Tlv) : Prop where
  k0 : -9223372036854775808 ≤ p.k
  k1 : p.k ≤ 9223372036854775807
  s0 : 0 ≤ p.s
  s1 : p.s ≤ 65535
  i0 : -9223372036854775808 ≤ p.i
  i1 : p.i ≤ 9223372036854775807
  c0 : -9223372036854775808 ≤ p.c
  c1 : p.c ≤ 9223372036854775807
  a0 : 0 ≤ p.a
  a1 : p.a < 4294967296
  l0 : -9223372036854775808 ≤ p.l
  l1 : p.l ≤ 9223372036854775807
  r0 : 0 ≤ p.r
  r1 : p.r ≤ 18446744073709551615
  t0 : 0 ≤ p.t
  t1 : p.t ≤ 65535
  h0 : -9223372036854775808 ≤ p.h
  h1 : p.h ≤ 9223372036854775807

def Tlvs (ts : List Tlv) : Prop := ∀ p ∈ ts, p.Ok

def fitB (n m : Int) : Bool := decide (0 ≤ n) && decide (n ≤ m)
/-- What a part of its kind has not is nought, and there is such a kind. -/
def ownB (p : Tlv) : Bool :=
  if p.k = 0 then p.c == 0 && p.a == 0 && p.l == 0 && p.r == 0 && p.t == 0 && p.h == 0
  else if p.k = 1 then p.s == 0 && p.a == 0 && p.l == 0 && p.r == 0 && p.t == 0 && p.h == 0
  else if p.k = 2 then p.h == 0
  else if p.k = 3 then p.s == 0 && p.i == 0 && p.c == 0 && p.r == 0 && p.t == 0 && p.h == 0
  else if p.k = 4 then p.i == 0 && p.c == 0 && p.t == 0
  else false
def mayT (p : Tlv) : Bool := ownB p && mayB p.a p.l && fitB p.i 65535 && fitB p.c 65535 && fitB p.h 255

def b2 (n : Int) : List Int := [n / 256, n % 256]
def b4 (n : Int) : List Int := [n / 16777216, n / 65536 % 256, n / 256 % 256, n % 256]
def b8 (n : Int) : List Int := b4 (n / 4294967296) ++ b4 (n % 4294967296)

theorem b2_bytes {n : Int} (h0 : 0 ≤ n) (h1 : n ≤ 65535) : Bytes (b2 n) := by
  intro v hv
  simp only [b2, List.mem_cons, List.not_mem_nil, or_false] at hv
  rcases hv with rfl | rfl <;> omega
theorem b4_bytes {n : Int} (h0 : 0 ≤ n) (h1 : n ≤ 4294967295) : Bytes (b4 n) := by
  intro v hv
  simp only [b4, List.mem_cons, List.not_mem_nil, or_false] at hv
  rcases hv with rfl | rfl | rfl | rfl <;> omega
theorem b8_bytes {n : Int} (h0 : 0 ≤ n) (h1 : n ≤ 18446744073709551615) : Bytes (b8 n) :=
  (b4_bytes (by omega) (by omega)).append (b4_bytes (by omega) (by omega))

/-- How many bytes of its address a length needs. -/
def nd (l : Int) : Nat := ((l + 7) / 8).toNat
theorem nd_le {l : Int} (h : l ≤ 32) : nd l ≤ 4 := by unfold nd; omega
/-- How many first bytes two addresses have in common. -/
def cm (x y : Int) : Nat := if x / 16777216 ≠ y / 16777216 then 0 else if x / 65536 ≠ y / 65536 then 1 else if x / 256 ≠ y / 256 then 2 else if x ≠ y then 3 else 4
def sq (x y : Int) (n : Nat) : Nat := min (cm x y) n
theorem cm_le (x y : Int) : cm x y ≤ 4 := by unfold cm; (repeat' split) <;> omega
theorem sq_le (x y : Int) (n : Nat) : sq x y n ≤ n := by unfold sq; omega
theorem sq_le4 (x y : Int) (n : Nat) : sq x y n ≤ 4 := by have := cm_le x y; unfold sq; omega
theorem cm_same (x : Int) : cm x x = 4 := by unfold cm; simp
theorem cm_comm (x y : Int) : cm x y = cm y x := by
  unfold cm
  simp only [ne_comm (a := x / 16777216), ne_comm (a := x / 65536), ne_comm (a := x / 256), ne_comm (a := x)]
theorem cm_four {x y : Int} (h : cm x y = 4) : x = y := by
  unfold cm at h
  repeat' split at h
  all_goals first | omega | (rename_i hh; exact Decidable.of_not_not hh)
/-- The first bytes that they have in common are the same. -/
theorem cm_take {x y : Int} {n : Nat} (h : n ≤ cm x y) : (b4 x).take n = (b4 y).take n := by
  unfold cm at h
  have hn : n ≤ 4 := by
    have := cm_le x y; unfold cm at this; omega
  unfold b4
  match n, hn with
  | 0, _ => rfl
  | 1, _ => simp only [List.take_succ_cons, List.take_zero, List.cons.injEq, and_true]; (repeat' split at h) <;> omega
  | 2, _ => simp only [List.take_succ_cons, List.take_zero, List.cons.injEq, and_true]; (repeat' split at h) <;> omega
  | 3, _ => simp only [List.take_succ_cons, List.take_zero, List.cons.injEq, and_true]; (repeat' split at h) <;> omega
  | 4, _ => simp only [List.take_succ_cons, List.take_zero, List.cons.injEq, and_true]; (repeat' split at h) <;> omega

/-- The bytes of its address that a part tells. -/
def adB (a l : Int) : List Int := (b4 a).take (nd l)
theorem adB_len {a l : Int} (h : l ≤ 32) : (adB a l).length = nd l := by
  have := nd_le h
  unfold adB b4; simp; omega
theorem adB_bytes {a l : Int} (h0 : 0 ≤ a) (h1 : a < 4294967296) : Bytes (adB a l) := fun x hx => b4_bytes h0 (by omega) x (List.mem_of_mem_take hx)
def tagB (t : Int) : List Int := if t = 0 then [] else [200, 2] ++ b2 t
theorem tagB_bytes {t : Int} (h0 : 0 ≤ t) (h1 : t ≤ 65535) : Bytes (tagB t) := by
  unfold tagB
  split
  · intro _ h; cases h
  · refine Bytes.append ?_ (b2_bytes h0 h1)
    unfold Bytes; decide
theorem tagB_len (t : Int) : (tagB t).length ≤ 4 := by unfold tagB; split <;> simp [b2]

/-- What is known of the next update. -/
structure Kn where
  told : Bool
  r : Int
  a : Int
structure Kn.Ok (K : Kn) : Prop where
  r0 : 0 ≤ K.r
  r1 : K.r ≤ 18446744073709551615
  a0 : 0 ≤ K.a
  a1 : K.a < 4294967296
def kn0 : Kn := ⟨false, 0, 0⟩
theorem kn0_ok : kn0.Ok := ⟨by decide, by decide, by decide, by decide⟩

def tlvB (k : Int) (b : List Int) : List Int := [k, (b.length : Int)] ++ b
/-- An update's own bytes, behind an address. -/
def upB (last : Int) (p : Tlv) : List Int :=
  [1, 128, p.l, (sq last p.a (nd p.l) : Int)] ++ b2 p.i ++ b2 p.s ++ b2 p.c ++ (adB p.a p.l).drop (sq last p.a (nd p.l)) ++ tagB p.t
def roB (r : Int) : List Int := [0, 0] ++ b8 r
def partB (p : Tlv) : List Int :=
  if p.k = 0 then tlvB 4 ([0, 0] ++ b2 p.s ++ b2 p.i)
  else if p.k = 1 then tlvB 5 ([0, 0] ++ b2 p.c ++ b2 p.i)
  else if p.k = 3 then tlvB 9 ([1, p.l] ++ adB p.a p.l)
  else tlvB 10 ([1, p.l] ++ b2 p.s ++ [p.h, 0] ++ b8 p.r ++ adB p.a p.l)
def rtB (K : Kn) (r : Int) : List Int := if K.told = true ∧ K.r = r then [] else tlvB 6 (roB r)
def wr (K : Kn) (p : Tlv) : List Int := if p.k = 2 then rtB K p.r ++ tlvB 8 (upB K.a p) else partB p
def kn (K : Kn) (p : Tlv) : Kn := if p.k = 2 then ⟨true, p.r, p.a⟩ else K
theorem kn_ok {K : Kn} {p : Tlv} (h : K.Ok) (hp : p.Ok) : (kn K p).Ok := by
  unfold kn; split
  · exact ⟨hp.r0, hp.r1, hp.a0, hp.a1⟩
  · exact h

def body (K : Kn) : List Tlv → List Int
  | [] => []
  | p :: ts => wr K p ++ body (kn K p) ts
def knN (K : Kn) (ts : List Tlv) : Kn := ts.foldl kn K
theorem body_snoc (K : Kn) (ts : List Tlv) (p : Tlv) : body K (ts ++ [p]) = body K ts ++ wr (knN K ts) p := by
  induction ts generalizing K with
  | nil => simp [body, knN]
  | cons q ts ih => simp only [List.cons_append, body, ih, List.append_assoc]; rfl
theorem knN_snoc (K : Kn) (ts : List Tlv) (p : Tlv) : knN K (ts ++ [p]) = kn (knN K ts) p := by unfold knN; rw [List.foldl_append]; rfl
theorem knN_ok {K : Kn} {ts : List Tlv} (h : K.Ok) (hp : Tlvs ts) : (knN K ts).Ok := by
  induction ts generalizing K with
  | nil => exact h
  | cons q ts ih => exact ih (kn_ok h (hp q List.mem_cons_self)) fun x hx => hp x (List.mem_cons_of_mem _ hx)

theorem mayT_all {p : Tlv} (h : mayT p = true) : ownB p = true ∧ mayB p.a p.l = true ∧ 0 ≤ p.l ∧ p.l ≤ 32 ∧ (0 ≤ p.i ∧ p.i ≤ 65535) ∧ (0 ≤ p.c ∧ p.c ≤ 65535) ∧ (0 ≤ p.h ∧ p.h ≤ 255) := by
  simp only [mayT, fitB, Bool.and_eq_true, decide_eq_true_eq] at h
  have h2 := h.1.1.1.2
  simp only [mayB, decide_eq_true_eq] at h2
  exact ⟨h.1.1.1.1, h.1.1.1.2, h2.1, h2.2.1, h.1.1.2, h.1.2, h.2⟩
theorem ownB_kind {p : Tlv} (h : ownB p = true) : p.k = 0 ∨ p.k = 1 ∨ p.k = 2 ∨ p.k = 3 ∨ p.k = 4 := by
  unfold ownB at h
  repeat' split at h
  all_goals first | omega | cases h

theorem tlvB_len (k : Int) (b : List Int) : (tlvB k b).length = 2 + b.length := by unfold tlvB; simp; omega
theorem roB_len (r : Int) : (roB r).length = 10 := rfl
theorem upB_len {last : Int} {p : Tlv} (h : p.l ≤ 32) : (upB last p).length = 10 + (nd p.l - sq last p.a (nd p.l)) + (tagB p.t).length := by
  unfold upB; simp only [List.length_append, List.length_drop, adB_len h]; simp [b2]
theorem upB_le {last : Int} {p : Tlv} (h : p.l ≤ 32) : (upB last p).length ≤ 18 := by
  rw [upB_len h]; have := nd_le h; have := tagB_len p.t; omega
theorem tlvB_bytes {k : Int} {b : List Int} (hk : 0 ≤ k ∧ k ≤ 255) (hb : Bytes b) (hl : b.length ≤ 255) : Bytes (tlvB k b) := by
  refine Bytes.append ?_ hb
  intro n hn
  simp only [List.mem_cons, List.not_mem_nil, or_false] at hn
  rcases hn with rfl | rfl <;> omega
theorem two_bytes {x y : Int} (hx : 0 ≤ x ∧ x ≤ 255) (hy : 0 ≤ y ∧ y ≤ 255) : Bytes [x, y] := by
  intro n hn
  simp only [List.mem_cons, List.not_mem_nil, or_false] at hn
  rcases hn with rfl | rfl <;> assumption
theorem four_bytes {x y z u : Int} (hx : 0 ≤ x ∧ x ≤ 255) (hy : 0 ≤ y ∧ y ≤ 255) (hz : 0 ≤ z ∧ z ≤ 255) (hu : 0 ≤ u ∧ u ≤ 255) : Bytes [x, y, z, u] := by
  intro n hn
  simp only [List.mem_cons, List.not_mem_nil, or_false] at hn
  rcases hn with rfl | rfl | rfl | rfl <;> assumption
theorem roB_bytes {r : Int} (h0 : 0 ≤ r) (h1 : r ≤ 18446744073709551615) : Bytes (roB r) := (two_bytes (by omega) (by omega)).append (b8_bytes h0 h1)
theorem drop_bytes {l : List Int} (h : Bytes l) (n : Nat) : Bytes (l.drop n) := fun x hx => h x (List.mem_of_mem_drop hx)
theorem take_bytes {l : List Int} (h : Bytes l) (n : Nat) : Bytes (l.take n) := fun x hx => h x (List.mem_of_mem_take hx)
theorem upB_bytes {last : Int} {p : Tlv} (h : p.Ok) (hm : mayT p = true) : Bytes (upB last p) := by
  obtain ⟨-, -, l0, l1, hi, hc, -⟩ := mayT_all hm
  have hs := sq_le4 last p.a (nd p.l)
  exact (((((four_bytes (by omega) (by omega) (by omega) (by omega)).append (b2_bytes hi.1 hi.2)).append (b2_bytes h.s0 h.s1)).append (b2_bytes hc.1 hc.2)).append (drop_bytes (adB_bytes h.a0 h.a1) _)).append (tagB_bytes h.t0 h.t1)
theorem partB_len {p : Tlv} (h : p.l ≤ 32) : (partB p).length ≤ 20 := by
  have := nd_le h
  have e := adB_len (a := p.a) h
  unfold partB
  repeat' split
  all_goals simp [tlvB_len, b2, b8, b4, e]
  all_goals omega
theorem partB_bytes {p : Tlv} (h : p.Ok) (hm : mayT p = true) : Bytes (partB p) := by
  obtain ⟨-, -, l0, l1, hi, hc, hh⟩ := mayT_all hm
  have := nd_le l1
  have e := adB_len (a := p.a) l1
  have ha := adB_bytes (l := p.l) h.a0 h.a1
  have z := two_bytes (x := 0) (y := 0) (by omega) (by omega)
  have o := two_bytes (x := 1) (y := p.l) (by omega) (by omega)
  unfold partB
  repeat' split
  · exact tlvB_bytes (by omega) ((z.append (b2_bytes h.s0 h.s1)).append (b2_bytes hi.1 hi.2)) (by simp [b2])
  · exact tlvB_bytes (by omega) ((z.append (b2_bytes hc.1 hc.2)).append (b2_bytes hi.1 hi.2)) (by simp [b2])
  · exact tlvB_bytes (by omega) (o.append ha) (by simp [e]; omega)
  · exact tlvB_bytes (by omega) ((((o.append (b2_bytes h.s0 h.s1)).append (two_bytes hh (by omega))).append (b8_bytes h.r0 h.r1)).append ha) (by simp [b2, b8, b4, e]; omega)
theorem rtB_len (K : Kn) (r : Int) : (rtB K r).length ≤ 12 := by unfold rtB; split <;> simp [tlvB_len, roB_len]
theorem rtB_bytes {K : Kn} {r : Int} (h0 : 0 ≤ r) (h1 : r ≤ 18446744073709551615) : Bytes (rtB K r) := by
  unfold rtB; split
  · intro _ h; cases h
  · exact tlvB_bytes (by omega) (roB_bytes h0 h1) (by rw [roB_len]; omega)
theorem wr_len {K : Kn} {p : Tlv} (h : p.l ≤ 32) : (wr K p).length ≤ 32 := by
  unfold wr; split
  · have := rtB_len K p.r; have := upB_le (last := K.a) h; simp only [List.length_append, tlvB_len]; omega
  · have := partB_len h; omega
theorem wr_bytes {K : Kn} {p : Tlv} (h : p.Ok) (hm : mayT p = true) : Bytes (wr K p) := by
  have hl := (mayT_all hm).2.2.2.1
  unfold wr; split
  · exact (rtB_bytes h.r0 h.r1).append (tlvB_bytes (by omega) (upB_bytes h hm) (by have := upB_le (last := K.a) hl; omega))
  · exact partB_bytes h hm
theorem body_len {K : Kn} {ts : List Tlv} (hm : ts.all mayT = true) : (body K ts).length ≤ 32 * ts.length := by
  induction ts generalizing K with
  | nil => simp [body]
  | cons p ts ih =>
    simp only [List.all_cons, Bool.and_eq_true] at hm
    have h1 := wr_len (K := K) (mayT_all hm.1).2.2.2.1
    have h2 := ih (K := kn K p) hm.2
    simp only [body, List.length_append, List.length_cons]; omega
theorem body_bytes {K : Kn} {ts : List Tlv} (hk : Tlvs ts) (hm : ts.all mayT = true) : Bytes (body K ts) := by
  induction ts generalizing K with
  | nil => intro _ h; cases h
  | cons p ts ih =>
    simp only [List.all_cons, Bool.and_eq_true] at hm
    exact (wr_bytes (hk p List.mem_cons_self) hm.1).append (ih (fun x hx => hk x (List.mem_cons_of_mem _ hx)) hm.2)

def encX (ts : List Tlv) : Int := if 40 < ts.length then 9 else if ts.all mayT = true then 0 else 1
def pack (b : List Int) : List Int := [42, 2] ++ b2 (b.length : Int) ++ b
def encB (ts : List Tlv) : List Int := if encX ts = 0 then pack (body kn0 ts) else []
theorem encX_zero {ts : List Tlv} (h : encX ts = 0) : ts.length ≤ 40 ∧ ts.all mayT = true := by
  unfold encX at h
  split at h
  · omega
  · split at h
    · exact ⟨by omega, by assumption⟩
    · omega
theorem encX_mk {ts : List Tlv} (h : ts.length ≤ 40) (hm : ts.all mayT = true) : encX ts = 0 := by unfold encX; rw [if_neg (by omega), if_pos hm]
theorem encX_long {ts : List Tlv} (h : 40 < ts.length) : encX ts = 9 := by unfold encX; rw [if_pos h]
theorem encX_arg {ts : List Tlv} (h : ts.length ≤ 40) (hm : ts.all mayT = false) : encX ts = 1 := by unfold encX; rw [if_neg (by omega), hm, if_neg (by simp)]
theorem encX_cases (ts : List Tlv) : encX ts = 0 ∨ encX ts = 1 ∨ encX ts = 9 := by
  unfold encX; repeat' split
  all_goals simp
theorem encB_bad {ts : List Tlv} (h : encX ts ≠ 0) : encB ts = [] := by unfold encB; rw [if_neg h]
theorem encB_good {ts : List Tlv} (h : encX ts = 0) : encB ts = pack (body kn0 ts) := by unfold encB; rw [if_pos h]
theorem pack_len (b : List Int) : (pack b).length = 4 + b.length := by unfold pack; simp [b2]; omega
theorem pack_bytes {b : List Int} (h : Bytes b) (hl : b.length ≤ 65535) : Bytes (pack b) :=
  ((two_bytes (by omega) (by omega)).append (b2_bytes (by omega) (by omega))).append h
theorem encB_short (ts : List Tlv) : (encB ts).length ≤ 1284 := by
  by_cases h : encX ts = 0
  · obtain ⟨h1, h2⟩ := encX_zero h
    have := body_len (K := kn0) h2
    rw [encB_good h, pack_len]; omega
  · rw [encB_bad h]; simp
theorem encB_bytes {ts : List Tlv} (hk : Tlvs ts) : Bytes (encB ts) := by
  by_cases h : encX ts = 0
  · obtain ⟨h1, h2⟩ := encX_zero h
    have := body_len (K := kn0) h2
    rw [encB_good h]; exact pack_bytes (body_bytes hk h2) (by omega)
  · rw [encB_bad h]; intro _ h; cases h
end Go.Proofs.Ytakikkigkmcffaa
