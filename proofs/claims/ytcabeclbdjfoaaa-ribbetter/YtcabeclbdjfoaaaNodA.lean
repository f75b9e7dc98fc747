/- A trie as an array of nodes, with the way of each: what may be, what it has, a way down, a node more, what one has. No program is named here. -/
import Derived.Test.YtcabeclbdjfoaaaBitZ
namespace Go.Proofs.Ytcabeclbdjfoaaa

/-- A node: where the nodes behind 0 and behind 1 stand, that above; whether it has something, what. -/
structure Nd where
  a : Nat
  b : Nat
  u : Nat
  h : Bool
  n : Int
deriving DecidableEq
def Nd.kid (x : Nd) (s : Bool) : Nat := if s = true then x.b else x.a
def Nd.lay (x : Nd) (s : Bool) (k : Nat) : Nd := if s = true then { x with b := k } else { x with a := k }
theorem kid_lay (x : Nd) (s t : Bool) (k : Nat) : (x.lay s k).kid t = if t = s then k else x.kid t := by
  cases s <;> cases t <;> rfl
theorem lay_u (x : Nd) (s : Bool) (k : Nat) : (x.lay s k).u = x.u := by cases s <;> rfl
theorem lay_h (x : Nd) (s : Bool) (k : Nat) : (x.lay s k).h = x.h := by cases s <;> rfl
theorem lay_n (x : Nd) (s : Bool) (k : Nat) : (x.lay s k).n = x.n := by cases s <;> rfl
structure Good (ns : List Nd) (ws : Nat → List Bool) : Prop where
  r : 0 < ns.length
  w : ws 0 = []
  k : ∀ (i : Nat) (x : Nd), ns[i]? = some x → ∀ s, x.kid s ≠ 0 → ∃ y : Nd, ns[x.kid s]? = some y ∧ ws (x.kid s) = ws i ++ [s] ∧ y.u = i
  p : ∀ (i : Nat) (x : Nd), ns[i]? = some x → i ≠ 0 → ∃ (y : Nd) (s : Bool), ns[x.u]? = some y ∧ y.kid s = i
  i : ∀ (i j : Nat), i < ns.length → j < ns.length → ws i = ws j → i = j
  d : ∀ i, i < ns.length → (ws i).length ≤ 32
  z : ∀ (x : Nd), ns[0]? = some x → x.u = 0
  v : ∀ (i : Nat) (x : Nd), ns[i]? = some x → -9223372036854775808 ≤ x.n ∧ x.n ≤ 9223372036854775807
def prN (p : List Bool) (n : Int) : Pr := ⟨(adr p 0 : Nat), (p.length : Nat), n⟩
def Holds (ns : List Nd) (ws : Nat → List Bool) (L : List Pr) : Prop := ∀ p : Pr, p ∈ L ↔ ∃ (i : Nat) (x : Nd), ns[i]? = some x ∧ x.h = true ∧ p = prN (ws i) x.n

theorem lt_of_at {ns : List Nd} {i : Nat} {x : Nd} (h : ns[i]? = some x) : i < ns.length := (List.getElem?_eq_some_iff.1 h).1
theorem at_of_lt {ns : List Nd} {i : Nat} (h : i < ns.length) : ∃ x, ns[i]? = some x := ⟨_, List.getElem?_eq_getElem h⟩
/-- One that is not the first: that above, and by which side. -/
theorem Good.up {ns : List Nd} {ws : Nat → List Bool} (g : Good ns ws) {i : Nat} {x : Nd} (h : ns[i]? = some x) (h0 : i ≠ 0) : ∃ (y : Nd) (s : Bool), ns[x.u]? = some y ∧ y.kid s = i ∧ ws i = ws x.u ++ [s] := by
  obtain ⟨y, s, h1, h2⟩ := g.p i x h h0
  obtain ⟨_, _, h3, _⟩ := g.k _ _ h1 s (by omega)
  rw [h2] at h3
  exact ⟨y, s, h1, h2, h3⟩
/-- Where there is no node behind, none has that way. -/
theorem Good.none {ns : List Nd} {ws : Nat → List Bool} (g : Good ns ws) {i : Nat} {x : Nd} (h : ns[i]? = some x) {s : Bool} (h0 : x.kid s = 0) {j : Nat} (hj : j < ns.length) : ws j ≠ ws i ++ [s] := by
  intro e
  obtain ⟨y, hy⟩ := at_of_lt hj
  have hj0 : j ≠ 0 := by rintro rfl; rw [g.w] at e; simp at e
  obtain ⟨z, t, h1, h2, h3⟩ := g.up hy hj0
  rw [e] at h3
  obtain ⟨h4, h5⟩ := List.append_inj' h3 rfl
  obtain rfl : s = t := by simpa using h5
  have := g.i i y.u (lt_of_at h) (lt_of_at h1) h4
  rw [← this, h] at h1
  cases h1
  omega
theorem Good.kid_lt {ns : List Nd} {ws : Nat → List Bool} (g : Good ns ws) {i : Nat} {x : Nd} (h : ns[i]? = some x) (s : Bool) : x.kid s < ns.length := by
  by_cases h0 : x.kid s = 0
  · rw [h0]; exact g.r
  · obtain ⟨y, h1, _⟩ := g.k i x h s h0
    exact lt_of_at h1
theorem Good.u_lt {ns : List Nd} {ws : Nat → List Bool} (g : Good ns ws) {i : Nat} {x : Nd} (h : ns[i]? = some x) : x.u < ns.length := by
  by_cases h0 : i = 0
  · subst h0; rw [g.z x h]; exact g.r
  · obtain ⟨y, s, h1, _⟩ := g.p i x h h0
    exact lt_of_at h1
/-- All that are ahead of a way that there is are there. -/
theorem Good.ahead {ns : List Nd} {ws : Nat → List Bool} (g : Good ns ws) {p : List Bool} : ∀ (m : Nat) (r : List Bool) (j : Nat), r.length = m → j < ns.length → ws j = p ++ r → ∃ k, k < ns.length ∧ ws k = p
  | 0, r, j, hm, hj, he => by
    obtain rfl := List.eq_nil_of_length_eq_zero hm
    exact ⟨j, hj, by simpa using he⟩
  | m + 1, r, j, hm, hj, he => by
    have hr : r ≠ [] := by rintro rfl; simp at hm
    obtain ⟨x, hx⟩ := at_of_lt hj
    have hj0 : j ≠ 0 := by
      rintro rfl
      rw [g.w] at he
      have := congrArg List.length he
      simp at this; omega
    obtain ⟨y, s, h1, h2, h3⟩ := g.up hx hj0
    have e : p ++ r = (p ++ r.dropLast) ++ [r.getLast hr] := by rw [List.append_assoc, List.dropLast_concat_getLast hr]
    rw [he, e] at h3
    obtain ⟨h4, _⟩ := List.append_inj' h3 rfl
    exact g.ahead m r.dropLast x.u (by rw [List.length_dropLast]; omega) (lt_of_at h1) h4.symm
/-- A way behind a node goes by one of the two. -/
theorem Good.behind {ns : List Nd} {ws : Nat → List Bool} (g : Good ns ws) {i j : Nat} {x : Nd} (h : ns[i]? = some x) {s : Bool} {r : List Bool} (hj : j < ns.length) (he : ws j = ws i ++ s :: r) : x.kid s ≠ 0 ∧ ws j = ws (x.kid s) ++ r := by
  obtain ⟨k, hk, hw⟩ := g.ahead (p := ws i ++ [s]) r.length r j rfl hj (by rw [he]; simp)
  have hn : x.kid s ≠ 0 := fun h0 => g.none h h0 hk hw
  obtain ⟨y, h1, h2, _⟩ := g.k i x h s hn
  exact ⟨hn, by rw [h2, he]; simp⟩

/-- What a prefix has: by the node of its way. -/
theorem holds_get {ns : List Nd} {ws : Nat → List Bool} {L : List Pr} (g : Good ns ws) (H : Holds ns ws L) (hs : Srt L) {a l : Int} (h0 : 0 ≤ a) (h1 : a < 4294967296) (hm : mayB a l = true) {i : Nat} {x : Nd} (hx : ns[i]? = some x) (hw : ws i = wayX a l.toNat) :
    getP L a l = if x.h = true then some ⟨a, l, x.n⟩ else none := by
  have hd := g.d i (lt_of_at hx)
  have hk := (key_way hd h0 h1 hm).2 hw
  split
  · rename_i hh
    have : (⟨a, l, x.n⟩ : Pr) ∈ L := (H _).2 ⟨i, x, hx, hh, by unfold prN; rw [hk.1, hk.2]⟩
    exact getP_mem hs this
  · rename_i hh
    rw [getP_none]
    intro p hp hpk
    obtain ⟨j, y, hy, hyh, rfl⟩ := (H _).1 hp
    have := (key_way (g.d j (lt_of_at hy)) h0 h1 hm).1 hpk
    have := g.i i j (lt_of_at hx) (lt_of_at hy) (by rw [hw, this])
    subst this
    rw [hx] at hy; cases hy
    exact hh hyh
theorem holds_not {ns : List Nd} {ws : Nat → List Bool} {L : List Pr} (g : Good ns ws) (H : Holds ns ws L) {a l : Int} (h0 : 0 ≤ a) (h1 : a < 4294967296) (h : mayB a l = true → ∀ i, i < ns.length → ws i ≠ wayX a l.toNat) : getP L a l = none := by
  rw [getP_none]
  intro p hp hpk
  obtain ⟨j, y, hy, hyh, rfl⟩ := (H _).1 hp
  have hd := g.d j (lt_of_at hy)
  have hm : mayB a l = true := by rw [← hpk.1, ← hpk.2]; exact adr_may hd
  exact h hm j (lt_of_at hy) ((key_way hd h0 h1 hm).1 hpk)
/-- One node's word is laid. -/
theorem Good.set {ns : List Nd} {ws : Nat → List Bool} (g : Good ns ws) {i : Nat} {x : Nd} (hx : ns[i]? = some x) (h : Bool) (n : Int) (hn : -9223372036854775808 ≤ n ∧ n ≤ 9223372036854775807) : Good (ns.set i { x with h := h, n := n }) ws := by
  have hi := lt_of_at hx
  have back : ∀ (j : Nat) (y : Nd), (ns.set i { x with h := h, n := n })[j]? = some y → ∃ z : Nd, ns[j]? = some z ∧ y.a = z.a ∧ y.b = z.b ∧ y.u = z.u := by
    intro j y hy
    by_cases hij : i = j
    · subst hij
      rw [List.getElem?_set_self hi] at hy; cases hy
      exact ⟨x, hx, rfl, rfl, rfl⟩
    · rw [List.getElem?_set_ne hij] at hy
      exact ⟨y, hy, rfl, rfl, rfl⟩
  have forth : ∀ (j : Nat) (z : Nd), ns[j]? = some z → ∃ y : Nd, (ns.set i { x with h := h, n := n })[j]? = some y ∧ y.a = z.a ∧ y.b = z.b ∧ y.u = z.u := by
    intro j z hz
    by_cases hij : i = j
    · subst hij
      rw [hx] at hz; cases hz
      exact ⟨_, List.getElem?_set_self hi, rfl, rfl, rfl⟩
    · exact ⟨z, by rw [List.getElem?_set_ne hij]; exact hz, rfl, rfl, rfl⟩
  have hk : ∀ {y z : Nd}, y.a = z.a → y.b = z.b → ∀ s, y.kid s = z.kid s := by intro y z h1 h2 s; unfold Nd.kid; rw [h1, h2]
  refine ⟨by rw [List.length_set]; exact g.r, g.w, ?_, ?_, ?_, ?_, ?_, ?_⟩
  · intro j y hy s hs
    obtain ⟨z, hz, e1, e2, e3⟩ := back j y hy
    rw [hk e1 e2] at hs ⊢
    obtain ⟨y', h1, h2, h3⟩ := g.k j z hz s hs
    obtain ⟨y'', k1, k2, k3, k4⟩ := forth _ _ h1
    exact ⟨y'', k1, h2, by rw [k4, h3]⟩
  · intro j y hy h0
    obtain ⟨z, hz, e1, e2, e3⟩ := back j y hy
    obtain ⟨y', s, h1, h2⟩ := g.p j z hz h0
    obtain ⟨y'', k1, k2, k3, k4⟩ := forth _ _ h1
    exact ⟨y'', s, by rw [e3]; exact k1, by rw [hk k2 k3]; exact h2⟩
  · rw [List.length_set]; exact g.i
  · rw [List.length_set]; exact g.d
  · intro y hy
    obtain ⟨z, hz, e1, e2, e3⟩ := back 0 y hy
    rw [e3]; exact g.z z hz
  · intro j y hy
    by_cases hij : i = j
    · subst hij
      rw [List.getElem?_set_self hi] at hy; cases hy
      exact hn
    · rw [List.getElem?_set_ne hij] at hy
      exact g.v j y hy
theorem holds_put {ns : List Nd} {ws : Nat → List Bool} {L : List Pr} (g : Good ns ws) (H : Holds ns ws L) (hs : Srt L) {most a l n : Int} (h0 : 0 ≤ a) (h1 : a < 4294967296) (hm : mayB a l = true) {i : Nat} {x : Nd} (hx : ns[i]? = some x) (hw : ws i = wayX a l.toNat) (hp : putX most L a l = 0) :
    Holds (ns.set i { x with h := true, n := n }) ws (putL most L a l n) := by
  have hi := lt_of_at hx
  have hk := (key_way (g.d i hi) h0 h1 hm).2 hw
  intro p
  rw [mem_put hs hp]
  constructor
  · rintro (rfl | ⟨hpL, hpk⟩)
    · exact ⟨i, _, List.getElem?_set_self hi, rfl, by unfold prN; rw [hk.1, hk.2]⟩
    · obtain ⟨j, y, hy, hyh, rfl⟩ := (H _).1 hpL
      have hij : i ≠ j := by rintro rfl; exact hpk hk
      exact ⟨j, y, by rw [List.getElem?_set_ne hij]; exact hy, hyh, rfl⟩
  · rintro ⟨j, y, hy, hyh, rfl⟩
    by_cases hij : i = j
    · subst hij
      rw [List.getElem?_set_self hi] at hy; cases hy
      left
      unfold prN
      rw [hk.1, hk.2]
    · rw [List.getElem?_set_ne hij] at hy
      refine .inr ⟨(H _).2 ⟨j, y, hy, hyh, rfl⟩, fun hpk => hij ?_⟩
      have := (key_way (g.d j (lt_of_at hy)) h0 h1 hm).1 hpk
      exact g.i i j hi (lt_of_at hy) (by rw [hw, this])
theorem holds_take {ns : List Nd} {ws : Nat → List Bool} {L : List Pr} (g : Good ns ws) (H : Holds ns ws L) (hs : Srt L) {a l : Int} (h0 : 0 ≤ a) (h1 : a < 4294967296) (hm : mayB a l = true) {i : Nat} {x : Nd} (hx : ns[i]? = some x) (hw : ws i = wayX a l.toNat) :
    Holds (ns.set i { x with h := false, n := 0 }) ws (takeL L a l) := by
  have hi := lt_of_at hx
  have hk := (key_way (g.d i hi) h0 h1 hm).2 hw
  intro p
  rw [mem_take hs]
  constructor
  · rintro ⟨hpL, hpk⟩
    obtain ⟨j, y, hy, hyh, rfl⟩ := (H _).1 hpL
    have hij : i ≠ j := by rintro rfl; exact hpk hk
    exact ⟨j, y, by rw [List.getElem?_set_ne hij]; exact hy, hyh, rfl⟩
  · rintro ⟨j, y, hy, hyh, rfl⟩
    by_cases hij : i = j
    · subst hij
      rw [List.getElem?_set_self hi] at hy; cases hy
      cases hyh
    · rw [List.getElem?_set_ne hij] at hy
      refine ⟨(H _).2 ⟨j, y, hy, hyh, rfl⟩, fun hpk => hij ?_⟩
      have := (key_way (g.d j (lt_of_at hy)) h0 h1 hm).1 hpk
      exact g.i i j hi (lt_of_at hy) (by rw [hw, this])
theorem get_isSome {L : List Pr} {a l : Int} : (fAt a l L).isSome = (getP L a l).isSome := by
  rw [getP_fAt]
  cases h : fAt a l L with
  | none => rfl
  | some i => obtain ⟨p, hp, -⟩ := fAt_some h; simp [hp]

/-- A node more. -/
def paveN (ns : List Nd) (i : Nat) (x : Nd) (s : Bool) : List Nd := ns.set i (x.lay s ns.length) ++ [⟨0, 0, i, false, 0⟩]
def paveW (ns : List Nd) (ws : Nat → List Bool) (i : Nat) (s : Bool) (j : Nat) : List Bool := if j = ns.length then ws i ++ [s] else ws j
theorem pave_len (ns : List Nd) (i : Nat) (x : Nd) (s : Bool) : (paveN ns i x s).length = ns.length + 1 := by simp [paveN]
theorem pave_at (ns : List Nd) (i : Nat) (x : Nd) (s : Bool) (hi : i < ns.length) (j : Nat) : (paveN ns i x s)[j]? = if j = ns.length then some ⟨0, 0, i, false, 0⟩ else if j = i then some (x.lay s ns.length) else ns[j]? := by
  unfold paveN
  by_cases h1 : j = ns.length
  · subst h1
    rw [if_pos rfl, List.getElem?_append_right (by simp)]
    simp
  · rw [if_neg h1]
    by_cases h2 : j < ns.length
    · rw [List.getElem?_append_left (by simpa using h2)]
      by_cases h3 : j = i
      · subst h3; rw [if_pos rfl, List.getElem?_set_self hi]
      · rw [if_neg h3, List.getElem?_set_ne (by omega)]
    · rw [if_neg (by omega), List.getElem?_eq_none (by simp; omega), List.getElem?_eq_none (by omega)]
theorem good_pave {ns : List Nd} {ws : Nat → List Bool} (g : Good ns ws) {i : Nat} {x : Nd} (hx : ns[i]? = some x) {s : Bool} (h0 : x.kid s = 0) (hd : (ws i).length < 32) : Good (paveN ns i x s) (paveW ns ws i s) := by
  have hi := lt_of_at hx
  have hr := g.r
  have hwi : ∀ j, j < ns.length → paveW ns ws i s j = ws j := fun j hj => by unfold paveW; rw [if_neg (by omega)]
  have hwn : paveW ns ws i s ns.length = ws i ++ [s] := by unfold paveW; rw [if_pos rfl]
  have hat := pave_at ns i x s hi
  have forth : ∀ (j : Nat) (z : Nd), ns[j]? = some z → ∃ y : Nd, (paveN ns i x s)[j]? = some y ∧ y.u = z.u := by
    intro j z hz
    rw [hat, if_neg (by have := lt_of_at hz; omega)]
    by_cases hij : j = i
    · subst hij; rw [hx] at hz; cases hz
      exact ⟨_, by rw [if_pos rfl], lay_u _ _ _⟩
    · exact ⟨z, by rw [if_neg hij]; exact hz, rfl⟩
  refine ⟨by rw [pave_len]; omega, by rw [hwi 0 hr]; exact g.w, ?_, ?_, ?_, ?_, ?_, ?_⟩
  · intro j y hy t ht
    rw [hat] at hy
    split at hy
    · cases hy; cases t <;> simp [Nd.kid] at ht
    split at hy
    · rename_i h1 h2
      subst h2
      cases hy
      rw [kid_lay] at ht ⊢
      by_cases hts : t = s
      · subst hts
        rw [if_pos rfl]
        exact ⟨_, by rw [hat, if_pos rfl], by rw [hwn, hwi j hi], rfl⟩
      · rw [if_neg hts] at ht ⊢
        obtain ⟨z, k1, k2, k3⟩ := g.k j x hx t ht
        obtain ⟨z', k4, k5⟩ := forth _ _ k1
        exact ⟨z', k4, by rw [hwi _ (lt_of_at k1), hwi j hi]; exact k2, by rw [k5]; exact k3⟩
    · obtain ⟨z, k1, k2, k3⟩ := g.k j y hy t ht
      obtain ⟨z', k4, k5⟩ := forth _ _ k1
      exact ⟨z', k4, by rw [hwi _ (lt_of_at k1), hwi j (lt_of_at hy)]; exact k2, by rw [k5]; exact k3⟩
  · intro j y hy hj0
    rw [hat] at hy
    have up : ∀ (z : Nd), ns[j]? = some z → ∃ (y : Nd) (t : Bool), (paveN ns i x s)[z.u]? = some y ∧ y.kid t = j := by
      intro z hz
      obtain ⟨y', t, k1, k2⟩ := g.p j z hz hj0
      by_cases hui : z.u = i
      · rw [hui, hx] at k1; cases k1
        refine ⟨_, t, by rw [hat, if_neg (by omega), if_pos hui], ?_⟩
        rw [kid_lay, if_neg (by rintro rfl; omega)]
        exact k2
      · exact ⟨y', t, by rw [hat, if_neg (by have := lt_of_at k1; omega), if_neg hui]; exact k1, k2⟩
    split at hy
    · cases hy
      rename_i h1
      subst h1
      exact ⟨_, s, by rw [hat, if_neg (by show ¬ i = ns.length; omega), if_pos rfl], by rw [kid_lay, if_pos rfl]⟩
    split at hy
    · rename_i h1 h2
      subst h2
      cases hy
      rw [lay_u]
      exact up x hx
    · exact up y hy
  · intro j k hj hk he
    rw [pave_len] at hj hk
    by_cases h1 : j = ns.length
    · by_cases h2 : k = ns.length
      · omega
      · rw [h1, hwn, hwi k (by omega)] at he
        exact absurd he.symm (g.none hx h0 (by omega))
    · by_cases h2 : k = ns.length
      · rw [h2, hwn, hwi j (by omega)] at he
        exact absurd he (g.none hx h0 (by omega))
      · rw [hwi j (by omega), hwi k (by omega)] at he
        exact g.i j k (by omega) (by omega) he
  · intro j hj
    rw [pave_len] at hj
    by_cases h1 : j = ns.length
    · rw [h1, hwn]; simp; omega
    · rw [hwi j (by omega)]; exact g.d j (by omega)
  · intro y hy
    rw [hat, if_neg (by omega)] at hy
    split at hy
    · rename_i h2
      cases hy
      rw [lay_u]
      exact g.z x (by rw [h2]; exact hx)
    · exact g.z y hy
  · intro j y hy
    rw [hat] at hy
    split at hy
    · cases hy; exact ⟨by show (-9223372036854775808 : Int) ≤ 0; decide, by show (0 : Int) ≤ 9223372036854775807; decide⟩
    split at hy
    · cases hy
      rw [lay_n]
      exact g.v i x hx
    · exact g.v j y hy
theorem holds_pave {ns : List Nd} {ws : Nat → List Bool} {L : List Pr} (H : Holds ns ws L) {i : Nat} {x : Nd} (hx : ns[i]? = some x) {s : Bool} : Holds (paveN ns i x s) (paveW ns ws i s) L := by
  have hi := lt_of_at hx
  have hat := pave_at ns i x s hi
  intro p
  rw [H p]
  constructor
  · rintro ⟨j, y, hy, hh, rfl⟩
    have hj := lt_of_at hy
    have hw : paveW ns ws i s j = ws j := by unfold paveW; rw [if_neg (by omega)]
    by_cases hij : j = i
    · subst hij
      rw [hx] at hy; cases hy
      exact ⟨j, _, by rw [hat, if_neg (by omega), if_pos rfl], by rw [lay_h]; exact hh, by rw [hw, lay_n]⟩
    · exact ⟨j, y, by rw [hat, if_neg (by omega), if_neg hij]; exact hy, hh, by rw [hw]⟩
  · rintro ⟨j, y, hy, hh, rfl⟩
    rw [hat] at hy
    split at hy
    · cases hy; cases hh
    rename_i hjn
    have hw : paveW ns ws i s j = ws j := by unfold paveW; rw [if_neg hjn]
    split at hy
    · rename_i h2
      subst h2
      cases hy
      rw [lay_h] at hh
      exact ⟨j, x, hx, hh, by rw [hw, lay_n]⟩
    · exact ⟨j, y, hy, hh, by rw [hw]⟩
end Go.Proofs.Ytcabeclbdjfoaaa
