/- A node taken out of an array of nodes: the last one fills the gap. No program is named here. -/
import Derived.Test.YtcabeclbdjfoaaaNodA
namespace Go.Proofs.Ytcabeclbdjfoaaa

def nd (ns : List Nd) (i : Nat) : Nd := ns[i]?.getD ⟨0, 0, 0, false, 0⟩
theorem nd_of {ns : List Nd} {i : Nat} {x : Nd} (h : ns[i]? = some x) : nd ns i = x := by unfold nd; rw [h]; rfl
theorem at_nd {ns : List Nd} {i : Nat} (h : i < ns.length) : ns[i]? = some (nd ns i) := by
  obtain ⟨x, hx⟩ := at_of_lt h
  rw [nd_of hx]; exact hx
theorem nd_set {ns : List Nd} {k : Nat} (hk : k < ns.length) (x : Nd) (i : Nat) : nd (ns.set k x) i = if i = k then x else nd ns i := by
  unfold nd
  by_cases h : i = k
  · subst h; rw [List.getElem?_set_self hk, if_pos rfl]; rfl
  · rw [List.getElem?_set_ne (by omega), if_neg h]
def swK (y : Nd) (k t : Nat) : Nd := { y with a := if y.a = k then t else y.a, b := if y.b = k then t else y.b }
def setU (ns : List Nd) (k t : Nat) : List Nd := if k = 0 then ns else ns.set k { nd ns k with u := t }
theorem setU_len (ns : List Nd) (k t : Nat) : (setU ns k t).length = ns.length := by unfold setU; split <;> simp
theorem nd_setU {ns : List Nd} {k : Nat} (hk : k < ns.length) (t i : Nat) : nd (setU ns k t) i = if i = k ∧ k ≠ 0 then { nd ns i with u := t } else nd ns i := by
  unfold setU
  by_cases h0 : k = 0
  · rw [if_pos h0, if_neg (by omega)]
  · rw [if_neg h0, nd_set hk]
    by_cases h : i = k
    · subst h; rw [if_pos rfl, if_pos ⟨rfl, h0⟩]
    · rw [if_neg h, if_neg (by omega)]
def moveK (n1 : List Nd) (f t : Nat) : List Nd := setU (setU n1 (nd n1 f).a t) (nd n1 f).b t
theorem moveK_len (n1 : List Nd) (f t : Nat) : (moveK n1 f t).length = n1.length := by unfold moveK; rw [setU_len, setU_len]
def moveN (n1 : List Nd) (f t : Nat) : List Nd := (moveK n1 f t).set t (nd (moveK n1 f t) f)
def leadN (ns : List Nd) (k t : Nat) : List Nd := ns.set (nd ns k).u (swK (nd ns (nd ns k).u) k t)
theorem leadN_len (ns : List Nd) (k t : Nat) : (leadN ns k t).length = ns.length := by unfold leadN; simp
/-- The nodes without one: what they are, and in which order. -/
def dropN (ns : List Nd) (k : Nat) : List Nd :=
  if k = ns.length - 1 then (leadN ns k 0).take (ns.length - 1)
  else (moveN (leadN (leadN ns k 0) (ns.length - 1) k) (ns.length - 1) k).take (ns.length - 1)
/-- The same, told of each node. -/
def ren (k m : Nat) (x : Nd) : Nd := { x with a := if x.a = k then 0 else if x.a = m then k else x.a, b := if x.b = k then 0 else if x.b = m then k else x.b, u := if x.u = m then k else x.u }
def old (k m i : Nat) : Nat := if i = k then m else i
theorem nd_take {ns : List Nd} {m i : Nat} (h : i < m) : nd (ns.take m) i = nd ns i := by unfold nd; rw [List.getElem?_take_of_lt h]

section
variable {ns : List Nd} {ws : Nat → List Bool}
theorem Good.kid_nd (g : Good ns ws) {i : Nat} (hi : i < ns.length) (s : Bool) (h : (nd ns i).kid s ≠ 0) : (nd ns i).kid s < ns.length ∧ ws ((nd ns i).kid s) = ws i ++ [s] ∧ (nd ns ((nd ns i).kid s)).u = i := by
  obtain ⟨y, h1, h2, h3⟩ := g.k i _ (at_nd hi) s h
  exact ⟨lt_of_at h1, h2, by rw [nd_of h1]; exact h3⟩
theorem Good.a_nd (g : Good ns ws) {i : Nat} (hi : i < ns.length) (h : (nd ns i).a ≠ 0) : (nd ns i).a < ns.length ∧ (nd ns (nd ns i).a).u = i ∧ (nd ns i).a ≠ i ∧ (nd ns i).a ≠ (nd ns i).b := by
  obtain ⟨h1, h2, h3⟩ := g.kid_nd hi false h
  refine ⟨h1, h3, fun e => ?_, fun e => ?_⟩
  · have : (nd ns i).kid false = i := e
    rw [this] at h2
    have := congrArg List.length h2
    simp at this
  · have e' : (nd ns i).kid true = (nd ns i).kid false := e.symm
    obtain ⟨-, k2, -⟩ := g.kid_nd hi true (by rw [e']; exact h)
    rw [e', h2] at k2
    simp at k2
theorem Good.b_nd (g : Good ns ws) {i : Nat} (hi : i < ns.length) (h : (nd ns i).b ≠ 0) : (nd ns i).b < ns.length ∧ (nd ns (nd ns i).b).u = i ∧ (nd ns i).b ≠ i := by
  obtain ⟨h1, h2, h3⟩ := g.kid_nd hi true h
  refine ⟨h1, h3, fun e => ?_⟩
  have : (nd ns i).kid true = i := e
  rw [this] at h2
  have := congrArg List.length h2
  simp at this
theorem Good.u_nd (g : Good ns ws) {i : Nat} (hi : i < ns.length) : (nd ns i).u < ns.length ∧ (i = 0 → (nd ns i).u = 0) ∧ (i ≠ 0 → (nd ns i).u ≠ i ∧ ((nd ns (nd ns i).u).a = i ∨ (nd ns (nd ns i).u).b = i)) := by
  refine ⟨g.u_lt (at_nd hi), fun h => by subst h; exact g.z _ (at_nd hi), fun h => ?_⟩
  obtain ⟨y, s, h1, h2, h3⟩ := g.up (at_nd hi) h
  refine ⟨fun e => ?_, ?_⟩
  · rw [e] at h3
    have := congrArg List.length h3
    simp at this
  · rw [nd_of h1]
    cases s
    · exact .inl h2
    · exact .inr h2
theorem nd_ext {x y : Nd} (h1 : x.a = y.a) (h2 : x.b = y.b) (h3 : x.u = y.u) (h4 : x.h = y.h) (h5 : x.n = y.n) : x = y := by
  cases x; cases y; simp_all
theorem drop_len (ns : List Nd) (k : Nat) : (dropN ns k).length = ns.length - 1 := by
  unfold dropN
  split
  · rw [List.length_take, leadN_len]; omega
  · unfold moveN
    rw [List.length_take, List.length_set, moveK_len, leadN_len, leadN_len]; omega
theorem drop_nd (g : Good ns ws) {k : Nat} (hk : k < ns.length) (h0 : k ≠ 0) (ha : (nd ns k).a = 0) (hb : (nd ns k).b = 0) {i : Nat} (hi : i < ns.length - 1) : nd (dropN ns k) i = ren k (ns.length - 1) (nd ns (old k (ns.length - 1) i)) := by
  obtain ⟨m, hm⟩ : ∃ m, ns.length - 1 = m := ⟨_, rfl⟩
  rw [hm] at hi ⊢
  have hml : m < ns.length := by omega
  have hm0 : m ≠ 0 := by omega
  obtain ⟨u, hu⟩ : ∃ u, (nd ns k).u = u := ⟨_, rfl⟩
  obtain ⟨hul, -, hu2⟩ := g.u_nd hk
  obtain ⟨hu3, hu4⟩ := hu2 h0
  rw [hu] at hul hu3 hu4
  have n1 : ∀ j, nd (leadN ns k 0) j = if j = u then swK (nd ns u) k 0 else nd ns j := fun j => by unfold leadN; rw [hu, nd_set hul]
  have par : ∀ j, j < ns.length → ((nd ns j).a = k ∨ (nd ns j).b = k) → j = u := by
    intro j hj h
    rcases h with h | h
    · have := (g.a_nd hj (by omega)).2.1
      rw [h, hu] at this; exact this.symm
    · have := (g.b_nd hj (by omega)).2.1
      rw [h, hu] at this; exact this.symm
  unfold dropN
  rw [hm]
  by_cases hkm : k = m
  · rw [if_pos hkm, nd_take hi, n1]
    have hik : i ≠ k := by omega
    unfold old
    rw [if_neg hik]
    have hui : (nd ns i).u ≠ m := by
      intro e
      by_cases hi0 : i = 0
      · have := (g.u_nd (i := i) (by omega)).2.1 hi0; omega
      · have := ((g.u_nd (i := i) (by omega)).2.2 hi0).2
        rw [e, ← hkm, ha, hb] at this; omega
    by_cases hiu : i = u
    · rw [if_pos hiu, ← hiu]
      refine nd_ext ?_ ?_ ?_ rfl rfl
      · show (if _ then _ else _) = (if _ then _ else if _ then _ else _)
        split <;> rename_i h1
        · rfl
        · rw [if_neg (by omega)]
      · show (if _ then _ else _) = (if _ then _ else if _ then _ else _)
        split <;> rename_i h1
        · rfl
        · rw [if_neg (by omega)]
      · show _ = (if _ then _ else _)
        rw [if_neg hui]; rfl
    · rw [if_neg hiu]
      have p := par i (by omega)
      refine nd_ext ?_ ?_ ?_ rfl rfl
      · show _ = (if _ then _ else if _ then _ else _)
        rw [if_neg (fun e => hiu (p (.inl e))), if_neg (fun e => hiu (p (.inl (by omega))))]
      · show _ = (if _ then _ else if _ then _ else _)
        rw [if_neg (fun e => hiu (p (.inr e))), if_neg (fun e => hiu (p (.inr (by omega))))]
      · show _ = (if _ then _ else _)
        rw [if_neg hui]
  · rw [if_neg hkm, nd_take hi]
    obtain ⟨v, hv⟩ : ∃ v, (nd ns m).u = v := ⟨_, rfl⟩
    obtain ⟨hvl, -, hv2⟩ := g.u_nd hml
    obtain ⟨hv3, hv4⟩ := hv2 hm0
    rw [hv] at hvl hv3 hv4
    have parm : ∀ j, j < ns.length → ((nd ns j).a = m ∨ (nd ns j).b = m) → j = v := by
      intro j hj h
      rcases h with h | h
      · have := (g.a_nd hj (by omega)).2.1
        rw [h, hv] at this; exact this.symm
      · have := (g.b_nd hj (by omega)).2.1
        rw [h, hv] at this; exact this.symm
    have hmu : (nd (leadN ns k 0) m).u = v := by
      rw [n1]
      split
      · rename_i h; rw [← h]; exact hv
      · exact hv
    have n2 : ∀ j, nd (leadN (leadN ns k 0) m k) j = if j = v then swK (nd (leadN ns k 0) v) m k else nd (leadN ns k 0) j := fun j => by
      unfold leadN at hmu ⊢
      rw [hmu, nd_set (by simpa using hvl)]
    have f2 : ∀ j, j < ns.length → nd (leadN (leadN ns k 0) m k) j = { nd ns j with a := if (nd ns j).a = k then 0 else if (nd ns j).a = m then k else (nd ns j).a, b := if (nd ns j).b = k then 0 else if (nd ns j).b = m then k else (nd ns j).b } := by
      intro j hj
      have p := par j hj
      have q := parm j hj
      have f1 : nd (leadN ns k 0) j = { nd ns j with a := if (nd ns j).a = k then 0 else (nd ns j).a, b := if (nd ns j).b = k then 0 else (nd ns j).b } := by
        rw [n1]
        by_cases hju : j = u
        · rw [if_pos hju, ← hju]; rfl
        · rw [if_neg hju, if_neg (fun e => hju (p (.inl e))), if_neg (fun e => hju (p (.inr e)))]
      rw [n2]
      by_cases hjv : j = v
      · rw [if_pos hjv, ← hjv, f1]
        unfold swK
        refine nd_ext ?_ ?_ rfl rfl rfl
        · show (if (if _ then _ else _) = m then k else (if _ then _ else _)) = _
          by_cases h1 : (nd ns j).a = k
          · rw [if_pos h1, if_neg (by omega), if_pos h1]
          · rw [if_neg h1, if_neg h1]
        · show (if (if _ then _ else _) = m then k else (if _ then _ else _)) = _
          by_cases h1 : (nd ns j).b = k
          · rw [if_pos h1, if_neg (by omega), if_pos h1]
          · rw [if_neg h1, if_neg h1]
      · rw [if_neg hjv, f1]
        have r1 : ¬ (nd ns j).a = m := fun e => hjv (q (.inl e))
        have r2 : ¬ (nd ns j).b = m := fun e => hjv (q (.inr e))
        rw [if_neg r1, if_neg r2]
    obtain ⟨N2, hN2⟩ : ∃ N2, leadN (leadN ns k 0) m k = N2 := ⟨_, rfl⟩
    have hl2 : N2.length = ns.length := by rw [← hN2, leadN_len, leadN_len]
    rw [hN2] at f2 ⊢
    clear n1 n2 hmu hN2
    have am : (nd ns m).a ≠ m := by
      intro e
      by_cases h : (nd ns m).a = 0
      · omega
      · exact (g.a_nd hml h).2.2.1 e
    have bm : (nd ns m).b ≠ m := by
      intro e
      by_cases h : (nd ns m).b = 0
      · omega
      · exact (g.b_nd hml h).2.2 e
    obtain ⟨xa, hxa⟩ : ∃ c, (nd N2 m).a = c := ⟨_, rfl⟩
    obtain ⟨xb, hxb⟩ : ∃ c, (nd N2 m).b = c := ⟨_, rfl⟩
    have xa' : xa = if (nd ns m).a = k then 0 else (nd ns m).a := by
      rw [← hxa, f2 m hml]
      show (if _ then _ else if _ then _ else _) = _
      rw [if_neg am]
    have xb' : xb = if (nd ns m).b = k then 0 else (nd ns m).b := by
      rw [← hxb, f2 m hml]
      show (if _ then _ else if _ then _ else _) = _
      rw [if_neg bm]
    have hxal : xa < ns.length := by
      rw [xa']
      split
      · omega
      · exact g.kid_lt (at_nd hml) false
    have hxbl : xb < ns.length := by
      rw [xb']
      split
      · omega
      · exact g.kid_lt (at_nd hml) true
    have k3 : ∀ j, nd (moveK N2 m k) j = if (j = xa ∧ xa ≠ 0) ∨ (j = xb ∧ xb ≠ 0) then { nd N2 j with u := k } else nd N2 j := by
      intro j
      unfold moveK
      rw [hxa, hxb, nd_setU (by rw [setU_len, hl2]; exact hxbl), nd_setU (by rw [hl2]; exact hxal)]
      by_cases h1 : j = xb ∧ xb ≠ 0
      · rw [if_pos h1, if_pos (show (j = xa ∧ xa ≠ 0) ∨ (j = xb ∧ xb ≠ 0) from .inr h1)]
        split <;> rfl
      · rw [if_neg h1]
        by_cases h2 : j = xa ∧ xa ≠ 0
        · rw [if_pos h2, if_pos (show (j = xa ∧ xa ≠ 0) ∨ (j = xb ∧ xb ≠ 0) from .inl h2)]
        · rw [if_neg h2, if_neg (by rintro (h | h); exact h2 h; exact h1 h)]
    unfold moveN
    rw [nd_set (by rw [moveK_len, hl2]; exact hk)]
    have mm : nd (moveK N2 m k) m = nd N2 m := by
      rw [k3, if_neg]
      rintro (⟨h, h'⟩ | ⟨h, h'⟩)
      · by_cases h3 : (nd ns m).a = k
        · rw [if_pos h3] at xa'; omega
        · rw [if_neg h3] at xa'; omega
      · by_cases h3 : (nd ns m).b = k
        · rw [if_pos h3] at xb'; omega
        · rw [if_neg h3] at xb'; omega
    unfold old
    by_cases hik : i = k
    · rw [if_pos hik, if_pos hik, mm, f2 m hml]
      refine nd_ext rfl rfl ?_ rfl rfl
      show _ = (if _ then _ else _)
      rw [hv, if_neg hv3]
    · rw [if_neg hik, if_neg hik, k3, f2 i (by omega)]
      have key : ((i = xa ∧ xa ≠ 0) ∨ (i = xb ∧ xb ≠ 0)) ↔ (nd ns i).u = m := by
        constructor
        · rintro (⟨h, h'⟩ | ⟨h, h'⟩)
          · by_cases h3 : (nd ns m).a = k
            · rw [if_pos h3] at xa'; omega
            · rw [if_neg h3] at xa'
              have := (g.a_nd hml (by omega)).2.1
              rw [← xa', ← h] at this; exact this
          · by_cases h3 : (nd ns m).b = k
            · rw [if_pos h3] at xb'; omega
            · rw [if_neg h3] at xb'
              have := (g.b_nd hml (by omega)).2.1
              rw [← xb', ← h] at this; exact this
        · intro e
          have hi0 : i ≠ 0 := fun h => by have := (g.u_nd (i := i) (by omega)).2.1 h; omega
          have := ((g.u_nd (i := i) (by omega)).2.2 hi0).2
          rw [e] at this
          rcases this with h | h
          · left
            rw [xa', if_neg (by omega)]
            omega
          · right
            rw [xb', if_neg (by omega)]
            omega
      by_cases hu5 : (nd ns i).u = m
      · rw [if_pos (key.2 hu5)]
        refine nd_ext rfl rfl ?_ rfl rfl
        show _ = (if _ then _ else _)
        rw [if_pos hu5]
      · rw [if_neg (fun h => hu5 (key.1 h))]
        refine nd_ext rfl rfl ?_ rfl rfl
        show _ = (if _ then _ else _)
        rw [if_neg hu5]
/-- A node that is of no use taken out. -/
def dropW (ns : List Nd) (ws : Nat → List Bool) (k i : Nat) : List Bool := ws (old k (ns.length - 1) i)
theorem drop_at (g : Good ns ws) {k : Nat} (hk : k < ns.length) (h0 : k ≠ 0) (ha : (nd ns k).a = 0) (hb : (nd ns k).b = 0) {i : Nat} {x : Nd} (h : (dropN ns k)[i]? = some x) : i < ns.length - 1 ∧ old k (ns.length - 1) i < ns.length ∧ old k (ns.length - 1) i ≠ k ∧ x = ren k (ns.length - 1) (nd ns (old k (ns.length - 1) i)) := by
  have hi := lt_of_at h
  rw [drop_len] at hi
  refine ⟨hi, ?_, ?_, ?_⟩
  · unfold old; split <;> omega
  · unfold old; split <;> omega
  · rw [← nd_of h]; exact drop_nd g hk h0 ha hb hi
theorem at_drop (g : Good ns ws) {k : Nat} (hk : k < ns.length) (h0 : k ≠ 0) (ha : (nd ns k).a = 0) (hb : (nd ns k).b = 0) {j : Nat} (hj : j < ns.length) (hjk : j ≠ k) : ∃ i, i < ns.length - 1 ∧ old k (ns.length - 1) i = j ∧ i = (if j = ns.length - 1 then k else j) ∧ (dropN ns k)[i]? = some (ren k (ns.length - 1) (nd ns j)) := by
  by_cases hm : j = ns.length - 1
  · refine ⟨k, by omega, by unfold old; rw [if_pos rfl, hm], by rw [if_pos hm], ?_⟩
    rw [at_nd (by rw [drop_len]; omega), drop_nd g hk h0 ha hb (by omega)]
    unfold old; rw [if_pos rfl, ← hm]
  · refine ⟨j, by omega, by unfold old; rw [if_neg hjk], by rw [if_neg hm], ?_⟩
    rw [at_nd (by rw [drop_len]; omega), drop_nd g hk h0 ha hb (by omega)]
    unfold old; rw [if_neg hjk]
theorem ren_kid (k m : Nat) (x : Nd) (s : Bool) : (ren k m x).kid s = if x.kid s = k then 0 else if x.kid s = m then k else x.kid s := by cases s <;> rfl
theorem good_drop (g : Good ns ws) {k : Nat} (hk : k < ns.length) (h0 : k ≠ 0) (ha : (nd ns k).a = 0) (hb : (nd ns k).b = 0) : Good (dropN ns k) (dropW ns ws k) := by
  have hd := @drop_at ns ws g k hk h0 ha hb
  have hf := @at_drop ns ws g k hk h0 ha hb
  obtain ⟨m, hm⟩ : ∃ m, ns.length - 1 = m := ⟨_, rfl⟩
  have hkid : ∀ j s, j < ns.length → (nd ns j).kid s = k → j = (nd ns k).u := by
    intro j s hj h
    have := (g.kid_nd hj s (by omega)).2.2
    rw [h] at this; exact this.symm
  have hml : m < ns.length := by omega
  unfold dropW
  rw [hm] at hd hf ⊢
  refine ⟨by rw [drop_len]; omega, by unfold old; rw [if_neg (by omega)]; exact g.w, ?_, ?_, ?_, ?_, ?_, ?_⟩
  · intro i x hx s hs
    obtain ⟨hi, ho1, ho2, rfl⟩ := hd hx
    rw [ren_kid] at hs ⊢
    have c1 : (nd ns (old k m i)).kid s ≠ k := fun e => hs (by rw [if_pos e])
    rw [if_neg c1] at hs ⊢
    have c2 : (nd ns (old k m i)).kid s ≠ 0 := by
      intro e
      rw [e, if_neg (by omega)] at hs
      exact hs rfl
    obtain ⟨k1, k2, k3⟩ := g.kid_nd ho1 s c2
    obtain ⟨i', q1, q2, q3, q4⟩ := hf k1 c1
    rw [← q3, q2]
    refine ⟨_, q4, k2, ?_⟩
    show (if _ then _ else _) = _
    rw [k3]
    unfold old
    by_cases hik : i = k
    · rw [if_pos hik, if_pos rfl, hik]
    · rw [if_neg hik, if_neg (by omega)]
  · intro i x hx hi0
    obtain ⟨hi, ho1, ho2, rfl⟩ := hd hx
    have ho0 : old k m i ≠ 0 := by unfold old; split <;> omega
    obtain ⟨y, s, h1, h2, h3⟩ := g.up (at_nd ho1) ho0
    have huk : (nd ns (old k m i)).u ≠ k := by
      intro e
      rw [e, at_nd hk] at h1
      cases h1
      cases s
      · rw [show (nd ns k).kid false = (nd ns k).a from rfl, ha] at h2; omega
      · rw [show (nd ns k).kid true = (nd ns k).b from rfl, hb] at h2; omega
    obtain ⟨i', q1, q2, q3, q4⟩ := hf (lt_of_at h1) huk
    refine ⟨_, s, by rw [show (ren k m (nd ns (old k m i))).u = i' from q3.symm]; exact q4, ?_⟩
    rw [nd_of h1, ren_kid, h2, if_neg ho2]
    unfold old
    by_cases hik : i = k
    · rw [if_pos hik, if_pos rfl, hik]
    · rw [if_neg hik, if_neg (by omega)]
  · intro i j hi hj he
    rw [drop_len, hm] at hi hj
    have o1 : old k m i < ns.length := by unfold old; split <;> omega
    have o2 : old k m j < ns.length := by unfold old; split <;> omega
    have := g.i _ _ o1 o2 he
    unfold old at this
    split at this <;> split at this <;> omega
  · intro i hi
    rw [drop_len, hm] at hi
    exact g.d _ (by unfold old; split <;> omega)
  · intro x hx
    obtain ⟨hi, ho1, ho2, rfl⟩ := hd hx
    have : old k m 0 = 0 := by unfold old; rw [if_neg (by omega)]
    rw [this]
    show (if _ then _ else _) = _
    rw [(g.u_nd g.r).2.1 rfl, if_neg (by omega)]
  · intro i x hx
    obtain ⟨hi, ho1, ho2, rfl⟩ := hd hx
    have := g.v _ _ (at_nd ho1)
    exact this
theorem holds_drop (g : Good ns ws) {L : List Pr} (H : Holds ns ws L) {k : Nat} (hk : k < ns.length) (h0 : k ≠ 0) (ha : (nd ns k).a = 0) (hb : (nd ns k).b = 0) (hh : (nd ns k).h = false) : Holds (dropN ns k) (dropW ns ws k) L := by
  intro p
  rw [H p]
  constructor
  · rintro ⟨j, x, hx, hxh, rfl⟩
    have hjk : j ≠ k := by
      rintro rfl
      rw [nd_of hx] at hh
      rw [hh] at hxh; cases hxh
    obtain ⟨i, q1, q2, q3, q4⟩ := at_drop g hk h0 ha hb (lt_of_at hx) hjk
    rw [nd_of hx] at q4
    exact ⟨i, _, q4, hxh, by unfold dropW; rw [q2]; rfl⟩
  · rintro ⟨i, x, hx, hxh, rfl⟩
    obtain ⟨hi, ho1, ho2, rfl⟩ := drop_at g hk h0 ha hb hx
    exact ⟨_, _, at_nd ho1, hxh, rfl⟩
end
end Go.Proofs.Ytcabeclbdjfoaaa
