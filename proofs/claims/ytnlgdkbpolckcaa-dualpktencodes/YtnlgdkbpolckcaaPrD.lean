/- The contract of the program's withSum. -/
import Derived.Test.YtnlgdkbpolckcaaPrC
import Derived.Deep.RegionHeld3
namespace Go.Proofs.Ytnlgdkbpolckcaa
open Go.RowKit

/-- Bytes with their checksum in its place. -/
def sumd (l : List Int) : List Int := l.take 2 ++ b2 (sumI (plain l)) ++ l.drop 4
theorem plain_is {l : List Int} (h : 4 ≤ l.length) : l.take 2 ++ b2 0 ++ l.drop (2 + 2) = plain l := by
  match l, h with
  | x0 :: x1 :: x2 :: x3 :: r, _ => rfl
theorem sumd_is {l : List Int} (h : 4 ≤ l.length) : (plain l).take 2 ++ b2 (sumI (plain l)) ++ (plain l).drop (2 + 2) = sumd l := by
  match l, h with
  | x0 :: x1 :: x2 :: x3 :: r, _ => rfl
theorem plain_bytes {l : List Int} (h : Bytes l) : Bytes (plain l) := fun v hv => by
  unfold plain at hv
  rcases List.mem_or_eq_of_mem_set hv with hv | rfl
  · rcases List.mem_or_eq_of_mem_set hv with hv | rfl
    · exact h v hv
    · exact ⟨by decide, by decide⟩
  · exact ⟨by decide, by decide⟩
theorem sumd_len {l : List Int} (h : 4 ≤ l.length) : (sumd l).length = l.length := by unfold sumd b2; simp; omega
theorem sumd_bytes {l : List Int} (h : Bytes l) : Bytes (sumd l) := by
  have hb := sumI_bd (plain_bytes h)
  exact ((h.take' 2).append (b2_bytes hb.1 hb.2)).append (h.drop' 4)
/-- The checksum fits where nothing changes. -/
theorem sumd_iff {l : List Int} (hB : Bytes l) (h : 4 ≤ l.length) : (l = sumd l) ↔ sumOk l = true := by
  have hb := sumI_bd (plain_bytes hB)
  obtain ⟨s, hs⟩ : ∃ s, sumI (plain l) = s := ⟨_, rfl⟩
  unfold sumOk sumd
  rw [hs] at hb ⊢
  match l, h with
  | x0 :: x1 :: x2 :: x3 :: r, _ =>
    have h2 := hB x2 (by simp)
    have h3 := hB x3 (by simp)
    simp only [b2, getV, List.take_succ_cons, List.take_zero, List.drop_succ_cons, List.drop_zero, List.cons_append, List.nil_append, List.cons.injEq, and_true, true_and, beq_iff_eq, List.getElem?_cons_succ, List.getElem?_cons_zero, Option.getD_some]
    omega
theorem Own8.get {w : World} {base : Nat} {e : TypeId} {a : Option Addr} {k n cp : Nat} {l : List Int} (h : Own8 w base e (.slice a k cp) n l) (h0 : 0 < n) : ∃ g, a = some ⟨g, 0, none⟩ := by
  rcases h.2 with ⟨_, h1⟩ | ⟨g, c, cur, hv, _⟩
  · omega
  · simp only [Value.slice.injEq] at hv
    exact ⟨g, hv.1⟩
theorem drewB {W W' : World} (h : Below W.drew.heap.size W.drew W') : Below W.heap.size W W' := ((Below.refl _ _).drew).trans h
set_option maxHeartbeats 2000000 in
theorem withSum_any (b off n cap : Nat) (l : List Int) (w : World) (h : Row8 w (some ⟨b, off, none⟩) n l) (hn : n ≤ 3000) (h16 : 16 ≤ n) :
    Calls Try.prog 18 #[.slice (some ⟨b, off, none⟩) n cap] w fun e w' => ∃ a c, e = .returned (.slice a n c) ∧ Own8 w' w.heap.size 5 (.slice a n c) n (sumd l) ∧ Below w.heap.size w w' := by
  have HR : Hid (Row8 w (some ⟨b, off, none⟩) n l) := h
  have HP : Hid (l.take 2 ++ b2 0 ++ l.drop (2 + 2) = plain l) := plain_is (by rw [h.1]; omega)
  have HS : Hid ((plain l).take 2 ++ b2 (sumI (plain l)) ++ (plain l).drop (2 + 2) = sumd l) := sumd_is (by rw [h.1]; omega)
  have HB : Hid (Bytes (plain l)) := plain_bytes h.2.2.1
  have hb := sumI_bd (plain_bytes h.2.2.1)
  obtain ⟨s, hs⟩ : ∃ s, sumI (plain l) = s := ⟨_, rfl⟩
  have HSum : Hid (sumI (plain l) = s) := hs
  rw [hs] at hb
  obtain ⟨s0, s1⟩ := hb
  have i2 : (2 : Int) ≤ (n : Int) := by omega
  clear h hs
  go_enter Try.func18, Try.ntmps18
  go_wp2_with (go_at_call 31; refine (clone_any b off n cap l _ HR.out (by omega)).mono ?_; rintro e W1 ⟨a1, c1, rfl, own1, hb1⟩; obtain ⟨g, rfl⟩ := own1.get (by omega))
  have HO1 : Hid (Own8 W1 w.heap.size 5 (.slice (some ⟨g, 0, none⟩) n c1) n l) := own1
  obtain ⟨hbg, hgz, hnc, -, -⟩ := own1.cells (by omega)
  have i3 : (n : Int) ≤ (c1 : Int) := by omega
  have i4 : ¬ c1 = 2 := by omega
  have i5 : (2 : Int) ≤ (c1 : Int) := by omega
  clear own1
  go_region_held3 (fun _ => True) (trivial)
    ((first
      | (go_at_call 30; refine (put16_b _ _ (by decide) (by decide)).mono ?_; rintro e W2 ⟨rfl, r2, hb2⟩; have o2 := HO1.out.later (drewB hb2); have hb2 := drewB hb2)
      | (refine step_copy8 rfl (.tmp 7) (.tmp 8) rfl w.heap.size g n c1 l o2 2 (n - 2) (c1 - 2) rfl _ 0 2 2 (b2 0) rfl r2 (by decide) (by omega) (by omega) ?_; intro W3 o3 hb3 sz3; clear sz3)))
  all_goals
    rw [HP.out] at o3
    have HO3 : Hid (Own8 W3 w.heap.size 5 (.slice (some ⟨g, 0, none⟩) n c1) n (plain l)) := o3
    have HR3 : Hid (Row8 W3 (some ⟨g, 0, none⟩) n (plain l)) := o3.row HB.out (by omega)
    have HB3 : Hid (Below w.heap.size w W3) := (stp hb1 hb2).trans (hb3.mono hbg)
    clear o3 o2 r2 hb2 hb3 hb1 HO1
    go_wp2
    go_region_held3 (fun _ => True) (trivial)
      ((first
        | (go_at_call 32; refine (sum_any _ _ _ (plain l) _ (HR3.out.later (Below.refl _ _).drew)).mono ?_; rw [HSum.out]; rintro e W_ ⟨rfl, rfl⟩)
        | (go_at_call 30; refine (put16_b _ _ s0 s1).mono ?_; rintro e W4 ⟨rfl, r4, hb4⟩; have o4 := HO3.out.later (drewB hb4); have hb4 := drewB hb4)
        | (refine step_copy8 rfl (.tmp 11) (.tmp 14) rfl w.heap.size g n c1 (plain l) o4 2 (n - 2) (c1 - 2) rfl _ 0 2 2 (b2 s) rfl r4 (by decide) (by omega) (by omega) ?_; intro W5 o5 hb5 sz5; clear sz5)))
    all_goals
      go_wp2
      go_ret
      refine ⟨_, _, rfl, ?_, (stp HB3.out hb4).trans (hb5.mono hbg)⟩
      rw [← HSum.out, HS.out] at o5
      exact o5
end Go.Proofs.Ytnlgdkbpolckcaa
