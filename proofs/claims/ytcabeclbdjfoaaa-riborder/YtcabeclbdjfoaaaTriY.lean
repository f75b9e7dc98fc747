/- What is asked of the program's trie. -/
import Derived.Test.YtcabeclbdjfoaaaRowX
namespace Go.Proofs.Ytcabeclbdjfoaaa
open Go.RowKit

def keyX (p : Pr) : Px := ⟨p.a, p.l⟩
theorem OwnX.same {W W' : World} {base : Nat} {v : Value} {n : Nat} {L : List Px} (h : OwnX W base v n L) (hb : ∀ g, v.ownBlock = some g → W'.heap[g]? = W.heap[g]?) : OwnX W' base v n L := by
  refine ⟨h.1, ?_⟩
  rcases h.2 with hn | ⟨g, cap, cur, hv, hbg, hg, r⟩
  · exact .inl hn
  · refine .inr ⟨g, cap, cur, hv, hbg, ?_, r⟩
    rw [hb g (by rw [hv]; rfl)]
    exact hg
theorem OwnX.own_lt {W : World} {base : Nat} {v : Value} {n : Nat} {L : List Px} (h : OwnX W base v n L) {g : Nat} (hg : v.ownBlock = some g) : g < W.heap.size := by
  rcases h.2 with ⟨rfl, _⟩ | ⟨g', cap, cur, hv, hbg, hg', r⟩
  · cases hg
  · rw [hv] at hg
    simp [Value.ownBlock] at hg
    subst hg
    exact (Array.getElem?_eq_some_iff.1 hg').1
theorem keys_ok {L : List Pr} (h : GoodP L) : Pxs (L.map keyX) := fun q hq => by
  obtain ⟨p, hp, rfl⟩ := List.mem_map.1 hq
  have hl := may_len (h.m p hp)
  exact ⟨(h.u p hp).1, (h.u p hp).2, by show _ ≤ p.l; omega, by show p.l ≤ _; omega⟩
/-- What a call that changes the program's trie leaves. -/
def DoneT (TR : World → (Nat → Prop) → Addr → Int → List Pr → Nat → Prop) (w : World) (B : Nat → Prop) (p : Addr) (most : Int) (L : List Pr) (m : Nat) (x : Int) (e : Ending) (w' : World) : Prop :=
  ∃ B', e = .returned (.int .i64 x) ∧ TR w' B' p most L m ∧ (∀ k, B' k → B k ∨ w.heap.size ≤ k) ∧ Keep B w w'
/-- The program's trie at p, with the blocks B of its own, has L; m calls have changed it. -/
structure TrieC (TR : World → (Nat → Prop) → Addr → Int → List Pr → Nat → Prop) : Prop where
  keep : ∀ {w w' : World} {B C : Nat → Prop} {p : Addr} {most : Int} {L : List Pr} {m : Nat}, TR w B p most L m → Keep C w w' → (∀ k, B k → ¬ C k) → TR w' B p most L m
  up : ∀ {w : World} {B : Nat → Prop} {p : Addr} {most : Int} {L : List Pr} {m : Nat}, TR w B p most L m → TR w B p most L (m + 1)
  lt : ∀ {w : World} {B : Nat → Prop} {p : Addr} {most : Int} {L : List Pr} {m : Nat}, TR w B p most L m → ∀ k, B k → k < w.heap.size
  good : ∀ {w : World} {B : Nat → Prop} {p : Addr} {most : Int} {L : List Pr} {m : Nat}, TR w B p most L m → GoodP L ∧ L.length ≤ m
  new : ∀ (most : Int) (w : World), -9223372036854775808 ≤ most → most ≤ 9223372036854775807 → Calls Try.prog 33 #[.int .i64 most] w fun e w' => ∃ p B, e = .returned (.pointer (some p)) ∧ TR w' B p most [] 0 ∧ (∀ k, B k → w.heap.size ≤ k) ∧ Below w.heap.size w w'
  put : ∀ {w : World} {B : Nat → Prop} {p : Addr} {most : Int} {L : List Pr} {m : Nat} (a l n : Int), TR w B p most L m → m ≤ 1000 → Pr.Ok ⟨a, l, n⟩ → Calls Try.prog 37 #[.pointer (some p), valX a l, .int .i64 n] w (DoneT TR w B p most (putL most L a l n) (m + 1) (putX most L a l))
  take : ∀ {w : World} {B : Nat → Prop} {p : Addr} {most : Int} {L : List Pr} {m : Nat} (a l : Int), TR w B p most L m → m ≤ 1000 → Px.Ok ⟨a, l⟩ → Calls Try.prog 40 #[.pointer (some p), valX a l] w (DoneT TR w B p most (takeL L a l) (m + 1) (takeX L a l))
  get : ∀ {w : World} {B : Nat → Prop} {p : Addr} {most : Int} {L : List Pr} {m : Nat} (a l : Int), TR w B p most L m → m ≤ 2000 → Px.Ok ⟨a, l⟩ → Calls Try.prog 51 #[.pointer (some p), valX a l] w fun e w' => e = .returned (.tuple #[.int .i64 (getN L a l), .bool (getB L a l)]) ∧ Below w.heap.size w w'
  find : ∀ {w : World} {B : Nat → Prop} {p : Addr} {most : Int} {L : List Pr} {m : Nat} (x : Int), TR w B p most L m → m ≤ 2000 → 0 ≤ x → x < 4294967296 → Calls Try.prog 43 #[.pointer (some p), .int .u32 x] w fun e w' => e = .returned (.tuple #[valX (fndA x L) (fndL x L), .int .i64 (fndN x L), .bool (fndB x L)]) ∧ Below w.heap.size w w'
  all : ∀ {w : World} {B : Nat → Prop} {p : Addr} {most : Int} {L : List Pr} {m : Nat}, TR w B p most L m → m ≤ 2000 → Calls Try.prog 41 #[.pointer (some p)] w fun e w' => ∃ ad n cap, e = .returned (.slice ad n cap) ∧ OwnX w' w.heap.size (.slice ad n cap) n (L.map keyX) ∧ Below w.heap.size w w'

theorem TrieC.later {TR : World → (Nat → Prop) → Addr → Int → List Pr → Nat → Prop} (C : TrieC TR) {w w' : World} {B : Nat → Prop} {p : Addr} {most : Int} {L : List Pr} {m : Nat} (h : TR w B p most L m) (hb : Below w.heap.size w w') : TR w' B p most L m := C.keep (C := fun _ => False) h (keep_of hb) (fun _ _ h => h)
end Go.Proofs.Ytcabeclbdjfoaaa
