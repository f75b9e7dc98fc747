/- What a call leaves of a world but for some blocks. No program is named here. -/
import Derived.Below
namespace Go.Proofs.Ytofmgkpghkeegaa
open Go.RowKit

/-- Of the blocks that were there only those of B may have turned. -/
structure Keep (B : Nat → Prop) (w w' : World) : Prop where
  os : w'.os = w.os
  tape : w'.tape = w.tape
  output : w'.output = w.output
  size : w.heap.size ≤ w'.heap.size
  block : ∀ k, k < w.heap.size → ¬ B k → w'.heap[k]? = w.heap[k]?
theorem Keep.refl (B : Nat → Prop) (w : World) : Keep B w w := ⟨rfl, rfl, rfl, Nat.le_refl _, fun _ _ _ => rfl⟩
theorem Keep.trans {B C : Nat → Prop} {a b c : World} (h : Keep B a b) (k : Keep C b c) (hC : ∀ i, i < a.heap.size → C i → B i) : Keep B a c :=
  ⟨k.os.trans h.os, k.tape.trans h.tape, k.output.trans h.output, Nat.le_trans h.size k.size, fun i hi hn => (k.block i (Nat.lt_of_lt_of_le hi h.size) fun hc => hn (hC i hi hc)).trans (h.block i hi hn)⟩
theorem Keep.mono {B C : Nat → Prop} {a b : World} (h : Keep B a b) (hC : ∀ i, i < a.heap.size → B i → C i) : Keep C a b :=
  ⟨h.os, h.tape, h.output, h.size, fun i hi hn => h.block i hi fun hb => hn (hC i hi hb)⟩
theorem keep_of {B : Nat → Prop} {a b : World} (h : Below a.heap.size a b) : Keep B a b := ⟨h.os, h.tape, h.output, h.size, fun i hi _ => h.block i hi⟩
theorem Keep.below {B : Nat → Prop} {N : Nat} {a b : World} (h : Keep B a b) (hB : ∀ i, i < a.heap.size → B i → N ≤ i) (hN : N ≤ a.heap.size) : Below N a b :=
  ⟨h.os, h.tape, h.output, h.size, fun i hi => h.block i (Nat.lt_of_lt_of_le hi hN) fun hb => by have := hB i (Nat.lt_of_lt_of_le hi hN) hb; omega⟩
theorem Keep.cell {B : Nat → Prop} {w w' : World} (h : Keep B w w') {p : Addr} (hp : p.block < w.heap.size) (hn : ¬ B p.block) : w'.cell? p = w.cell? p := World.cell?_of_block (w := w) (h.block p.block hp hn)
theorem Keep.frozen {B : Nat → Prop} {w w' : World} (h : Keep B w w') {p : Addr} (hp : p.block < w.heap.size) (hn : ¬ B p.block) : w'.frozen? p = w.frozen? p := World.frozen?_of_block (w := w) (h.block p.block hp hn)
theorem Keep.drew {B : Nat → Prop} {a w : World} (h : Keep B a w) : Keep B a w.drew := ⟨h.os, h.tape, h.output, h.size, h.block⟩
theorem Keep.alloc {B : Nat → Prop} {a w : World} (h : Keep B a w) (o : Obj) : Keep B a (w.alloc o) :=
  ⟨h.os, h.tape, h.output, Nat.le_trans h.size (by simp), fun k hk hn => (Below.heap_alloc _ _ _ (Nat.lt_of_lt_of_le hk h.size)).trans (h.block k hk hn)⟩
theorem Keep.setCell {B : Nat → Prop} {a w : World} (h : Keep B a w) {p : Addr} (hp : B p.block) (u : Value) : Keep B a (w.setCell p u) :=
  ⟨h.os, h.tape, h.output, by simpa [World.setCell] using h.size, fun k hk hn => (Below.heap_setCell _ _ _ _ (fun e => hn (by rw [e]; exact hp))).trans (h.block k hk hn)⟩
theorem Keep.then {B : Nat → Prop} {a b c : World} (h : Keep B a b) (k : Below b.heap.size b c) : Keep B a c := h.trans (C := fun _ => False) (keep_of k) (fun _ _ h => h.elim)
theorem keep_then {B : Nat → Prop} {a b c : World} (h : Below a.heap.size a b) (k : Keep B b c) : Keep B a c := (keep_of (B := B) h).trans k (fun _ _ h => h)
end Go.Proofs.Ytofmgkpghkeegaa
