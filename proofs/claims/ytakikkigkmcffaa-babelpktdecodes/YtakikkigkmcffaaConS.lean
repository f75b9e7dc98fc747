/- Append onto a row of bytes of one's own, at a step of a region that draws its order. -/
import Derived.Test.YtakikkigkmcffaaCon9
import Derived.RegionTactic
namespace Go.Proofs.Ytakikkigkmcffaa
open Go.RowKit

section
variable {P : Program} (w : World)

theorem wp_app8 {o : Oper} {a : Act} {K : Act → World → Prop} {Q : Exit → Act → World → Prop} (s x : Operand) (t e : TypeId)
    (ho : o.op = .call { callee := .builtin .append, args := #[s, x], argTypes := #[t, t] }) (base : Nat)
    (ht : P.underlying t = some (.slice e)) (hinfo : (P.info? e).map (fun i => (i.zero, i.size, i.bytes)) = some (some (.int .u8 0), 1, 1))
    (v : Value) (n : Nat) (l1 : List Int) (hs : a.eval s = v) (hown : Own8 w base e v n l1) (ad : Option Addr) (m c : Nat) (l2 : List Int) (hx : a.eval x = .slice ad m c) (h2 : Row8 w ad m l2) (k : Nat) (hk : n + m = k) (l3 : List Int) (hl : l1 ++ l2 = l3) (hlen : k ≤ 100000) (hbase : base ≤ w.heap.size)
    (h : ∀ a' c' w', Own8 w' base e (.slice a' k c') k l3 → Below base w w' → K (a.put o.dst (.slice a' k c')) w') : o.wp P a w K Q := by
  subst hk hl
  obtain ⟨a', c', w', hr, h3, h4⟩ := run_app8 (P := P) w base t o.type e ht hinfo v n l1 hown ad m c l2 h2 hlen hbase
  unfold Oper.wp execOp
  simp only [ho, resolve, invoke, builtin, Sem.run_bind, Sem.run_pure, Result.andThen_ok, List.map_toArray, List.map_cons, List.map_nil, hs, hx, hr]
  exact h a' c' w' h3 h4

/-- At a step of a region that draws its order. -/
theorem step_app8 {ops : Array Oper} {o : Oper} {a : Act} {K : Act → World → Prop} {Q : Exit → Act → World → Prop} {E : Prop} (hgd : o.guard = none) (s x : Operand) (t e : TypeId)
    (ho : o.op = .call { callee := .builtin .append, args := #[s, x], argTypes := #[t, t] }) (base : Nat)
    (ht : P.underlying t = some (.slice e)) (hinfo : (P.info? e).map (fun i => (i.zero, i.size, i.bytes)) = some (some (.int .u8 0), 1, 1))
    (v : Value) (n : Nat) (l1 : List Int) (hs : a.eval s = v) (hown : Own8 w base e v n l1) (ad : Option Addr) (m c : Nat) (l2 : List Int) (hx : a.eval x = .slice ad m c) (h2 : Row8 w ad m l2) (k : Nat) (hk : n + m = k) (l3 : List Int) (hl : l1 ++ l2 = l3) (hlen : k ≤ 100000) (hbase : base ≤ w.heap.size)
    (h : ∀ a' c' w', Own8 w' base e (.slice a' k c') k l3 → Below base w w' → K (a.put o.dst (.slice a' k c')) w') :
    if Region.wanted o (yielded ops a.tmps) = true then Oper.wp P o a w K Q else E := by
  have hw : Region.wanted o (yielded ops a.tmps) = true := by simp [Region.wanted, hgd]
  rw [if_pos hw]
  exact wp_app8 w s x t e ho base ht hinfo v n l1 hs hown ad m c l2 hx h2 k hk l3 hl hlen hbase h
end
end Go.Proofs.Ytakikkigkmcffaa
