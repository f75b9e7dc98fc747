/- Prefixes alone, and what is told of them. -/
import Derived.Test.YtcabeclbdjfoaaaRibA
import Derived.Test.YtcabeclbdjfoaaaKeepA
import Derived.Test.YtcabeclbdjfoaaaMat8
import Derived.RegionTactic
namespace Go.Proofs.Ytcabeclbdjfoaaa
open Go.RowKit

structure Pr.Ok (p : Pr) : Prop where
  a0 : 0 ≤ p.a
  a1 : p.a < 4294967296
  l0 : -9223372036854775808 ≤ p.l
  l1 : p.l ≤ 9223372036854775807
  n0 : -9223372036854775808 ≤ p.n
  n1 : p.n ≤ 9223372036854775807
def Prs (L : List Pr) : Prop := ∀ p ∈ L, p.Ok
/-- A prefix alone. -/
structure Px where
  a : Int
  l : Int
deriving DecidableEq
structure Px.Ok (p : Px) : Prop where
  a0 : 0 ≤ p.a
  a1 : p.a < 4294967296
  l0 : -9223372036854775808 ≤ p.l
  l1 : p.l ≤ 9223372036854775807
def Pxs (L : List Px) : Prop := ∀ p ∈ L, p.Ok
def getN (L : List Pr) (a l : Int) : Int := ((getP L a l).map Pr.n).getD 0
def getB (L : List Pr) (a l : Int) : Bool := (getP L a l).isSome
def fndA (x : Int) (L : List Pr) : Int := ((findP x L none).map Pr.a).getD 0
def fndL (x : Int) (L : List Pr) : Int := ((findP x L none).map Pr.l).getD 0
def fndN (x : Int) (L : List Pr) : Int := ((findP x L none).map Pr.n).getD 0
def fndB (x : Int) (L : List Pr) : Bool := (findP x L none).isSome
theorem out8 {w W : World} {o : Obj} (h : Below (w.heap.size + 1) (w.alloc o) W) : Below w.heap.size w W := (below1 w o).trans (h.mono (by omega))
end Go.Proofs.Ytcabeclbdjfoaaa
