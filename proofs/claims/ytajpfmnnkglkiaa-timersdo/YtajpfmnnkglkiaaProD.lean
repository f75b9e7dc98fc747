/- What is asked of the program's sort of timers (the library's slices.SortFunc over its compare). -/
import Derived.Test.YtajpfmnnkglkiaaProC
import Derived.Test.YtajpfmnnkglkiaaKeepA
namespace Go.Proofs.Ytajpfmnnkglkiaa
open Go.RowKit Go.Sort

def ltT (x y : Tm) : Bool := decide (x.lt y)
theorem ltT_is (x y : Tm) : ltT x y = decide (x.lt y) := rfl
def SortC : Prop := ∀ (w : World) (base n cap : Nat) (ad : Option Addr) (M : List Tm), OwnT w base (.slice ad n cap) n M → n ≤ 100000 →
    Calls Try.prog 19 #[.slice ad n cap, .func (.func 20) #[] #[]] w fun e w' => e = .returned (.tuple #[]) ∧ OwnT w' base (.slice ad n cap) n (srtL ltT M) ∧ Keep (fun k => (Value.slice ad n cap).ownBlock = some k) w w'
end Go.Proofs.Ytajpfmnnkglkiaa
