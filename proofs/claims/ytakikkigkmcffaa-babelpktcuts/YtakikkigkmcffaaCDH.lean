/- The contract of readBody. -/
import Derived.Test.YtakikkigkmcffaaCDC
import Derived.Test.YtakikkigkmcffaaCDE
import Derived.Test.YtakikkigkmcffaaCDF
import Derived.Test.YtakikkigkmcffaaCDG
namespace Go.Proofs.Ytakikkigkmcffaa
open Go.RowKit

theorem readBody_any (kd : Int) (N : Nat) (S : St) (ra : Option Addr) (m cc : Nat) (ad : Option Addr) (k cp : Nat) (b off n cap : Nat) (l : List Int) (w : World) (hF : RF w N S.kn ra m cc ad k cp) (hO : OwnT w (N + 1) (.slice ad k cp) k S.ps) (hk : k ≤ 5000) (hr : Row8 w (some ⟨b, off, none⟩) n l) (hn : n ≤ 255) (hc : n ≤ cap) (hK : S.kn.Ok) :
    Calls Try.prog 50 #[.pointer (some ⟨N, 0, none⟩), .int .u8 kd, .slice (some ⟨b, off, none⟩) n cap] w (TookI w N ra m cc (tk S kd l)) := by
  by_cases h4 : kd = 4
  · subst h4; exact body_4 N S ra m cc ad k cp b off n cap l w hF hO hk hr hn
  by_cases h5 : kd = 5
  · subst h5; exact body_5 N S ra m cc ad k cp b off n cap l w hF hO hk hr hn
  by_cases h6 : kd = 6
  · subst h6; exact body_6 N S ra m cc ad k cp b off n cap l w hF hO hr hn
  by_cases h8 : kd = 8
  · subst h8; exact body_8 N S ra m cc ad k cp b off n cap l w hF hO hk hr hn hc hK
  by_cases h9 : kd = 9
  · subst h9; exact body_9 N S ra m cc ad k cp b off n cap l w hF hO hk hr hn hc
  by_cases h10 : kd = 10
  · subst h10; exact body_10 N S ra m cc ad k cp b off n cap l w hF hO hk hr hn hc
  exact body_else kd h4 h5 h6 h8 h9 h10 N S ra m cc ad k cp b off n cap l w hF hO
end Go.Proofs.Ytakikkigkmcffaa
