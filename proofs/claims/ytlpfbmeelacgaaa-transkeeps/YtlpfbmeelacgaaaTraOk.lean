/- The program's translation is as the laws ask. -/
import Derived.Test.YtlpfbmeelacgaaaProM
import Derived.Test.YtlpfbmeelacgaaaProT
import Derived.Test.YtlpfbmeelacgaaaLawA
namespace Go.Proofs.Ytlpfbmeelacgaaa
open Go.RowKit

theorem traC : TraC where
  may := fun ad n cap L w hr hn => may_trans ad n cap L w hr hn rfl
  to := fun ad n cap L s x w hr hn _ _ => to_trans ad n cap L s x w hr hn
end Go.Proofs.Ytlpfbmeelacgaaa
