/- The program's filter is as the laws ask. -/
import Derived.Test.YtmmhnpekbfmonaaProG
import Derived.Test.YtmmhnpekbfmonaaLawA
namespace Go.Proofs.Ytmmhnpekbfmonaa
open Go.RowKit

theorem filC : FilC where
  may := fun ad n cap L w hr => may_filter ad n cap L w hr rfl
  permits := fun ad n cap L qa ql t w hr hn hqa hql ht => permits_filter ad n cap L qa ql t w hr hqa hql ht hn rfl rfl
end Go.Proofs.Ytmmhnpekbfmonaa
