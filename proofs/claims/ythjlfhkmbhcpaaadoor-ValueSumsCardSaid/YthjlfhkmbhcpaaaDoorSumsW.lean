/-
  ValueSums: all cases together.
-/
import Derived.Test.YthjlfhkmbhcpaaaDoorSums0
import Derived.Test.YthjlfhkmbhcpaaaDoorSums1
import Derived.Test.YthjlfhkmbhcpaaaDoorSums2
import Derived.Test.YthjlfhkmbhcpaaaDoorSums3
import Derived.Test.YthjlfhkmbhcpaaaDoorSums4
import Derived.Test.YthjlfhkmbhcpaaaDoorSums5
import Derived.Test.YthjlfhkmbhcpaaaDoorSums6
namespace Go.Proofs.YthjlfhkmbhcpaaaDoor.valueSums
open Go.RowKit

theorem valueSums_walk (a b : Int) (w : World) (ha : I64 a) (hb : I64 b) (ht : Tab w) : Done a b w := by
  by_cases h0 : 0 < b
  · by_cases h1 : 9223372036854775807 - b < a
    · exact pos_over a b w ha hb ht h0 h1
    by_cases h2 : a < -9223372036854775808 + b
    · exact pos_under a b w ha hb ht h0 h2
    · exact pos_none a b w ha hb ht h0 (by omega) (by omega)
  by_cases h3 : b < 0
  · by_cases h1 : a < -9223372036854775808 - b
    · exact neg_over a b w ha hb ht h3 h1
    by_cases h2 : 9223372036854775807 + b < a
    · exact neg_under a b w ha hb ht h3 h2
    · exact neg_none a b w ha hb ht h3 (by omega) (by omega)
  · exact zero a b w ha hb ht h0 h3
end Go.Proofs.YthjlfhkmbhcpaaaDoor.valueSums
