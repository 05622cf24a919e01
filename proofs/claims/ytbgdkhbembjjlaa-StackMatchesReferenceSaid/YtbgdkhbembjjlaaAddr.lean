/- Contracts of Wrap, Check, In, Overlap and of the reference's Mod. -/
import Derived.Test.YtbgdkhbembjjlaaRows
import Derived.Test.YtbgdkhbembjjlaaRight
import Derived.Test.YtbgdkhbembjjlaaAddrNum
import Derived.Test.YtbgdkhbembjjlaaRow
import Derived.WalkKit
import Derived.Handy
import Derived.IntWalk
import Derived.Lib.Hide
import Derived.OwnWalk
import Derived.Maps.AppendAt
namespace Go.Proofs.Ytbgdkhbembjjlaa
open Go.RowKit Num
set_option linter.unusedVariables false


















/-- What Check says: 4 for a span that leaves the memory where that is a fault. -/
def chk (a n : Int) (f : Bool) : Int := if f = true ∧ 65536 < a + n then 4 else 0












































end Go.Proofs.Ytbgdkhbembjjlaa
