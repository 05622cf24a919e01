/- The contract of the reference's Right. -/
import Derived.Test.YtbgdkhbembjjlaaRows
import Derived.WalkKit
import Derived.Handy
import Derived.IntWalk
import Derived.Lib.Hide
namespace Go.Proofs.Ytbgdkhbembjjlaa
open Go.RowKit
set_option linter.unusedVariables false



















end Go.Proofs.Ytbgdkhbembjjlaa
