/- FrmAwake. -/
import Derived.Test.YtbpniahcjbagmaaGreatDoorMk5a
set_option maxRecDepth 400000
set_option maxHeartbeats 64000000
set_option linter.unusedVariables false
set_option linter.unusedSimpArgs false
namespace Go.Proofs.YtbpniahcjbagmaaGreatDoor
section
open Go.RowKit Num Dec Cpu

end
end Go.Proofs.YtbpniahcjbagmaaGreatDoor
