/- DecRef3. -/
import Derived.Test.YthknmadinmigfaaGreatDoorMk2d
set_option maxRecDepth 400000
set_option maxHeartbeats 64000000
set_option linter.unusedVariables false
set_option linter.unusedSimpArgs false
namespace Go.Proofs.YthknmadinmigfaaGreatDoor
section
open Go.RowKit Num Dec

end
end Go.Proofs.YthknmadinmigfaaGreatDoor
