/- SptFramesL. -/
import Derived.Test.YtbpniahcjbagmaaGreatDoorMk8a
import Derived.Test.YtbpniahcjbagmaaGreatDoorMk0g
set_option maxRecDepth 400000
set_option maxHeartbeats 64000000
set_option linter.unusedVariables false
set_option linter.unusedSimpArgs false
namespace Go.Proofs.YtbpniahcjbagmaaGreatDoor
section
open Go.RowKit Num Dec Cpu
theorem sE(s:Sp)(R L F:List Int)(l:List Fv)(W:World)(H:wW s W R L F l)(hL:cQ W):
  Calls Tryz.prog 7 #[.agg (spC s)] W fun e w'=>e=.returned (.bool true)∧Below W.heap.size W w':=by
 exact zKO 8192 (iF 8192 rfl) (CP 8192 rfl) s W H hL
end
end Go.Proofs.YtbpniahcjbagmaaGreatDoor
