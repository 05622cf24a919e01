/- FrmStopL. -/
import Derived.Test.YtbpniahcjbagmaaGreatDoorMFrmStopW
import Derived.Test.YtbpniahcjbagmaaGreatDoorMk0g
set_option maxRecDepth 400000
set_option maxHeartbeats 64000000
set_option linter.unusedVariables false
set_option linter.unusedSimpArgs false
namespace Go.Proofs.YtbpniahcjbagmaaGreatDoor
section
open Go.RowKit Num Dec Cpu
theorem fV(A:Option Addr)(n c:Nat)(R:List Int)(B:Option Addr)(k d:Nat)(L:List Int)(l:Int)(c0 c1 c2 c3 c4 c5 c6:Bool)(F:Option Addr)(m cf:Nat)(fs:List Fm)(W:World)(HA:LQ W A n c R)(HB:LQ W B k d L)(wl:(Lit.int .i64 l).wf=true)(HF:TO W F m cf fs)(hL:xQ W):
  Calls Tryz.prog 3 #[.slice A n c,.slice B k d,.agg #[.int .i64 l,.bool c0,.bool c1,.bool c2,.bool c3,.bool c4,.bool c5,.bool c6],.slice F m cf] W fun e w'=>e=.returned (.bool true)∧Below W.heap.size W w':=by
 exact zXT 8192 (zW7 8192 rfl) (exec0 8192 rfl) A n c R B k d L ⟨l,c0,c1,c2,c3,c4,c5,c6⟩ F m cf fs W HA HB HF hL
end
end Go.Proofs.YtbpniahcjbagmaaGreatDoor
