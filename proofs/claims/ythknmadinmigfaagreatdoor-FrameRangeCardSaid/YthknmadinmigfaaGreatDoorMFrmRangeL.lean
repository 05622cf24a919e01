/- FrmRangeL. -/
import Derived.Test.YthknmadinmigfaaGreatDoorMk4c
set_option maxRecDepth 400000
set_option maxHeartbeats 64000000
set_option linter.unusedVariables false
set_option linter.unusedSimpArgs false
namespace Go.Proofs.YthknmadinmigfaaGreatDoor
section
open Go.RowKit Num Dec Cpu
theorem fY(A:Option Addr)(n c:Nat)(R:List Int)(B:Option Addr)(k d:Nat)(L:List Int)(l:Int)(c0 c1 c2 c3 c4 c5 c6:Bool)(EA:Option Addr)(ne ce:Nat)(ev:List Ev)(nn:Int)(W:World)(HA:KU W A n c R)(HB:KU W B k d L)(wl:(Lit.int .i64 l).wf=true)(HE:IV W EA ne ce ev)(wn:(Lit.int .i64 nn).wf=true)(hL:xW W):
  Calls Tryz.prog 5 #[.slice A n c,.slice B k d,.agg #[.int .i64 l,.bool c0,.bool c1,.bool c2,.bool c3,.bool c4,.bool c5,.bool c6],.slice EA ne ce,.int .i64 nn] W fun e w'=>e=.returned (.bool true)∧Below W.heap.size W w':=by
 exact zX8 8192 (zW3 8192 rfl) (exec0 8192 rfl) A n c R B k d L ⟨l,c0,c1,c2,c3,c4,c5,c6⟩ EA ne ce ev nn W HA HB HE hL
end
end Go.Proofs.YthknmadinmigfaaGreatDoor
