/- FrmSplitL. -/
import Derived.Test.YthknmadinmigfaaGreatDoorMk4c
set_option maxRecDepth 400000
set_option maxHeartbeats 64000000
set_option linter.unusedVariables false
set_option linter.unusedSimpArgs false
namespace Go.Proofs.YthknmadinmigfaaGreatDoor
section
open Go.RowKit Num Dec Cpu
theorem sR(A:Option Addr)(n c:Nat)(R:List Int)(B:Option Addr)(k d:Nat)(L:List Int)(l:Int)(c0 c1 c2 c3 c4 c5 c6:Bool)(u:Int)(W:World)(HA:LD W A n c R)(HB:LD W B k d L)(wl:(Lit.int .i64 l).wf=true)(wu:(Lit.int .u8 u).wf=true)(hL:xX W):
  Calls Tryz.prog 6 #[.slice A n c,.slice B k d,.agg #[.int .i64 l,.bool c0,.bool c1,.bool c2,.bool c3,.bool c4,.bool c5,.bool c6],.int .u8 u] W fun e w'=>e=.returned (.bool true)∧Below W.heap.size W w':=by
 have t:=bd_u8 wu;obtain⟨m,rfl⟩:∃m:Nat,u=(m:Int):=⟨u.toNat,by omega⟩;exact UC 8192 (zW9 8192 rfl) (exec0 8192 rfl) A n c R B k d L ⟨l,c0,c1,c2,c3,c4,c5,c6⟩ m W HA HB zLS hL
end
end Go.Proofs.YthknmadinmigfaaGreatDoor
