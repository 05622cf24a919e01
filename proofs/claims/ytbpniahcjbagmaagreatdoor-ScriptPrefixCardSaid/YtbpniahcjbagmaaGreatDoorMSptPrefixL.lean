/- SptPrefixL. -/
import Derived.Test.YtbpniahcjbagmaaGreatDoorMSptPrefixW
import Derived.Test.YtbpniahcjbagmaaGreatDoorMk0g
set_option maxRecDepth 400000
set_option maxHeartbeats 64000000
set_option linter.unusedVariables false
set_option linter.unusedSimpArgs false
namespace Go.Proofs.YtbpniahcjbagmaaGreatDoor
section
open Go.RowKit Num Dec Cpu
theorem sF(s:Sp)(R L F:List Int)(l:List Fv)(a:Int)(W:World)(H:wW s W R L F l)(wa:(Lit.int .u8 a).wf=true)(hL:cQ W):
  Calls Tryz.prog 6 #[.agg (spC s),.int .u8 a] W fun e w'=>e=.returned (.bool true)∧Below W.heap.size W w':=by
 have t:=Num.bd_u8 wa;obtain⟨k,rfl⟩:=jW t.1;exact zXY 8192 (iF 8192 rfl) (CP 8192 rfl) s k W H zGX hL
end
end Go.Proofs.YtbpniahcjbagmaaGreatDoor
