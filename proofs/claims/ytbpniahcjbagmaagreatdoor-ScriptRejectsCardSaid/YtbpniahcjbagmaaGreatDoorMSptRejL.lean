/- SptRejL. -/
import Derived.Test.YtbpniahcjbagmaaGreatDoorMk8a
import Derived.Test.YtbpniahcjbagmaaGreatDoorMk0g
set_option maxRecDepth 400000
set_option maxHeartbeats 64000000
set_option linter.unusedVariables false
set_option linter.unusedSimpArgs false
namespace Go.Proofs.YtbpniahcjbagmaaGreatDoor
section
open Go.RowKit Num Dec Cpu
theorem eE(a:Int)(l:Int)(c0 c1 c2 c3 c4 c5 c6:Bool)(cy:Int)(wa:(Lit.int .u8 a).wf=true)(wl:(Lit.int .i64 l).wf=true)(wc:(Lit.int .i64 cy).wf=true)(W:World)(hL:cQ W):
  Calls Tryz.prog 5 #[.int .u8 a,.agg #[.int .i64 l,.bool c0,.bool c1,.bool c2,.bool c3,.bool c4,.bool c5,.bool c6],.int .i64 cy] W fun e w'=>e=.returned (.bool true)∧Below W.heap.size W w':=by
 have t:=Num.bd_u8 wa;obtain⟨n,rfl⟩:=jW t.1;exact UC 8192 (iF 8192 rfl) (CP 8192 rfl) n ⟨l,c0,c1,c2,c3,c4,c5,c6⟩ cy W zGX wl (Num.bd_i64 wc) hL
end
end Go.Proofs.YtbpniahcjbagmaaGreatDoor
