/- DecFind. -/
import Derived.Test.YtcjldabaekbdlaaGreatDoorMDecTab
set_option maxRecDepth 400000
set_option maxHeartbeats 64000000
set_option linter.unusedVariables false
set_option linter.unusedSimpArgs false
namespace Go.Proofs.YtcjldabaekbdlaaGreatDoor
section
open Go.RowKit Num Dec
theorem zKH(h l:Nat)(level:Int)(w:World):Calls Tryz.prog 227 #[.int .u8 (h:Int),.int .u8 (l:Int),.int .i64 level] w fun e w'=>e=.returned (.int .i64 (skl h l level))∧w=w':=by
 unfold skl;by_cases h3:level=3
 ·by_cases hh:(h:Int)=240
  ·by_cases hl:(l:Int)=0
   ·rw[zG ⟨h3,by omega,by omega⟩];exact zST
   ·rw[zL zBY];exact zST
  ·rw[zL zBY];exact zST
 ·rw[zL zBY];exact zST
end
end Go.Proofs.YtcjldabaekbdlaaGreatDoor
