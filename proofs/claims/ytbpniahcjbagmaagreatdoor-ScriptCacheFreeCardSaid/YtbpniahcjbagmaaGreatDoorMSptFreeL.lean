/- SptFreeL. -/
import Derived.Test.YtbpniahcjbagmaaGreatDoorMk8a
import Derived.Test.YtbpniahcjbagmaaGreatDoorMk0g
set_option maxRecDepth 400000
set_option maxHeartbeats 64000000
set_option linter.unusedVariables false
set_option linter.unusedSimpArgs false
namespace Go.Proofs.YtbpniahcjbagmaaGreatDoor
section
open Go.RowKit Num Dec Cpu
theorem bV(s:Sp)(R L F:List Int)(l:List Fv)(B:Option Addr)(k d:Nat)(F2:List Int)(W:World)(H:wW s W R L F l)(HB:QE W B k d F2)(hL:cQ W):
  Calls Tryz.prog 4 #[.agg (spC s),.slice B k d] W fun e w'=>e=.returned (.bool true)∧Below W.heap.size W w':=by
 exact free22 8192 (iF 8192 rfl) (CP 8192 rfl) s B k d W H HB hL
end
end Go.Proofs.YtbpniahcjbagmaaGreatDoor
