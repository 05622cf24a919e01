/- Pix4. -/
import Derived.Test.YtilideoeaecoaaaMk1a
set_option maxRecDepth 400000
set_option maxHeartbeats 64000000
set_option linter.unusedVariables false
set_option linter.unusedSimpArgs false
namespace Go.Proofs.Ytilideoeaecoaaa
section
open Go.RowKit Num
def Two(b c:Nat)(h l h' l':BitVec 64):Type:={w:World//Box b h l w∧Box c h' l' w}
def Two.w{b c:Nat}{h l h' l':BitVec 64}(x:Two b c h l h' l'):World:=x.1
theorem Two.left{b c:Nat}{h l h' l':BitVec 64}(x:Two b c h l h' l'):Box b h l x.w:=x.2.1
theorem Two.right{b c:Nat}{h l h' l':BitVec 64}(x:Two b c h l h' l'):Box c h' l' x.w:=x.2.2
end
end Go.Proofs.Ytilideoeaecoaaa
