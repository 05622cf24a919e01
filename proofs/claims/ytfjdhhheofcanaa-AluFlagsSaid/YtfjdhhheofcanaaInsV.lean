/- The cells of an instruction. Of the program: its type only. -/
import Derived.Test.YtfjdhhheofcanaaBlk
import Derived.Test.YtfjdhhheofcanaaDecNum
import Derived.KernelRfl
namespace Go.Proofs.Ytfjdhhheofcanaa
open Go.RowKit Dec
set_option linter.unusedVariables false

def icells (i : Ins) : Array Value := #[.int .i64 i.op, .int .i64 i.x, .int .i64 i.y, .int .i64 i.n, .int .i64 i.nn, .int .i64 i.addr, .int .i64 i.len]
def zeroI : Array Value := #[.int .i64 0, .int .i64 0, .int .i64 0, .int .i64 0, .int .i64 0, .int .i64 0, .int .i64 0]
theorem aggInstr : AggT Try.prog 24 7 := ⟨⟨_, Try.underlying24, rfl⟩, by kernel_rfl⟩
end Go.Proofs.Ytfjdhhheofcanaa
