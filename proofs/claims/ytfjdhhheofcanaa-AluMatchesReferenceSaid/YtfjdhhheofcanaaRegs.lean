/- The cells of registers and of a profile. Of the program: the types of bytes only. -/
import Derived.Test.YtfjdhhheofcanaaAluNum
import Derived.Test.YtfjdhhheofcanaaPat
namespace Go.Proofs.Ytfjdhhheofcanaa
open Go.RowKit Num Dec Cpu
set_option linter.unusedVariables false
set_option linter.unusedSimpArgs false
set_option maxRecDepth 100000

/-- The cells of registers, and of a profile. -/
def rg (v : Nat → Nat) : Array Value := pc fun j => (v j : Int)
def prc (q : Pr) : Array Value := #[.int .i64 q.lv, .bool q.sh, .bool q.ki, .bool q.jx, .bool q.lr, .bool q.cl, .bool q.dw, .bool q.fa]
theorem rg_get (v : Nat → Nat) {j : Nat} (hj : j < 16) : (rg v)[j]? = some (.int .u8 (v j : Int)) := pc_get _ j hj
theorem rg_size (v : Nat → Nat) : (rg v).size = 16 := pc_size _
theorem rg_put (v : Nat → Nat) {k : Nat} (hk : k < 16) (r : Nat) : (rg v).setIfInBounds k (.int .u8 (r : Int)) = rg (upd v k r) := by
  unfold rg
  rw [pc_put _ _ hk]
  apply pc_congr
  intro j _
  unfold upd
  split <;> rfl
theorem zeroRg : ZeroT Try.prog 22 (pc zeroPa) := by unfold ZeroT; kernel_rfl
theorem rg_one (v : Nat → Nat) : Ones (rg v) := pc_one _
theorem u8_wrap {r : Nat} (h : r < 256) : IntKind.u8.wrap (r : Int) = (r : Int) := by rw [IntKind.wrap_u8]; omega
theorem i64_wrap {r : Nat} (h : r < 65536) : IntKind.i64.wrap (r : Int) = (r : Int) := by rw [IntKind.wrap_i64]; omega
end Go.Proofs.Ytfjdhhheofcanaa
