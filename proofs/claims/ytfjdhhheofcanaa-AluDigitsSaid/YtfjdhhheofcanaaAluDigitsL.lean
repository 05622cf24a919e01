/- AluDigits for every input, over the landed package. -/
import Derived.Test.YtfjdhhheofcanaaAluDoL
import Derived.Test.YtfjdhhheofcanaaAluDigitsW
import Derived.Test.YtfjdhhheofcanaaNum
namespace Go.Proofs.Ytfjdhhheofcanaa
open Go.RowKit Num Dec Cpu
set_option linter.unusedVariables false

theorem aluDigits_walk (b : Int) (wb : (Lit.int .u8 b).wf = true) (w : World) :
    Calls Try.prog 6 #[.int .u8 b] w fun e w' => e = .returned (.bool true) ∧ Below w.heap.size w w' := by
  obtain ⟨t0, t1⟩ := bd_u8 wb
  obtain ⟨B, rfl⟩ := Int.eq_ofNat_of_zero_le t0
  exact digits18 aluSpec B (by omega) w
end Go.Proofs.Ytfjdhhheofcanaa
