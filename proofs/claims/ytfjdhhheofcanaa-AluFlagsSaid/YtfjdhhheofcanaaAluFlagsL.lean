/- AluFlags for every input, over the landed package. -/
import Derived.Test.YtfjdhhheofcanaaAluDoL
import Derived.Test.YtfjdhhheofcanaaAluFlagsW
import Derived.Test.YtfjdhhheofcanaaNum
namespace Go.Proofs.Ytfjdhhheofcanaa
open Go.RowKit Num Dec Cpu
set_option linter.unusedVariables false

theorem aluFlags_walk (x y : Int) (l : Int) (b0 b1 b2 b3 b4 b5 b6 : Bool) (w : World) (wx : (Lit.int .u8 x).wf = true) (wy : (Lit.int .u8 y).wf = true) (wl : (Lit.int .i64 l).wf = true) :
    Calls Try.prog 4 #[.int .u8 x, .int .u8 y, .agg #[.int .i64 l, .bool b0, .bool b1, .bool b2, .bool b3, .bool b4, .bool b5, .bool b6]] w fun e w' => e = .returned (.bool true) ∧ Below w.heap.size w w' := by
  obtain ⟨t0, t1⟩ := bd_u8 wx
  obtain ⟨X, rfl⟩ := Int.eq_ofNat_of_zero_le t0
  obtain ⟨s0, s1⟩ := bd_u8 wy
  obtain ⟨Y, rfl⟩ := Int.eq_ofNat_of_zero_le s0
  exact flags18 aluSpec X Y ⟨l, b0, b1, b2, b3, b4, b5, b6⟩ (by omega) (by omega) w
end Go.Proofs.Ytfjdhhheofcanaa
