/- AluOthers for every input, over the landed package. -/
import Derived.Test.YtfjdhhheofcanaaAluDoL
import Derived.Test.YtfjdhhheofcanaaAluOthersW
import Derived.Test.YtfjdhhheofcanaaAluOthersN
import Derived.Test.YtfjdhhheofcanaaNum
namespace Go.Proofs.Ytfjdhhheofcanaa
open Go.RowKit Num Dec Cpu
set_option linter.unusedVariables false

theorem aluOthers_walk (f : Nat → Nat) (o x y n nn a len : Int) (l : Int) (b0 b1 b2 b3 b4 b5 b6 : Bool) (w : World) (hf : OkV f) (wo : (Lit.int .i64 o).wf = true) (wx : (Lit.int .i64 x).wf = true) (wy : (Lit.int .i64 y).wf = true) (wn : (Lit.int .i64 n).wf = true) (wnn : (Lit.int .i64 nn).wf = true) (wa : (Lit.int .i64 a).wf = true) (wlen : (Lit.int .i64 len).wf = true) (wl : (Lit.int .i64 l).wf = true) :
    Calls Try.prog 5 #[.agg (rg f), .agg #[.int .i64 o, .int .i64 x, .int .i64 y, .int .i64 n, .int .i64 nn, .int .i64 a, .int .i64 len], .agg #[.int .i64 l, .bool b0, .bool b1, .bool b2, .bool b3, .bool b4, .bool b5, .bool b6]] w fun e w' => e = .returned (.bool true) ∧ Below w.heap.size w w' := by
  by_cases h : Right18 ⟨o, x, y, n, nn, a, len⟩
  · obtain ⟨⟨x0, x1⟩, ⟨y0, y1⟩, ⟨n0, n1⟩⟩ := h
    simp only at x0 x1 y0 y1 n0 n1
    obtain ⟨X, rfl⟩ := Int.eq_ofNat_of_zero_le x0
    obtain ⟨Y, rfl⟩ := Int.eq_ofNat_of_zero_le y0
    obtain ⟨M, rfl⟩ := Int.eq_ofNat_of_zero_le n0
    exact others18_yes aluSpec f o X Y M n a len ⟨l, b0, b1, b2, b3, b4, b5, b6⟩ hf (by omega) (by omega) (by omega) wo w
  · exact others18_no aluSpec f ⟨o, x, y, n, nn, a, len⟩ ⟨l, b0, b1, b2, b3, b4, b5, b6⟩ w h
end Go.Proofs.Ytfjdhhheofcanaa
