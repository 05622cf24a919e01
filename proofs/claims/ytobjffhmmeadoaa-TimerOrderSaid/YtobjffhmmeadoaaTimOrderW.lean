/- The walk of TimerOrder. -/
import Derived.Test.YtobjffhmmeadoaaTimAwake
namespace Go.Proofs.Ytobjffhmmeadoaa
open Go.RowKit Num
set_option linter.unusedVariables false

set_option maxRecDepth 100000 in
set_option maxHeartbeats 4000000 in
theorem timerOrder_walk (a b n : Int) (w0 : (Lit.int .u8 a).wf = true) (w1 : (Lit.int .u8 b).wf = true) (w2 : (Lit.int .u16 n).wf = true) (w : World) :
    Calls Try.prog 6 #[.int .u8 a, .int .u8 b, .int .u16 n] w fun e w' => e = .returned (.bool true) ∧ Below w.heap.size w w' := by
  obtain ⟨d0, d1⟩ := bd_u8 w0
  obtain ⟨s0, s1⟩ := bd_u8 w1
  obtain ⟨n0, n1⟩ := bd_u16 w2
  clear w0 w1 w2
  have A1 := Lib.hid fun w => after_any (min a b) (max a b) n w (by omega) (by omega) (by omega) (by omega) (by omega)
  have E1 := lw_mono (n := n) (show min a b ≤ max a b by omega)
  have E2 := lw_le (n := n) (show 0 ≤ max a b by omega)
  generalize lw (min a b) n = x at *
  generalize lw (max a b) n = y at *
  go_enter Try.func6, Try.ntmps6
  go_wp2_with fail
  refine (awake10 _).mono ?_
  rintro e wa ⟨rfl, ba⟩
  have BA := Lib.hid ba
  clear ba
  go_wp2_with fail
  refine (A1.out _).mono ?_
  rintro e wb ⟨rfl, bb⟩
  have BB := Lib.hid (BA.out.trans (bb.mono BA.out.size))
  clear bb BA A1
  go_wp2_with fail
  go_ret
  exact ⟨rfl, BB.out.alloc BB.out.size _⟩
end Go.Proofs.Ytobjffhmmeadoaa
