/- The walk of WordFields. -/
import Derived.Test.YtgahikbejepafaaWordAwake
namespace Go.Proofs.Ytgahikbejepafaa
open Go.RowKit Num
set_option linter.unusedVariables false

set_option maxHeartbeats 2000000 in
theorem wordFields_walk (a0 : Int) (a1 : Int) (w0 : (Lit.int .u8 a0).wf = true) (w1 : (Lit.int .u8 a1).wf = true) (w : World) :
    Calls Try.prog 4 #[.int .u8 a0, .int .u8 a1] w fun e w' => e = .returned (.bool true) ∧ Below w.heap.size w w' := by
  obtain ⟨h0, h1⟩ := bd_u8 w0
  obtain ⟨l0, l1⟩ := bd_u8 w1
  clear w0 w1
  have e1 : a0 / 16 * 16 + a0 % 16 = a0 := by omega
  have e2 : a1 / 16 * 16 + a1 % 16 = a1 := by omega
  have e3 : (a0 * 256 + a1 == a0 / 16 * 4096 + (a0 % 16 * 256 + a1)) = true := by simp; omega
  go_enter Try.func4, Try.ntmps4
  go_wp2_with fail
  refine (awake1 _).mono ?_
  rintro e w1 ⟨rfl, hb1⟩
  go_wp2_with fail
  refine (split_any a0 a1 _ h0 h1 l0 l1).mono ?_
  rintro e w2 ⟨rfl, hb2⟩
  go_wp2_with fail
  refine (join_yes _ _ _ _ _ (by omega) (by omega) (by omega) (by omega) (by omega) (by omega) (by omega) (by omega)).mono ?_
  rintro e w3 ⟨rfl, rfl⟩
  go_wp2_with fail
  go_quiet ((go_at_call 13; exact Calls.quiet_of_same ((number_any _ _ _ h0 h1 l0 l1).mono fun _ _ h => ⟨h.1, h.2.symm⟩)))
  go_wp2
  have hb := hb1.trans (hb2.mono hb1.size)
  have hz := Nat.le_trans hb1.size hb2.size
  go_ret
  exact ⟨by simp, below_drewN (by go_grown) _⟩
end Go.Proofs.Ytgahikbejepafaa
