/- The walk of TimerSums. -/
import Derived.Test.YtobjffhmmeadoaaTimAwake
import Derived.IntWalk
namespace Go.Proofs.Ytobjffhmmeadoaa
open Go.RowKit Num
set_option linter.unusedVariables false

set_option maxRecDepth 100000 in
set_option maxHeartbeats 4000000 in
theorem timerSums_walk (d s n m : Int) (w0 : (Lit.int .u8 d).wf = true) (w1 : (Lit.int .u8 s).wf = true) (w2 : (Lit.int .u8 n).wf = true) (w3 : (Lit.int .u8 m).wf = true) (w : World) :
    Calls Try.prog 5 #[.int .u8 d, .int .u8 s, .int .u8 n, .int .u8 m] w fun e w' => e = .returned (.bool true) ∧ Below w.heap.size w w' := by
  obtain ⟨d0, d1⟩ := bd_u8 w0
  obtain ⟨s0, s1⟩ := bd_u8 w1
  obtain ⟨n0, n1⟩ := bd_u8 w2
  obtain ⟨m0, m1⟩ := bd_u8 w3
  clear w0 w1 w2 w3
  have A1 := Lib.hid fun w => after_any d s n w d0 d1 s0 s1 (by omega)
  have A2 := Lib.hid fun w => after_any (lw d n) (lw s n) m w (lw_lo _ _) (lw_hi d0 d1) (lw_lo _ _) (lw_hi s0 s1) (by omega)
  rw [lw_sum n0 m0, lw_sum n0 m0] at A2
  have A3 := Lib.hid fun w => after_any d s (n + m) w d0 d1 s0 s1 (by omega)
  have A4 := Lib.hid fun w => after_any d s (max d s) w d0 d1 s0 s1 (by omega)
  rw [lw_all d0 (show d ≤ max d s by omega), lw_all s0 (show s ≤ max d s by omega)] at A4
  have LE := Lib.hid fun w => left_any d s w d0 d1 s0 s1
  generalize max d s = q at *
  have u0 : IntKind.i64.wrap n = n := IntWalk.i64_in _ (by omega)
  have u1 : IntKind.i64.wrap m = m := IntWalk.i64_in _ (by omega)
  have u2 : IntKind.i64.wrap (n + m) = n + m := IntWalk.i64_in _ (by omega)
  generalize lw d n = x at *
  generalize lw s n = y at *
  generalize lw d (n + m) = z at *
  generalize lw s (n + m) = v at *
  go_enter Try.func5, Try.ntmps5
  go_wp2_with fail
  refine (awake10 _).mono ?_
  rintro e wa ⟨rfl, ba⟩
  have BA := Lib.hid ba
  clear ba
  go_wp2_with fail
  have P := Lib.hid (TB.new wa d s 24)
  have B := Lib.hid ((Below.refl wa.heap.size wa).alloc (Nat.le_refl _) (.cells #[.int .u8 d, .int .u8 s] 24))
  generalize wa.alloc (.cells #[.int .u8 d, .int .u8 s] 24) = wb at *
  obtain ⟨k0, k1⟩ := P.out.calm
  refine calm_region (by kernel_rfl) (by kernel_rfl) ?_
  repeat (go_big_quiet_step ((first
    | (go_at_call 10; (first | with_reducible exact calm_call (A1.out _) | with_reducible exact calm_call (A2.out _) | with_reducible exact calm_call (A3.out _) | with_reducible exact calm_call (A4.out _)))
    | (go_at_call 13; exact calm_call (LE.out _)))))
  refine wpQuiet_nil ?_
  intro _ hw'
  obtain ⟨x, rfl⟩ := hw'
  have hb := x.below
  generalize x.w = wc at *
  have BB := Lib.hid (BA.out.trans ((B.out.trans (hb.mono B.out.size)).mono BA.out.size))
  go_wp2_with fail
  go_ret
  exact ⟨by simp, BB.out⟩
end Go.Proofs.Ytobjffhmmeadoaa
