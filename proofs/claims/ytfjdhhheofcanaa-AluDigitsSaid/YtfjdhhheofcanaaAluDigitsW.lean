/- Stage 18: The walk of AluDigits. -/
import Derived.Test.YtfjdhhheofcanaaAluAwake
namespace Go.Proofs.Ytfjdhhheofcanaa
open Go.RowKit Num Dec Cpu
set_option linter.unusedVariables false
set_option linter.unusedSimpArgs false
set_option maxRecDepth 100000

set_option maxHeartbeats 8000000 in
theorem digits18 (S : AluSpec) (b : Nat) (hb : b < 256) (w : World) : Calls Try.prog 6 #[.int .u8 (b : Int)] w fun e w' => e = .returned (.bool true) ∧ Below w.heap.size w w' := by
  have A0 := Lib.hid (awake18 S)
  have P1 := Lib.hid (fun w => S.dg b w hb)
  clear S
  obtain ⟨v0, hv0⟩ : ∃ v0, v0 = w := ⟨_, rfl⟩
  subst hv0
  have BV := Lib.hid (Below.refl v0.heap.size v0)
  have f0 : (b : Int) / 100 ≤ 2 := by omega
  have f1 : (b : Int) / 10 % 10 ≤ 9 := by omega
  have f2 : (b : Int) % 10 ≤ 9 := by omega
  have g0 : 0 ≤ (b : Int) / 100 := by omega
  have g1 : 0 ≤ (b : Int) / 10 % 10 := by omega
  have g2 : 0 ≤ (b : Int) % 10 := by omega
  have hs : (100 : Int) * ((b : Int) / 100) + 10 * ((b : Int) / 10 % 10) + (b : Int) % 10 = b := by omega
  have hB : (0 : Int) ≤ b ∧ (b : Int) < 256 := by omega
  unfold d3 at P1
  generalize (b : Int) / 100 = x0 at P1 f0 g0 hs
  generalize (b : Int) / 10 % 10 = x1 at P1 f1 g1 hs
  generalize (b : Int) % 10 = x2 at P1 f2 g2 hs
  generalize (b : Int) = B at *
  clear hb b
  go_enter Try.func6, Try.ntmps6
  go_wp2_with fail
  refine (A0.out _).mono ?_
  rintro e w2 ⟨rfl, b1⟩
  have BV := Lib.hid (BV.out.trans (b1.mono BV.out.size))
  clear b1
  go_wp2_with fail
  refine (P1.out _).mono ?_
  rintro e w3 ⟨rfl, b1⟩
  have BV := Lib.hid (BV.out.trans (b1.mono BV.out.size))
  clear b1
  simp only []
  go_at_K
  iterate 1 go_step
  refine list_var_all (ds := #[.int .u8 x0, .int .u8 x1, .int .u8 x2]) aggD3 zeroD3 rfl rfl (by unfold Ones; simp [Value.oneCell']) rfl rfl rfl (.tmp 3) (.tmp 7) rfl (by simp [Act.eval, Act.put]) (by simp [Act.eval, Act.put]) ?_
  simp only [Act.put, List.setIfInBounds_toArray, List.set_cons_zero, List.set_cons_succ]
  have K := Lib.hid (Blk.new w3 33 (#[.int .u8 x0, .int .u8 x1, .int .u8 x2]))
  have BA := below_newP w3 (.cells (#[.int .u8 x0, .int .u8 x1, .int .u8 x2]) 33)
  have BV := Lib.hid (BV.out.trans (BA.mono BV.out.size))
  clear BA
  obtain ⟨bK, hq⟩ : ∃ q, w3.heap.size = q := ⟨_, rfl⟩
  generalize w3.alloc (.cells (#[.int .u8 x0, .int .u8 x1, .int .u8 x2]) 33) = w4 at *
  rw [hq] at K ⊢
  clear hq
  go_upto_region 4 with fail
  have c0 := Calm.cell ((K.out.cell 0).trans rfl) K.out.lt
  have c1 := Calm.cell ((K.out.cell 1).trans rfl) K.out.lt
  have c2 := Calm.cell ((K.out.cell 2).trans rfl) K.out.lt
  clear K A0 P1
  have wk0 : IntKind.i64.wrap (100 * x0) = 100 * x0 := wraps_i64 _ (by omega) (by omega)
  have wk1 : IntKind.i64.wrap (10 * x1) = 10 * x1 := wraps_i64 _ (by omega) (by omega)
  have wk2 : IntKind.i64.wrap (100 * x0 + 10 * x1) = 100 * x0 + 10 * x1 := wraps_i64 _ (by omega) (by omega)
  refine calm_plain ?_
  repeat (go_big_quiet_step (rfl))
  refine wpQuiet_nil ?_
  intro _ hw'
  obtain ⟨u, rfl⟩ := hw'
  have b1 := u.below
  generalize u.w = w5 at *
  have BV := Lib.hid (BV.out.trans (b1.mono BV.out.size))
  clear b1
  go_wp2_with fail
  go_ret
  exact ⟨by simp [*], BV.out⟩
end Go.Proofs.Ytfjdhhheofcanaa
