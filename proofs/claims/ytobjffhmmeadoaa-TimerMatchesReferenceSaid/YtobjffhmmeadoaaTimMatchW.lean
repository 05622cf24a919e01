/- The walk of TimerMatchesReference. -/
import Derived.Test.YtobjffhmmeadoaaTimAwake
import Derived.Test.YtobjffhmmeadoaaPlain
import Derived.Deep.Cut
namespace Go.Proofs.Ytobjffhmmeadoaa
open Go.RowKit Num
set_option linter.unusedVariables false

set_option maxRecDepth 100000 in
set_option maxHeartbeats 4000000 in
theorem timM (d s n : Int) (o : Bool) (ho : onB s = o) (hs : (o = false ∧ s = 0) ∨ (o = true ∧ ¬ s = 0)) (w0 : (Lit.int .u8 d).wf = true) (w1 : (Lit.int .u8 s).wf = true) (w2 : (Lit.int .i64 n).wf = true) (w : World) :
    Calls Try.prog 3 #[.int .u8 d, .int .u8 s, .int .i64 n] w fun e w' => e = .returned (.bool true) ∧ Below w.heap.size w w' := by
  obtain ⟨d0, d1⟩ := bd_u8 w0
  obtain ⟨s0, s1⟩ := bd_u8 w1
  obtain ⟨n0, n1⟩ := bd_i64 w2
  clear w0 w1 w2
  have AN := Lib.hid fun w => after_any d s n w d0 d1 s0 s1 n1
  have TK := Lib.hid fun w => tick_any d s w d0 d1 s0 s1
  have RD := Lib.hid fun w => rtick_any d w d0 d1
  have RS := Lib.hid fun w => rtick_any s w s0 s1
  have RDN := Lib.hid fun w => rafter_any d n w d0 d1 n1
  have RSN := Lib.hid fun w => rafter_any s n w s0 s1 n1
  have ON := Lib.hid fun w => on_any d s w
  have LE := Lib.hid fun w => left_any d s w d0 d1 s0 s1
  clear n0 n1
  have m0 : 0 ≤ max d s := by omega
  have m1 : max d s ≤ 255 := by omega
  rw [ho] at ON
  clear ho
  generalize lw d n = dn at *
  generalize lw s n = sn at *
  generalize lw d 1 = d1' at *
  generalize lw s 1 = s1' at *
  rcases hs with ⟨rfl, rfl⟩ | ⟨rfl, hs⟩
  · skip
    go_enter Try.func3, Try.ntmps3
    go_wp2_with fail
    refine (awake10 _).mono ?_
    rintro e wa ⟨rfl, ba⟩
    have BA := Lib.hid ba
    clear ba
    go_upto_region 4 with fail
    have P := Lib.hid (TB.new wa d 0 24)
    have B := Lib.hid ((Below.refl wa.heap.size wa).alloc (Nat.le_refl _) (.cells #[.int .u8 d, .int .u8 0] 24))
    generalize wa.alloc (.cells #[.int .u8 d, .int .u8 0] 24) = wb at *
    obtain ⟨k0, k1⟩ := P.out.calm
    refine calm_plain ?_
    repeat (go_big_quiet_step ((first
      | (go_at_call 10; exact calm_call (AN.out _))
      | (go_at_call 8; exact calm_call (TK.out _))
      | (go_at_call 9; (first | with_reducible exact calm_same (RD.out _) | with_reducible exact calm_same (RS.out _)))
      | (go_at_call 11; (first | with_reducible exact calm_same (RDN.out _) | with_reducible exact calm_same (RSN.out _)))
      | (go_at_call 12; exact calm_call (ON.out _))
      | (go_at_call 13; exact calm_call (LE.out _)))))
    refine wpQuiet_nil ?_
    intro _ hw'
    obtain ⟨x, rfl⟩ := hw'
    have hb := x.below
    generalize x.w = wc at *
    have BB := Lib.hid (BA.out.trans ((B.out.trans (hb.mono B.out.size)).mono BA.out.size))
    go_wp2_with fail
    go_ret
    exact ⟨by simp, BB.out⟩
  · have hb : (s != 0) = true := by simp [hs]
    go_enter Try.func3, Try.ntmps3
    go_wp2_with fail
    refine (awake10 _).mono ?_
    rintro e wa ⟨rfl, ba⟩
    have BA := Lib.hid ba
    clear ba
    go_upto_region 4 with fail
    have P := Lib.hid (TB.new wa d s 24)
    have B := Lib.hid ((Below.refl wa.heap.size wa).alloc (Nat.le_refl _) (.cells #[.int .u8 d, .int .u8 s] 24))
    generalize wa.alloc (.cells #[.int .u8 d, .int .u8 s] 24) = wb at *
    obtain ⟨k0, k1⟩ := P.out.calm
    refine calm_plain ?_
    repeat (go_big_quiet_step ((first
      | (go_at_call 10; exact calm_call (AN.out _))
      | (go_at_call 8; exact calm_call (TK.out _))
      | (go_at_call 9; (first | with_reducible exact calm_same (RD.out _) | with_reducible exact calm_same (RS.out _)))
      | (go_at_call 11; (first | with_reducible exact calm_same (RDN.out _) | with_reducible exact calm_same (RSN.out _)))
      | (go_at_call 12; exact calm_call (ON.out _))
      | (go_at_call 13; exact calm_call (LE.out _)))))
    refine wpQuiet_nil ?_
    intro _ hw'
    obtain ⟨x, rfl⟩ := hw'
    have hb := x.below
    generalize x.w = wc at *
    have BB := Lib.hid (BA.out.trans ((B.out.trans (hb.mono B.out.size)).mono BA.out.size))
    go_wp2_with fail
    go_ret
    exact ⟨by simp, BB.out⟩
set_option maxHeartbeats 4000000 in
theorem timerMatchesReference_walk (d s n : Int) (w0 : (Lit.int .u8 d).wf = true) (w1 : (Lit.int .u8 s).wf = true) (w2 : (Lit.int .i64 n).wf = true) (w : World) :
    Calls Try.prog 3 #[.int .u8 d, .int .u8 s, .int .i64 n] w fun e w' => e = .returned (.bool true) ∧ Below w.heap.size w w' := by
  by_cases h : s = 0
  · exact timM d s n false (by unfold onB; simp [h]) (.inl ⟨rfl, h⟩) w0 w1 w2 w
  · exact timM d s n true (by unfold onB; simp [h]) (.inr ⟨rfl, h⟩) w0 w1 w2 w
end Go.Proofs.Ytobjffhmmeadoaa
