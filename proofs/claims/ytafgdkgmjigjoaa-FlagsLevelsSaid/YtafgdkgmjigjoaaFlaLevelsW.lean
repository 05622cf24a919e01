/- The walk of FlagsLevels. -/
import Derived.Test.YtafgdkgmjigjoaaFlaAwake
import Derived.Test.YtafgdkgmjigjoaaFlaRef
import Derived.Test.YtafgdkgmjigjoaaBytOpen
import Derived.Deep.Cut
namespace Go.Proofs.Ytafgdkgmjigjoaa
open Go.RowKit Num
set_option linter.unusedVariables false
set_option linter.unusedSimpArgs false

set_option maxRecDepth 100000 in
set_option maxHeartbeats 8000000 in
theorem flagsLevels_walk (x y : Int) (w1 : (Lit.int .i64 x).wf = true) (w2 : (Lit.int .i64 y).wf = true) (w : World) :
    Calls Try.prog 5 #[.int .i64 x, .int .i64 y] w fun e w' => e = .returned (.bool true) ∧ Below w.heap.size w w' := by
  obtain ⟨v0, hv0⟩ : ∃ v0, v0 = w := ⟨_, rfl⟩
  subst hv0
  go_enter Try.func5, Try.ntmps5
  go_wp2_with fail
  refine (awake12 _).mono ?_
  rintro e v1 ⟨rfl, b1⟩
  have BV := Lib.hid b1
  clear b1
  by_cases hx : x < 0
  · go_wp2_with fail
    refine (awake12 _).mono ?_
    rintro e v2 ⟨rfl, b1⟩
    have BV := Lib.hid (BV.out.trans (b1.mono BV.out.size))
    clear b1
    go_wp2
    go_ret
    exact ⟨rfl, BV.out⟩
  by_cases hy : y < x
  · go_wp2_with fail
    refine (awake12 _).mono ?_
    rintro e v2 ⟨rfl, b1⟩
    have BV := Lib.hid (BV.out.trans (b1.mono BV.out.size))
    clear b1
    go_wp2
    go_ret
    exact ⟨rfl, BV.out⟩
  have C2 := Lib.hid fun w : World => allowed_any 2 x w (by decide)
  have C3 := Lib.hid fun w : World => allowed_any 3 x w (by decide)
  have D2 := Lib.hid fun w : World => allowed_any 2 y w (by decide)
  have D3 := Lib.hid fun w : World => allowed_any 3 y w (by decide)
  have C1 := Lib.hid fun w : World => allowed_any 1 x w (by decide)
  have e1 : allow 1 x = false := by unfold allow; exact decide_eq_false (by omega)
  have i1 : allow 2 x = true → allow 3 x = true := by unfold allow; intro h; have h := of_decide_eq_true h; exact decide_eq_true (by omega)
  have i2 : allow 2 y = true → allow 2 x = true := by unfold allow; intro h; have h := of_decide_eq_true h; exact decide_eq_true (by omega)
  have i3 : allow 3 y = true → allow 3 x = true := by unfold allow; intro h; have h := of_decide_eq_true h; exact decide_eq_true (by omega)
  rw [e1] at C1
  clear e1
  generalize allow 2 x = p at *
  generalize allow 3 x = q at *
  generalize allow 2 y = r at *
  generalize allow 3 y = s at *
  have I := Lib.hid (And.intro i1 (And.intro i2 i3))
  clear i1 i2 i3
  go_upto_region 3 with fail
  cases p <;> cases q <;> cases r <;> cases s
  all_goals first
    | (exfalso; have h := I.out; revert h; decide)
    | skip
  all_goals refine calm_plain ?_
  all_goals repeat (first
    | go_big_quiet_step ((go_at_call 13; (first | with_reducible exact calm_call (C2.out _) | with_reducible exact calm_call (C3.out _) | with_reducible exact calm_call (D2.out _) | with_reducible exact calm_call (D3.out _) | with_reducible exact calm_call (C1.out _)))))
  all_goals refine wpQuiet_nil ?_
  all_goals intro _ hw'
  all_goals obtain ⟨u, rfl⟩ := hw'
  all_goals have BV := Lib.hid (BV.out.trans (u.below.mono BV.out.size))
  all_goals go_wp2
  all_goals go_ret
  all_goals exact ⟨rfl, BV.out⟩
end Go.Proofs.Ytafgdkgmjigjoaa
