/- 'awake' of the law package of layer 1 returns true. -/
import Derived.Test.YtgahikbejepafaaHex
import Derived.Test.YtgahikbejepafaaWordRef
namespace Go.Proofs.Ytgahikbejepafaa
open Go.RowKit Num
set_option linter.unusedVariables false

theorem hex_ab : hexS 171 4 = ⟨#[48, 48, 65, 66]⟩ := by decide +kernel

set_option maxHeartbeats 2000000 in
theorem awake1 (w : World) : Calls Try.prog 8 #[] w fun e w' => e = .returned (.bool true) ∧ Below w.heap.size w w' := by
  have hx := hex_ab
  go_enter Try.func8, Try.ntmps8
  go_wp2_with fail
  refine (join_yes 13 1 2 3 _ (by omega) (by omega) (by omega) (by omega) (by omega) (by omega) (by omega) (by omega)).mono ?_
  rintro e w' ⟨rfl, rfl⟩
  go_wp2_with fail
  refine (join_no 16 0 0 0 _ (by omega)).mono ?_
  rintro e w' ⟨rfl, rfl⟩
  go_wp2_with fail
  refine (bytes_any (-1) _).mono ?_
  rintro e w' ⟨rfl, rfl⟩
  go_wp2_with fail
  refine (split_any 209 35 _ (by omega) (by omega) (by omega) (by omega)).mono ?_
  rintro e w1 ⟨rfl, hb1⟩
  go_wp2_with fail
  refine (number_any 1 2 _ (by omega) (by omega) (by omega) (by omega)).mono ?_
  rintro e w' ⟨rfl, rfl⟩
  go_wp2_with fail
  refine (hex_yes 171 4 _ (by omega) (by omega) (by omega)).mono ?_
  rintro e w2 ⟨rfl, hb2⟩
  go_wp2
  go_ret
  exact ⟨by simp, hb1.trans (hb2.mono hb1.size)⟩
end Go.Proofs.Ytgahikbejepafaa
