/- 'awake' of the law package of layer 3 returns true. -/
import Derived.Test.YtcgineohhlmghaaAddrList
namespace Go.Proofs.Ytcgineohhlmghaa
open Go.RowKit Num
set_option linter.unusedVariables false

theorem lst_ex : lst 65534 3 = [65534, 65535, 0] := by decide
/-- A new block of three numbers reads as these. -/
theorem row3 (w : World) (x y z : Int) (t : TypeId) : Row (Value.int .i64) (w.alloc (.cells #[.int .i64 x, .int .i64 y, .int .i64 z] t)) (some ⟨w.heap.size, 0, none⟩) [x, y, z] := fun _ => by
  refine ⟨w.heap.size, 0, rfl, by simp, fun j hj => ?_⟩
  rw [World.cell?_alloc_at _ _ _ _ rfl]
  match j, hj with
  | 0, _ => rfl
  | 1, _ => rfl
  | 2, _ => rfl

set_option maxRecDepth 100000 in
set_option maxHeartbeats 2000000 in
theorem awake3 (w : World) : Calls Try.prog 7 #[] w fun e w' => e = .returned (.bool true) ∧ Below w.heap.size w w' := by
  have i1 : inB 65534 3 0 = true := by decide
  have o1 : ovB 65535 2 0 1 = true := by decide
  have o2 : ovB 65535 1 0 1 = false := by decide
  have c1 : chk 65535 2 true = 4 := by decide
  have c2 : chk 65535 2 false = 0 := by decide
  have c3 : chk 65535 1 true = 0 := by decide
  go_enter Try.func7, Try.ntmps7
  go_wp2_with fail
  refine (list_any 65534 3 _ (by omega) (by omega) (by omega)).mono ?_
  rintro e w1 ⟨⟨A, c, rfl, hr⟩, hb1⟩
  rw [lst_ex] at hr ⊢
  have hr' := hr.below ((Below.refl _ w1).alloc (Nat.le_refl _) (.cells #[.int .i64 65534, .int .i64 65535, .int .i64 0] 3))
  have hr2 := row3 w1 65534 65535 0 3
  go_wp2_with fail
  refine (numbers_same _ _ _ _ 3 [65534, 65535, 0] _ rfl (by omega) hr' hr2).mono ?_
  rintro e w2 ⟨rfl, hb2⟩
  clear hr hr' hr2
  go_wp2_with fail
  refine (wrap_any _ _).mono ?_
  rintro e w' ⟨rfl, rfl⟩
  go_wp2_with (first
    | (go_at_call 11; refine (check_any _ _ _ _ (by omega) (by omega) (by omega) (by omega)).mono ?_; rintro e w' ⟨rfl, rfl⟩; first | rw [c1] | rw [c2] | rw [c3])
    | (go_at_call 12; refine (in_any _ _ _ _ (by omega) (by omega) (by omega) (by omega)).mono ?_; rintro e w' ⟨rfl, rfl⟩; rw [i1])
    | (go_at_call 17; refine (ov_any _ _ _ _ _ (by omega) (by omega) (by omega) (by omega) (by omega) (by omega) (by omega) (by omega)).mono ?_; rintro e w' ⟨rfl, rfl⟩; first | rw [o1] | rw [o2]))
  go_ret
  exact ⟨rfl, hb1.trans ((((Below.refl _ w1).alloc (Nat.le_refl _) _).trans (hb2.mono (by simp))).mono hb1.size)⟩
end Go.Proofs.Ytcgineohhlmghaa
