/- Contracts of package plane: Size, Pixel. -/
import Derived.Test.YtplmmfgmbfcjpaaPlaneWords
import Derived.Test.YtplmmfgmbfcjpaaPlaneRefSc
import Derived.Test.YtplmmfgmbfcjpaaPixW
import Derived.Deep.Cut
namespace Go.Proofs.Ytplmmfgmbfcjpaa
open Go.RowKit Num
set_option linter.unusedVariables false
set_option linter.unusedSimpArgs false

theorem size_any {b : Bool} {m h : Nat} (hr : Res b m h) (w : World) : Calls Try.prog 36 #[.bool b] w fun e w' => e = .returned (.tuple #[.int .i64 (m : Int), .int .i64 (h : Int)]) ∧ w = w' := by
  rcases hr with ⟨rfl, rfl, rfl⟩ | ⟨rfl, rfl, rfl⟩
  all_goals
    go_enter Try.func36, Try.ntmps36
    go_wp2
    go_ret2
    exact ⟨rfl, rfl⟩
/-- The pixel (x, y) of a plane. -/
def pget (P : Pl) (x y : Int) : Bool := decide (0 ≤ y ∧ y < 64) && pxi (P y.toNat) x
theorem pget_in (P : Pl) (x : Int) (k : Nat) (hk : k < 64) : pget P x (k : Int) = pxi (P k) x := by
  rw [pget, decide_eq_true (by omega), Bool.true_and, Int.toNat_natCast]
theorem pget_out (P : Pl) (x y : Int) (h : ¬ (0 ≤ y ∧ y < 64)) : pget P x y = false := by
  rw [pget, decide_eq_false h, Bool.false_and]
set_option maxHeartbeats 1000000 in
theorem pixel_any (P : Pl) (x y : Int) (w : World) (x0 : -9223372036854775808 ≤ x) (x1 : x ≤ 9223372036854775807) (y0 : -9223372036854775808 ≤ y) (y1 : y ≤ 9223372036854775807) :
    Calls Try.prog 23 #[.agg (pcells P), .int .i64 x, .int .i64 y] w fun e w' => e = .returned (.bool (pget P x y)) ∧ Below w.heap.size w w' := by
  have X := Lib.hid (PBox.new w P 29)
  have B := Lib.hid (below_new w (.cells (pcells P) 29))
  rcases (show (0 ≤ y ∧ y < 64) ∨ ¬ 0 ≤ y ∨ (0 ≤ y ∧ ¬ y < 64) by omega) with ⟨i1, i2⟩ | i1 | ⟨i1, i2⟩
  · obtain ⟨k, rfl⟩ := Int.eq_ofNat_of_zero_le i1
    have k1 : k < 64 := by omega
    have c0 := X.out.left k k1
    have c1 := X.out.right k k1
    have G := Lib.hid (fun w => getW (h := hi (P k)) (l := lo (P k)) (x := x) (f := pget P x k) (by rw [hi_lo, pget_in _ _ _ k1]) x0 x1 w)
    generalize pget P x k = v at *
    generalize hi (P k) = h at *
    generalize lo (P k) = l at *
    generalize hC : pcells P = C at *
    go_enter Try.func23, Try.ntmps23
    go_wp2_with fail
    refine (G.out _).mono ?_
    rintro e w' ⟨rfl, hb⟩
    have B2 := Lib.hid (B.out.trans (hb.mono B.out.size))
    clear hb
    go_wp2
    go_ret
    exact ⟨rfl, B2.out⟩
  · rw [pget_out _ _ _ (by omega)]
    generalize pcells P = C at *
    go_enter Try.func23, Try.ntmps23
    go_wp2
    go_ret
    exact ⟨rfl, B.out⟩
  · rw [pget_out _ _ _ (by omega)]
    generalize pcells P = C at *
    go_enter Try.func23, Try.ntmps23
    go_wp2
    go_ret
    exact ⟨rfl, B.out⟩
end Go.Proofs.Ytplmmfgmbfcjpaa
