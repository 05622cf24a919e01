/- Contracts: the words of a row of a reference plane, and the plane that they make (forward). -/
import Derived.Test.YtplmmfgmbfcjpaaPlaneRef
import Derived.KernelRfl
import Derived.Deep.WholeRow
import Derived.Deep.Cut
import Derived.Deep.CutRange
import Derived.Laws.CopyOwn
namespace Go.Proofs.Ytplmmfgmbfcjpaa
open Go.RowKit Num
set_option linter.unusedVariables false
set_option linter.unusedSimpArgs false

theorem acc_small (g : Nat → Bool) (k : Nat) (hk : k < 64) : (acc g k : Int) ≤ 9223372036854775807 := by
  have h := acc_lt g k
  have h2 : 2 ^ k ≤ 2 ^ 63 := Nat.pow_le_pow_right (by decide) (by omega)
  omega
/-- The words of row y. -/
def rowHi (f : Nat → Bool) (y : Nat) : BitVec 64 := wd (fun i => f (128 * y + i))
def rowLo (f : Nat → Bool) (y : Nat) : BitVec 64 := wd (fun i => f (128 * y + (64 + i)))
set_option maxHeartbeats 4000000 in
theorem words_any (g : Nat) (f : Nat → Bool) (w : World) (H : Pxs g f w) {y : Nat} {yi : Int} (hy : yi = (y : Int)) (y1 : y < 64) :
    Calls Try.prog 34 #[.slice (some ⟨g, 0, none⟩) 8192 8192, .int .i64 yi] w fun e w' => e = .returned (.tuple #[.int .u64 ((rowHi f y).toNat : Int), .int .u64 ((rowLo f y).toNat : Int)]) ∧ w = w' := by
  subst hy
  have HH := Lib.hid H
  have EH : Hid ((rowHi f y).toNat = acc (fun i => f (128 * y + i)) 64) := Lib.hid (wd_nat _)
  have EL : Hid ((rowLo f y).toNat = acc (fun i => f (128 * y + (64 + i))) 64) := Lib.hid (wd_nat _)
  generalize (rowHi f y).toNat = U at *
  generalize (rowLo f y).toNat = V at *
  clear H
  go_enter Try.func34, Try.ntmps34
  go_wp2
  go_loop [6, 7, 8] (fun a b i => ∃ k X Y : Nat, k ≤ 64 ∧ a = .int .u64 (X : Int) ∧ b = .int .u64 (Y : Int) ∧ i = .int .i64 (k : Int) ∧ X = acc (fun i => f (128 * y + i)) k ∧ Y = acc (fun i => f (128 * y + (64 + i))) k) (fun _ _ i => 64 - (intOf i).toNat)
  case atStart => exact ⟨0, 0, 0, by omega, rfl, rfl, rfl, rfl, rfl⟩
  case round =>
    obtain ⟨k, X, Y, hk, rfl, rfl, rfl, hX, hY⟩ := hrel
    by_cases hlt : k < 64
    · have hi : (k : Int) < 64 := by omega
      have X1 : (X : Int) ≤ 9223372036854775807 := by rw [hX]; exact acc_small _ _ hlt
      have Y1 : (Y : Int) ≤ 9223372036854775807 := by rw [hY]; exact acc_small _ _ hlt
      have C1 := Lib.hid (rget_any g f w HH.out (x := k) (y := y) rfl rfl rfl (by omega) y1)
      have C2 := Lib.hid (rget_any g f w HH.out (x := 64 + k) (y := y) (xi := 64 + (k : Int)) (by omega) rfl rfl (by omega) y1)
      have XX := Lib.hid hX
      have YY := Lib.hid hY
      clear hX hY
      cases e1 : f (128 * y + k)
      all_goals
        have E1 := Lib.hid e1
        rw [e1] at C1
        clear e1
        cases e2 : f (128 * y + (64 + k))
        all_goals
          have E2 := Lib.hid e2
          rw [e2] at C2
          clear e2
          go_wp2_with fail
          refine C1.out.mono ?_
          rintro e w' ⟨rfl, rfl⟩
          go_wp2_with fail
          refine C2.out.mono ?_
          rintro e w' ⟨rfl, rfl⟩
          go_wp2
          go_round
          case rel =>
            refine ⟨k + 1, _, _, by omega, by go_num, by go_num, by go_num, ?_, ?_⟩
            · first | (rw [acc_set (fun i => f (128 * y + i)) k E1.out, XX.out]) | (rw [acc_unset (fun i => f (128 * y + i)) k E1.out, XX.out])
            · first | (rw [acc_set (fun i => f (128 * y + (64 + i))) k E2.out, YY.out]) | (rw [acc_unset (fun i => f (128 * y + (64 + i))) k E2.out, YY.out])
          case measure => simp [intOf]; omega
    · have K64 := Lib.hid (show k = 64 by omega)
      have hi : ¬ (k : Int) < 64 := by omega
      have XX := Lib.hid hX
      have YY := Lib.hid hY
      clear hX hY
      go_wp2
      go_ret2
      have e1 : X = U := by rw [XX.out, EH.out, K64.out]
      have e2 : Y = V := by rw [YY.out, EL.out, K64.out]
      rw [← e1, ← e2]
      exact ⟨rfl, rfl⟩

/-- The zero plane's cells. -/
theorem zeroP : pcells (fun _ => 0#128) = Array.replicate 128 (.int .u64 0) := by
  apply Array.ext_getElem?
  intro j
  by_cases hj : j < 128
  · rw [pcells_get _ _ hj]
    unfold wordOf
    simp [hj, hi, lo]
  · rw [Array.getElem?_eq_none (by simp [pcells_size]; omega), Array.getElem?_eq_none (by simp; omega)]
theorem infoPlane : (Try.prog.info? 29).map (fun i => (i.zero, i.size)) = some (some (.agg (pcells fun _ => 0#128)), 128) := by
  rw [zeroP]
  kernel_rfl
theorem zeroPlane (w : World) : (zeroValue 29).run Try.prog w = .ok (.agg (pcells fun _ => 0#128)) w := (zero_of_info infoPlane).1 w
theorem sizePlane : (Try.prog.info? 29).map (·.size) = some 128 := by kernel_rfl
end Go.Proofs.Ytplmmfgmbfcjpaa
