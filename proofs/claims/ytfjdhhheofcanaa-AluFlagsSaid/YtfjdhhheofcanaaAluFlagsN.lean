/- Stage 18: The sums, differences and shifts of AluFlags. -/
import Derived.Test.YtfjdhhheofcanaaAluAwake
namespace Go.Proofs.Ytfjdhhheofcanaa
open Go.RowKit Num Dec Cpu
set_option linter.unusedVariables false
set_option linter.unusedSimpArgs false
set_option maxRecDepth 100000

def vF (x y : Nat) : Nat → Nat := fun j => if j = 4 then x else if j = 7 then y else 0
theorem ok_vF {x y : Nat} (hx : x < 256) (hy : y < 256) : OkV (vF x y) := fun j _ => by unfold vF; split <;> (try split) <;> omega
def iF (op : Int) : Ins := ⟨op, (4 : Nat), (7 : Nat), 0, (0 : Nat), 0, 0⟩
theorem flag_at (x y : Nat) (op : Int) (q : Pr) (f : Nat) (h : aluIs op = true) (hf : aluF op x y (if q.sh = true then y else x) q.lr = some f) :
    aluV (vF x y) (iF op) q 4 = aluR op x y (if q.sh = true then y else x) 0 ∧ aluV (vF x y) (iF op) q 15 = f := by
  have e : aluV (vF x y) (iF op) q = upd (upd (vF x y) 4 (aluR op x y (if q.sh = true then y else x) 0)) 15 f := by
    unfold aluV iF shX
    simp only [h, if_true]
    simp [vF, hf]
  rw [e]
  simp [upd]
theorem flag_sum (x y : Nat) (hx : x < 256) (hy : y < 256) (q : Pr) : (aluV (vF x y) (iF 14) q 4 : Int) + 256 * (aluV (vF x y) (iF 14) q 15 : Int) = x + y ∧ aluV (vF x y) (iF 14) q 4 < 256 ∧ aluV (vF x y) (iF 14) q 15 ≤ 1 := by
  obtain ⟨a, b⟩ := flag_at x y 14 q _ rfl rfl
  rw [a, b]
  simp [aluR, b2]
  split <;> omega
theorem flag_sub (x y : Nat) (hx : x < 256) (hy : y < 256) (q : Pr) : (aluV (vF x y) (iF 15) q 4 : Int) - 256 * (1 - (aluV (vF x y) (iF 15) q 15 : Int)) = x - y ∧ aluV (vF x y) (iF 15) q 4 < 256 ∧ aluV (vF x y) (iF 15) q 15 ≤ 1 := by
  obtain ⟨a, b⟩ := flag_at x y 15 q _ rfl rfl
  rw [a, b]
  simp [aluR, b2]
  split <;> omega
theorem flag_bus (x y : Nat) (hx : x < 256) (hy : y < 256) (q : Pr) : (aluV (vF x y) (iF 17) q 4 : Int) - 256 * (1 - (aluV (vF x y) (iF 17) q 15 : Int)) = y - x ∧ aluV (vF x y) (iF 17) q 4 < 256 ∧ aluV (vF x y) (iF 17) q 15 ≤ 1 := by
  obtain ⟨a, b⟩ := flag_at x y 17 q _ rfl rfl
  rw [a, b]
  simp [aluR, b2]
  split <;> omega
theorem flag_shr (x y : Nat) (hx : x < 256) (hy : y < 256) (q : Pr) : 2 * (aluV (vF x y) (iF 16) q 4 : Int) + (aluV (vF x y) (iF 16) q 15 : Int) = (if q.sh = true then (y : Int) else x) ∧ aluV (vF x y) (iF 16) q 4 < 256 ∧ aluV (vF x y) (iF 16) q 15 ≤ 1 := by
  obtain ⟨a, b⟩ := flag_at x y 16 q _ rfl rfl
  rw [a, b]
  cases q.sh <;> simp [aluR] <;> omega
theorem flag_shl (x y : Nat) (hx : x < 256) (hy : y < 256) (q : Pr) : (aluV (vF x y) (iF 18) q 4 : Int) + 256 * (aluV (vF x y) (iF 18) q 15 : Int) = 2 * (if q.sh = true then (y : Int) else x) ∧ aluV (vF x y) (iF 18) q 4 < 256 ∧ aluV (vF x y) (iF 18) q 15 ≤ 1 := by
  obtain ⟨a, b⟩ := flag_at x y 18 q _ rfl rfl
  rw [a, b]
  cases q.sh <;> simp [aluR] <;> omega
end Go.Proofs.Ytfjdhhheofcanaa
