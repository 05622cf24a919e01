/- Plain facts on timers: a value behind n ticks. Nothing of the program. -/
import Derived.WalkKit
namespace Go.Proofs.Ytobjffhmmeadoaa
set_option linter.unusedVariables false

/-- The value v behind n ticks; a negative n is none. -/
def lw (v n : Int) : Int := max 0 (v - max 0 n)
theorem lw_neg {v n : Int} (h0 : 0 ≤ v) (h : n ≤ 0) : v = lw v n := by unfold lw; omega
theorem lw_big {v n : Int} (h0 : 0 ≤ v) (h : v ≤ n) : (0 : Int) = lw v n := by unfold lw; omega
theorem lw_mid {v n : Int} (h : 0 < n) (h1 : n < v) : v - n = lw v n := by unfold lw; omega
theorem lw_lo (v n : Int) : 0 ≤ lw v n := by unfold lw; omega
theorem lw_hi {v n m : Int} (h0 : 0 ≤ v) (h : v ≤ m) : lw v n ≤ m := by unfold lw; omega
theorem lw_max {v n : Int} (h : 0 ≤ n) : max 0 (v - n) = lw v n := by unfold lw; omega
theorem lw_sum {v n m : Int} (h0 : 0 ≤ n) (h1 : 0 ≤ m) : lw (lw v n) m = lw v (n + m) := by unfold lw; omega
theorem lw_zero {v : Int} (h : 0 ≤ v) : lw v 0 = v := by unfold lw; omega
theorem lw_all {v n : Int} (h : 0 ≤ v) (h1 : v ≤ n) : lw v n = 0 := by unfold lw; omega
theorem lw_left {d s n : Int} (h0 : 0 ≤ d) (h1 : 0 ≤ s) (hn : 0 ≤ n) : max (lw d n) (lw s n) = max 0 (max d s - n) := by unfold lw; omega
theorem lw_mono {v u n : Int} (h : v ≤ u) : lw v n ≤ lw u n := by unfold lw; omega
theorem lw_le {v n : Int} (h : 0 ≤ v) : lw v n ≤ v := by unfold lw; omega
end Go.Proofs.Ytobjffhmmeadoaa
