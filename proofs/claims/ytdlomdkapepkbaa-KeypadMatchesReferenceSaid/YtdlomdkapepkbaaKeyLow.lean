/- Contracts of keypad.IsDown, Lowest, and of slices.Index over the keys. -/
import Derived.Test.YtdlomdkapepkbaaKeyBox
namespace Go.Proofs.Ytdlomdkapepkbaa
open Go.RowKit Num
set_option linter.unusedVariables false
set_option linter.unusedSimpArgs false

def isDn (K : Nat → Bool) (n : Int) : Bool := decide (0 ≤ n) && K (n % 16).toNat
set_option maxRecDepth 100000 in
set_option maxHeartbeats 2000000 in
theorem isDown_any (K : Nat → Bool) (n : Int) (w : World) (h1 : n ≤ 9223372036854775807) :
    Calls Try.prog 15 #[.agg (kc K), .int .i64 n] w fun x w' => x = .returned (.bool (isDn K n)) ∧ Below w.heap.size w w' := by
  unfold isDn
  by_cases h0 : 0 ≤ n
  · obtain ⟨m, rfl⟩ := Int.eq_ofNat_of_zero_le h0
    obtain ⟨j, hj⟩ : ∃ j : Nat, (m : Int) % 16 = (j : Int) := ⟨((m : Int) % 16).toNat, by omega⟩
    have j0 : 0 ≤ (j : Int) := by omega
    have j1 : (j : Int) < 16 := by omega
    have j2 : j < 16 := by omega
    rw [decide_eq_true h0, Bool.true_and, hj, Int.toNat_natCast]
    have P := Lib.hid (KB.new w K)
    have B := Lib.hid (below_newK w (.cells (kc K) 26))
    have c1 := P.out.cell j2
    obtain ⟨v, hv⟩ : ∃ v, K j = v := ⟨_, rfl⟩
    rw [hv] at c1 ⊢
    clear hv P
    go_enter Try.func15, Try.ntmps15
    go_upto_region 1 with fail
    generalize w.alloc (.cells (kc K) 26) = w1 at *
    obtain ⟨p, hp⟩ : ∃ p, w.heap.size = p := ⟨_, rfl⟩
    have HP := Lib.hid hp
    rw [hp] at c1 ⊢
    clear hp
    go_wp2
    go_ret
    exact ⟨rfl, B.out⟩
  · rw [decide_eq_false h0, Bool.false_and]
    go_enter Try.func15, Try.ntmps15
    go_wp2
    go_ret
    exact ⟨rfl, below_newK _ _⟩

set_option maxRecDepth 100000 in
set_option maxHeartbeats 2000000 in
theorem index_any (K : Nat → Bool) (N : Int) (hN : N = low K) (b : Nat) (w : World) (H : KB b K w) :
    Calls Try.prog 17 #[.slice (some ⟨b, 0, none⟩) 16 16, .bool true] w fun x w' => x = .returned (.int .i64 N) ∧ w = w' := by
  have HN := Lib.hid hN
  have HK := Lib.hid H
  clear hN H
  go_enter Try.func17, Try.ntmps17
  go_wp2
  go_loop [8] (fun i => ∃ k : Nat, k ≤ 16 ∧ i = .int .i64 k ∧ ∀ i : Nat, i < k → K i = false) (fun i => 16 - (intOf i).toNat)
  case atStart => exact ⟨0, Nat.zero_le _, rfl, fun i hi => absurd hi (by omega)⟩
  case round =>
    obtain ⟨k, hk, rfl, hno⟩ := hrel
    have Hno := Lib.hid hno
    clear hno
    by_cases hlt : k < 16
    · have k1 : (k : Int) < 16 := by omega
      have c1 := HK.out.cell hlt
      cases hv : K k
      · rw [hv] at c1
        have HV := Lib.hid hv
        clear hv
        go_wp2
        go_round
        case rel => exact ⟨k + 1, by omega, by go_num, fun i hi => by
          rcases Nat.lt_or_ge i k with h | h
          · exact Hno.out i h
          · obtain rfl : i = k := by omega
            exact HV.out⟩
        case measure => simp [intOf]; omega
      · rw [hv] at c1
        have HV := Lib.hid (show N = (k : Int) by rw [HN.out]; exact lowTo_get hlt Hno.out hv)
        clear hv
        go_wp2
        go_ret
        exact ⟨by rw [HV.out]; rfl, rfl⟩
    · have HV := Lib.hid (show N = -1 by rw [HN.out]; exact lowTo_none fun i hi => Hno.out i (by omega))
      have k1 : ¬ (k : Int) < 16 := by omega
      go_wp2
      go_ret
      exact ⟨by rw [HV.out]; rfl, rfl⟩

set_option maxRecDepth 100000 in
set_option maxHeartbeats 2000000 in
theorem lowest_any (K : Nat → Bool) (N : Int) (hN : N = low K) (w : World) :
    Calls Try.prog 14 #[.agg (kc K)] w fun x w' => x = .returned (.int .i64 N) ∧ Below w.heap.size w w' := by
  have HN := Lib.hid hN
  clear hN
  have P := Lib.hid (KB.new w K)
  have B := Lib.hid (below_newK w (.cells (kc K) 26))
  go_enter Try.func14, Try.ntmps14
  go_upto_region 1 with fail
  generalize w.alloc (.cells (kc K) 26) = w1 at *
  obtain ⟨p, hp⟩ : ∃ p, w.heap.size = p := ⟨_, rfl⟩
  have HP := Lib.hid hp
  rw [hp] at P ⊢
  clear hp
  go_wp2_with fail
  refine (index_any K N HN.out _ _ P.out).mono ?_
  rintro e w' ⟨rfl, rfl⟩
  go_wp2
  go_ret
  exact ⟨rfl, B.out⟩
end Go.Proofs.Ytdlomdkapepkbaa
