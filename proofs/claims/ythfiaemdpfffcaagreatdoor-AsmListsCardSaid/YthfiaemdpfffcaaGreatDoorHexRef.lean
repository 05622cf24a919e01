/- Contract of the reference's Hex. -/
import Derived.Test.YthfiaemdpfffcaaGreatDoorOpc
import Derived.Test.YthfiaemdpfffcaaGreatDoorHexNum
import Derived.Lib.Hide
namespace Go.Proofs.YthfiaemdpfffcaaGreatDoor
open Go.RowKit Num
set_option linter.unusedVariables false

set_option maxHeartbeats 2000000 in
theorem rhex_yes (N k : Nat) (w : World) (n1 : N ≤ 4294967295) (k0 : 1 ≤ k) (k1 : k ≤ 8) :
    Calls Tryz.prog 18 #[.int .i64 N, .int .i64 k] w fun e w' =>
      e = .returned (.string (hexS N k)) ∧ Below w.heap.size w w' := by
  go_enter Tryz.func18, Tryz.ntmps18
  go_wp2
  go_loop [0, 6, 7] (fun n s c => ∃ i : Nat, i ≤ k ∧ n = .int .i64 ((N / 16 ^ i : Nat) : Int) ∧ s = .string (hexS N i) ∧ c = .int .i64 i) (fun _ _ c => k - (intOf c).toNat)
  case atStart => exact ⟨0, Nat.zero_le _, by simp, rfl, rfl⟩
  case round =>
    obtain ⟨i, hi, rfl, rfl, rfl⟩ := hrel
    have hd : N / 16 ^ (i + 1) = N / 16 ^ i / 16 := by rw [Nat.pow_succ, Nat.div_div_eq_div_mul]
    have Hd := Lib.hid hd
    have hb : N / 16 ^ i ≤ 4294967295 := Nat.le_trans (Nat.div_le_self _ _) n1
    have hs := hexS_size N i
    have Hs := Lib.hid hs
    have hs2 : (hexS N i).size ≤ 8 := by omega
    clear hd hs
    generalize hM : N / 16 ^ i = M at *
    have HM := Lib.hid hM
    clear hM
    by_cases hlt : i < k
    · go_wp2
      exact ⟨⟨i + 1, by omega, by rw [Hd.out]; rfl, congrArg Value.string (hexS_succ N i M HM.out _ rfl), rfl⟩, by simp [intOf]; omega⟩
    · have hik : i = k := by omega
      subst hik
      go_wp2
      go_ret
      exact ⟨rfl, Below.refl _ _⟩

set_option maxHeartbeats 2000000 in
theorem rhex_no (n k : Int) (w : World) (h : n < 0 ∨ 4294967295 < n ∨ k < 1 ∨ 8 < k) :
    Calls Tryz.prog 18 #[.int .i64 n, .int .i64 k] w fun e w' =>
      e = .returned (.string ⟨#[]⟩) ∧ w = w' := by
  have hp : k < 1 ∨ (1 ≤ k ∧ 8 < k) ∨ (1 ≤ k ∧ k ≤ 8 ∧ n < 0) ∨ (1 ≤ k ∧ k ≤ 8 ∧ 0 ≤ n ∧ 4294967295 < n) := by omega
  clear h
  rcases hp with h | ⟨h, h2⟩ | ⟨h, h2, h3⟩ | ⟨h, h2, h3, h4⟩
  all_goals
    go_enter Tryz.func18, Tryz.ntmps18
    go_wp2
    go_ret
    exact ⟨rfl, rfl⟩
end Go.Proofs.YthfiaemdpfffcaaGreatDoor
