/- Contracts of the reference of layer 8 that work on numbers: On, Per, Need, Mod. -/
import Derived.Test.YtplmmfgmbfcjpaaRows
import Derived.Test.YtplmmfgmbfcjpaaNum
import Derived.WalkKit
import Derived.WalkSpells
import Derived.BigQuiet
import Derived.Deep.QuietTactic
import Derived.Handy
import Derived.IntWalk
import Derived.Below
import Derived.Lib.Hide
namespace Go.Proofs.Ytplmmfgmbfcjpaa
open Go.RowKit Num
set_option linter.unusedVariables false
set_option linter.unusedSimpArgs false

/-- Is plane i selected? -/
def onB (M i : Nat) : Bool := decide (M / 2 ^ i % 2 = 1)
set_option maxHeartbeats 1000000 in
theorem on_any (M i : Nat) (w : World) (hM : M ≤ 10000) (hi : i ≤ 100) : Calls Try.prog 16 #[.int .i64 (M : Int), .int .i64 (i : Int)] w fun e w' => e = .returned (.bool (onB M i)) ∧ w = w' := by
  obtain ⟨v, hv⟩ : ∃ v, onB M i = v := ⟨_, rfl⟩
  rw [hv]
  have HV := Lib.hid hv
  clear hv
  go_enter Try.func16, Try.ntmps16
  go_wp2
  go_loop [0, 5] (fun a t => ∃ k X : Nat, k ≤ i ∧ a = .int .i64 (X : Int) ∧ t = .int .i64 (k : Int) ∧ X = M / 2 ^ k) (fun _ t => i - (intOf t).toNat)
  case atStart => exact ⟨0, M, by omega, rfl, rfl, by simp⟩
  case round =>
    obtain ⟨k, X, hk, rfl, rfl, hX⟩ := hrel
    have X1 : (X : Int) ≤ 10000 := by have := Nat.div_le_self M (2 ^ k); rw [← hX] at this; omega
    have HX := Lib.hid hX
    clear hX
    by_cases hlt : k < i
    · have ki : (k : Int) < (i : Int) := by omega
      go_wp2
      go_round
      case rel => exact ⟨k + 1, X / 2, by omega, by go_num, by go_num, by rw [HX.out, Nat.div_div_eq_div_mul, ← Nat.pow_succ]⟩
      case measure => simp [intOf]; omega
    · have ke := Lib.hid (show k = i by omega)
      have ki : ¬ (k : Int) < (i : Int) := by omega
      have e := HV.out
      unfold onB at e
      rw [← ke.out, ← HX.out] at e
      have EE := Lib.hid e
      clear e
      by_cases hodd : X % 2 = 1
      · have ho : ((X : Int) % 2 == 1) = true := by simp; omega
        go_wp2
        go_ret
        have e := EE.out
        rw [decide_eq_true hodd] at e
        subst e
        exact ⟨rfl, rfl⟩
      · have ho : ((X : Int) % 2 == 1) = false := by simp; omega
        go_wp2
        go_ret
        have e := EE.out
        rw [decide_eq_false hodd] at e
        subst e
        exact ⟨rfl, rfl⟩
/-- The bytes of one plane's data. -/
def per (n : Nat) (big : Bool) : Nat := if big then 32 else n
theorem per_any (n : Nat) (big : Bool) (w : World) : Calls Try.prog 21 #[.int .i64 (n : Int), .bool big] w fun e w' => e = .returned (.int .i64 (per n big : Nat)) ∧ w = w' := by
  cases big
  all_goals
    go_enter Try.func21, Try.ntmps21
    go_wp2
    go_ret
    exact ⟨rfl, rfl⟩
/-- The bytes of the data of the first k planes. -/
def need (M n : Nat) (big : Bool) : Nat → Nat
  | 0 => 0
  | k + 1 => need M n big k + if onB M k then per n big else 0
theorem need_le (M n : Nat) (big : Bool) (hn : n ≤ 32) (k : Nat) : need M n big k ≤ 32 * k := by
  induction k with
  | zero => simp [need]
  | succ k ih =>
    rw [need]
    have : per n big ≤ 32 := by unfold per; split <;> omega
    split <;> omega
set_option maxHeartbeats 1000000 in
theorem need_any (M n : Nat) (big : Bool) (w : World) (hM : M ≤ 10000) (hn : n ≤ 32) : Calls Try.prog 19 #[.int .i64 (M : Int), .int .i64 (n : Int), .bool big] w fun e w' => e = .returned (.int .i64 (need M n big 4 : Nat)) ∧ w = w' := by
  obtain ⟨Z, hZ⟩ : ∃ Z, need M n big 4 = Z := ⟨_, rfl⟩
  rw [hZ]
  have ZZ := Lib.hid hZ
  clear hZ
  obtain ⟨d, hd⟩ : ∃ d, per n big = d := ⟨_, rfl⟩
  have d1 : (d : Int) ≤ 32 := by have : per n big ≤ 32 := by { unfold per; split <;> omega }; omega
  have PP := Lib.hid fun w => hd ▸ per_any n big w
  have DD := Lib.hid hd
  clear hd
  go_enter Try.func19, Try.ntmps19
  go_wp2
  go_loop [7, 8] (fun a t => ∃ k X : Nat, k ≤ 4 ∧ a = .int .i64 (X : Int) ∧ t = .int .i64 (k : Int) ∧ X = need M n big k) (fun _ t => 4 - (intOf t).toNat)
  case atStart => exact ⟨0, 0, by omega, rfl, rfl, rfl⟩
  case round =>
    obtain ⟨k, X, hk, rfl, rfl, hX⟩ := hrel
    have X1 : (X : Int) ≤ 1000 := by have := need_le M n big hn k; rw [← hX] at this; omega
    have HX := Lib.hid hX
    clear hX
    by_cases hlt : k < 4
    · have ki : (k : Int) < 4 := by omega
      obtain ⟨v, hv⟩ : ∃ v, onB M k = v := ⟨_, rfl⟩
      have ON := Lib.hid (hv ▸ on_any M k w hM (by omega))
      have HV := Lib.hid hv
      clear hv
      cases v
      · go_wp2_with fail
        refine ON.out.mono ?_
        rintro e w' ⟨rfl, rfl⟩
        go_wp2
        go_round
        case rel => exact ⟨k + 1, X, by omega, rfl, by go_num, by rw [need, HV.out, HX.out]; simp⟩
        case measure => simp [intOf]; omega
      · go_wp2_with fail
        refine ON.out.mono ?_
        rintro e w' ⟨rfl, rfl⟩
        go_wp2_with fail
        refine (PP.out _).mono ?_
        rintro e w' ⟨rfl, rfl⟩
        go_wp2
        go_round
        case rel => exact ⟨k + 1, X + d, by omega, by go_num, by go_num, by rw [need, HV.out, ← HX.out, DD.out]; simp⟩
        case measure => simp [intOf]; omega
    · have ke := Lib.hid (show k = 4 by omega)
      have ki : ¬ (k : Int) < 4 := by omega
      go_wp2
      go_ret
      have e : X = Z := by rw [HX.out, ke.out, ZZ.out]
      rw [← e]
      exact ⟨rfl, rfl⟩
set_option maxHeartbeats 1000000 in
theorem smod_any (n : Int) (m : Nat) (w : World) (n0 : -9223372036854775808 ≤ n) (n1 : n ≤ 9223372036854775807) (m0 : 0 < m) (m1 : m ≤ 10000) : Calls Try.prog 17 #[.int .i64 n, .int .i64 (m : Int)] w fun e w' => e = .returned (.int .i64 (n % (m : Int))) ∧ w = w' := by
  have mI : (0 : Int) < (m : Int) := by omega
  have mm : m ≠ 0 := by omega
  have mJ : (m : Int) ≤ 10000 := by omega
  obtain ⟨r, hr⟩ : ∃ r, n.tmod (m : Int) = r := ⟨_, rfl⟩
  obtain ⟨z, hz⟩ : ∃ z, n % (m : Int) = z := ⟨_, rfl⟩
  rw [hz]
  have b1 := Int.emod_nonneg n (show (m : Int) ≠ 0 by omega)
  have b2 := Int.emod_lt_of_pos n mI
  have hc : (r < 0 ∧ r + m = z ∧ 0 < z) ∨ (¬ r < 0 ∧ r = z) := by
    rcases Int.lt_or_le n 0 with h | h
    · have e := tmod_neg n m h
      rw [hr] at e
      have b3 := Int.emod_nonneg (-n) (show (m : Int) ≠ 0 by omega)
      have b4 := Int.emod_lt_of_pos (-n) mI
      have e2 : (-n) % (m : Int) = if n % (m : Int) = 0 then 0 else (m : Int) - n % (m : Int) := by
        rw [Int.neg_emod]
        by_cases h0 : n % (m : Int) = 0
        · rw [if_pos h0, if_pos (Int.dvd_of_emod_eq_zero h0)]
        · rw [if_neg h0, if_neg (fun hd => h0 (Int.emod_eq_zero_of_dvd hd))]; simp
      rw [e2, hz] at e
      rw [hz] at b1 b2
      split at e
      · exact .inr ⟨by omega, by omega⟩
      · exact .inl ⟨by omega, by omega, by omega⟩
    · have e := tmod_pos n m h
      rw [hr, hz] at e
      rw [hz] at b1
      exact .inr ⟨by omega, e⟩
  have r1 : -(m : Int) < r ∧ r < (m : Int) := by rw [hz] at b1 b2; omega
  obtain ⟨r1, r2⟩ := r1
  have HZ := Lib.hid (And.intro hz hc)
  clear hz b1 b2
  rcases hc with ⟨h1, h2, _⟩ | ⟨h1, h2⟩
  all_goals
    have H2 := Lib.hid h2
    clear h2
    go_enter Try.func17, Try.ntmps17
    go_wp2
    go_ret
    exact ⟨by rw [← H2.out]; rfl, rfl⟩
end Go.Proofs.Ytplmmfgmbfcjpaa
