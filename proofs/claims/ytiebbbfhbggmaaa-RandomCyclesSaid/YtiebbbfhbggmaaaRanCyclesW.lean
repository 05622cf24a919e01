/- The walk of RandomCycles. -/
import Derived.Test.YtiebbbfhbggmaaaRanAwake
import Derived.Test.YtiebbbfhbggmaaaBytOpen
import Derived.Deep.Cut
import Derived.Test.YtiebbbfhbggmaaaCalm
import Derived.IntWalk
namespace Go.Proofs.Ytiebbbfhbggmaaa
open Go.RowKit Num
set_option linter.unusedVariables false
set_option linter.unusedSimpArgs false

set_option maxRecDepth 100000 in
set_option maxHeartbeats 8000000 in
theorem randomCycles_walk (A : Option Addr) (n c : Nat) (L : List Int) (m : Int) (w : World) (H : ArgB w A n c L) (w1 : (Lit.int .u16 m).wf = true) :
    Calls Try.prog 4 #[.slice A n c, .int .u16 m] w fun e w' => e = .returned (.bool true) ∧ Below w.heap.size w w' := by
  have HA := Lib.hid H
  clear H
  obtain ⟨k, hk, hk9⟩ : ∃ k : Nat, m = (k : Int) ∧ k ≤ 65535 := by
    obtain ⟨m0, m1⟩ := bd_u16 w1
    exact ⟨m.toNat, by omega, by omega⟩
  subst hk
  have K9 := Lib.hid hk9
  clear w1 hk9
  obtain ⟨v0, hv0⟩ : ∃ v0, v0 = w := ⟨_, rfl⟩
  subst hv0
  go_enter Try.func4, Try.ntmps4
  go_wp2_with fail
  refine (awake13 _).mono ?_
  rintro e v1 ⟨rfl, b1⟩
  have BV := Lib.hid b1
  clear b1
  by_cases hlen0 : 1000 < n
  · have k0 : (1000 : Int) < (n : Int) := by omega
    go_wp2_with fail
    refine (awake13 _).mono ?_
    rintro e v2 ⟨rfl, b1⟩
    have BV := Lib.hid (BV.out.trans (b1.mono BV.out.size))
    clear b1
    go_wp2
    go_ret
    exact ⟨rfl, BV.out⟩
  have k0 : ¬ (1000 : Int) < (n : Int) := by omega
  by_cases hlen1 : n = 0
  · have k1 : (n : Int) = 0 := by omega
    have q1 : ((n : Int) == 0) = true := by rw [k1]; rfl
    go_wp2_with fail
    refine (awake13 _).mono ?_
    rintro e v2 ⟨rfl, b1⟩
    have BV := Lib.hid (BV.out.trans (b1.mono BV.out.size))
    clear b1
    go_wp2
    go_ret
    exact ⟨rfl, BV.out⟩
  have k1 : ¬ (n : Int) = 0 := by omega
  have q1 : ((n : Int) == 0) = false := beq_eq_false_iff_ne.2 k1
  have N0 := Lib.hid (show ¬ 1000 < n from hlen0)
  have N1 := Lib.hid (show ¬ n = 0 from hlen1)
  clear hlen0
  clear hlen1
  have kI : (k : Int) ≤ 65535 := by have := K9.out; omega
  have k0 : (0 : Int) ≤ (k : Int) := by omega
  go_upto_region 4 with fail
  obtain ⟨j, hj⟩ : ∃ j, k % L.length = j := ⟨_, rfl⟩
  have hl : k % L.length < L.length := nxt_lt L k (by have := HA.out.len; have := N1.out; omega)
  obtain ⟨ad, hA, hb, c1⟩ := (HA.out.rd.below BV.out).at_ hl
  subst hA
  have RL := Lib.hid (HA.out.rd.below BV.out)
  have AT := fun (q : Int) (x : Calm v1) (hq : q ≤ 9223372036854775807) => at_any (some ad) n c L q x.w (RL.out.below x.below) HA.out.len (by have := N0.out; omega) hq
  have e1 := rat_nat L k
  have e2 : rat L ((k : Int) + (n : Int)) = nxt L k := by rw [← HA.out.len, show (k : Int) + ((L.length : Nat) : Int) = ((k + L.length : Nat) : Int) by omega, rat_nat, nxt_cycle]
  have e3 : rat L (j : Int) = nxt L k := by rw [rat_nat, ← hj, nxt_mod]
  have e4 : rat L (-1 - (k : Int)) = 0 := rat_neg L _ (by omega)
  rw [nxt_get L k hl, hj] at c1
  have hn := HA.out.len
  rw [hj, hn] at hl
  have u2 : Int.tmod (k : Int) (n : Int) = (j : Int) := by rw [Int.tmod_eq_emod_of_nonneg (by omega), ← hj, hn]; rfl
  have A1 := Lib.hid (show ∀ x : Calm v1, Calls Try.prog 12 #[.slice (some ad) n c, .int .i64 (k : Int)] x.w fun e w' => e = .returned (.int .u8 (nxt L k)) ∧ Below x.w.heap.size x.w w' from fun x => by have h := AT (k : Int) x (by have := K9.out; omega); rw [e1] at h; exact h)
  have A2 := Lib.hid (show ∀ x : Calm v1, Calls Try.prog 12 #[.slice (some ad) n c, .int .i64 ((k : Int) + (n : Int))] x.w fun e w' => e = .returned (.int .u8 (nxt L k)) ∧ Below x.w.heap.size x.w w' from fun x => by have h := AT ((k : Int) + (n : Int)) x (by have := K9.out; have := N0.out; omega); rw [e2] at h; exact h)
  have A3 := Lib.hid (show ∀ x : Calm v1, Calls Try.prog 12 #[.slice (some ad) n c, .int .i64 (j : Int)] x.w fun e w' => e = .returned (.int .u8 (nxt L k)) ∧ Below x.w.heap.size x.w w' from fun x => by have h := AT (j : Int) x (by have := K9.out; have := N0.out; omega); rw [e3] at h; exact h)
  have A4 := Lib.hid (show ∀ x : Calm v1, Calls Try.prog 12 #[.slice (some ad) n c, .int .i64 (-1 - (k : Int))] x.w fun e w' => e = .returned (.int .u8 0) ∧ Below x.w.heap.size x.w w' from fun x => by have h := AT (-1 - (k : Int)) x (by omega); rw [e4] at h; exact h)
  clear e1 e2 e3 e4 AT hj hn
  generalize nxt L k = y at *
  have g1 : ∀ x : Calm v1, x.w.cell? (ad.add j) = some (.int .u8 y) := fun x => (x.below.cell (p := ad.add j) (by rw [add_block]; exact hb)).trans c1
  have x0 : IntKind.i64.wrap (k : Int) = (k : Int) := IntWalk.i64_in _ (by have := K9.out; omega)
  have x1 : IntKind.i64.wrap ((k : Int) + (n : Int)) = (k : Int) + (n : Int) := IntWalk.i64_in _ (by have := K9.out; have := N0.out; omega)
  have x2 : IntKind.i64.wrap (j : Int) = (j : Int) := IntWalk.i64_in _ (by have := N0.out; omega)
  have x3 : IntKind.i64.wrap (-1 - (k : Int)) = -1 - (k : Int) := IntWalk.i64_in _ (by have := K9.out; omega)
  have hlI : (j : Int) < (n : Int) := by omega
  clear hb c1
  refine calm_region (by kernel_rfl) (by kernel_rfl) ?_
  repeat (go_big_quiet_step ((go_at_call 12; (first | with_reducible exact calm_call (A1.out _) | with_reducible exact calm_call (A2.out _) | with_reducible exact calm_call (A3.out _) | with_reducible exact calm_call (A4.out _)))))
  refine wpQuiet_nil ?_
  intro _ hw'
  obtain ⟨x, rfl⟩ := hw'
  have BV := Lib.hid (BV.out.trans (x.below.mono BV.out.size))
  go_wp2_with fail
  go_ret
  exact ⟨rfl, BV.out⟩
end Go.Proofs.Ytiebbbfhbggmaaa
