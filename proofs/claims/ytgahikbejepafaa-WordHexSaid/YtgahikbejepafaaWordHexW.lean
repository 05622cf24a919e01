/- The walk of WordHex. -/
import Derived.Test.YtgahikbejepafaaWordAwake
namespace Go.Proofs.Ytgahikbejepafaa
open Go.RowKit Num
set_option linter.unusedVariables false

set_option maxHeartbeats 4000000 in
theorem wordHex_nat (N M d : Nat) (h0 : N ≤ 4294967295) (h1 : M ≤ 4294967295) (h2 : d ≤ 255) (w : World) :
    Calls Try.prog 6 #[.int .u32 N, .int .u32 M, .int .u8 d] w fun e w' => e = .returned (.bool true) ∧ Below w.heap.size w w' := by
  go_enter Try.func6, Try.ntmps6
  go_wp2_with fail
  refine (awake1 _).mono ?_
  rintro e w1 ⟨rfl, hb1⟩
  go_wp2_with fail
  refine (hex_yes N 8 _ h0 (by omega) (by omega)).mono ?_
  rintro e w2 ⟨rfl, hb2⟩
  go_wp2_with fail
  refine (hex_yes M 8 _ h1 (by omega) (by omega)).mono ?_
  rintro e w3 ⟨rfl, hb3⟩
  go_wp2_with fail
  have hk := hex_yes N (1 + d % 8) w3 h0 (by omega) (by omega)
  rw [show ((1 + d % 8 : Nat) : Int) = 1 + (d : Int) % 8 from by omega] at hk
  refine hk.mono ?_
  clear hk
  rintro e w4 ⟨rfl, hb4⟩
  have z1 := hexS_size N 8
  have z2 := hexS_size M 8
  have z3 := hexS_size N (1 + d % 8)
  have hcut := hexS_cut N (1 + d % 8) (by omega)
  have heq := hexS_eq N M h0 h1
  go_wp2
  go_ret
  exact ⟨by simp, (((hb1.trans (hb2.mono hb1.size)).trans (hb3.mono (Nat.le_trans hb1.size hb2.size))).trans (hb4.mono (Nat.le_trans hb1.size (Nat.le_trans hb2.size hb3.size))))⟩

theorem wordHex_walk (a0 a1 a2 : Int) (w0 : (Lit.int .u32 a0).wf = true) (w1 : (Lit.int .u32 a1).wf = true) (w2 : (Lit.int .u8 a2).wf = true) (w : World) :
    Calls Try.prog 6 #[.int .u32 a0, .int .u32 a1, .int .u8 a2] w fun e w' => e = .returned (.bool true) ∧ Below w.heap.size w w' := by
  obtain ⟨h0, h1⟩ := bd_u32 w0
  obtain ⟨h2, h3⟩ := bd_u32 w1
  obtain ⟨h4, h5⟩ := bd_u8 w2
  obtain ⟨N, rfl⟩ := Int.eq_ofNat_of_zero_le h0
  obtain ⟨M, rfl⟩ := Int.eq_ofNat_of_zero_le h2
  obtain ⟨d, rfl⟩ := Int.eq_ofNat_of_zero_le h4
  exact wordHex_nat N M d (by omega) (by omega) (by omega) w
end Go.Proofs.Ytgahikbejepafaa
