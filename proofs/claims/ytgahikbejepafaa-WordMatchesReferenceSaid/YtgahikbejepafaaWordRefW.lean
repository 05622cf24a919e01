/- The walk of WordMatchesReference. -/
import Derived.Test.YtgahikbejepafaaWordAwake
import Derived.Deep.RegionHeld3
namespace Go.Proofs.Ytgahikbejepafaa
open Go.RowKit Num
set_option linter.unusedVariables false

/-- Both Hex give one text, whatever the arguments. -/
def hexAll (n k : Int) : ByteArray := if n < 0 ∨ 4294967295 < n ∨ k < 1 ∨ 8 < k then ⟨#[]⟩ else hexS n.toNat k.toNat
theorem hex_all (n k : Int) (w : World) : Calls Try.prog 14 #[.int .i64 n, .int .i64 k] w fun e w' => e = .returned (.string (hexAll n k)) ∧ Below w.heap.size w w' := by
  unfold hexAll
  by_cases h : n < 0 ∨ 4294967295 < n ∨ k < 1 ∨ 8 < k
  · rw [if_pos h]
    exact (hex_no n k w h).mono fun e w' ⟨he, hw⟩ => ⟨he, hw ▸ Below.refl _ _⟩
  · rw [if_neg h]
    obtain ⟨N, rfl⟩ := Int.eq_ofNat_of_zero_le (show 0 ≤ n by omega)
    obtain ⟨K, rfl⟩ := Int.eq_ofNat_of_zero_le (show 0 ≤ k by omega)
    exact hex_yes N K w (by omega) (by omega) (by omega)
theorem rhex_all (n k : Int) (w : World) : Calls Try.prog 15 #[.int .i64 n, .int .i64 k] w fun e w' => e = .returned (.string (hexAll n k)) ∧ Below w.heap.size w w' := by
  unfold hexAll
  by_cases h : n < 0 ∨ 4294967295 < n ∨ k < 1 ∨ 8 < k
  · rw [if_pos h]
    exact (rhex_no n k w h).mono fun e w' ⟨he, hw⟩ => ⟨he, hw ▸ Below.refl _ _⟩
  · rw [if_neg h]
    obtain ⟨N, rfl⟩ := Int.eq_ofNat_of_zero_le (show 0 ≤ n by omega)
    obtain ⟨K, rfl⟩ := Int.eq_ofNat_of_zero_le (show 0 ≤ k by omega)
    exact rhex_yes N K w (by omega) (by omega) (by omega)

set_option maxHeartbeats 4000000 in
theorem wordMatchesReference_walk (a0 a1 a2 a3 : Int) (w0 : (Lit.int .u8 a0).wf = true) (w1 : (Lit.int .u8 a1).wf = true) (w2 : (Lit.int .i64 a2).wf = true) (w3 : (Lit.int .i64 a3).wf = true) (w : World) :
    Calls Try.prog 3 #[.int .u8 a0, .int .u8 a1, .int .i64 a2, .int .i64 a3] w fun e w' => e = .returned (.bool true) ∧ Below w.heap.size w w' := by
  obtain ⟨h0, h1⟩ := bd_u8 w0
  obtain ⟨l0, l1⟩ := bd_u8 w1
  clear w0 w1 w2 w3
  have e1 : (a2 / 256 % 256 == a2 % 65536 / 256) = true := by simp; omega
  have e2 : (a2 % 256 == a2 % 65536 % 256) = true := by simp
  have m0 : 0 ≤ a2 % 65536 := by omega
  have m1 : a2 % 65536 ≤ 65535 := by omega
  go_enter Try.func3, Try.ntmps3
  go_wp2_with fail
  refine (awake1 _).mono ?_
  rintro e w1 ⟨rfl, hb1⟩
  go_wp2_with fail
  refine (rsplit_any a0 a1 _ h0 h1 l0 l1).mono ?_
  rintro e w2 ⟨rfl, hb2⟩
  go_wp2_with fail
  refine (bytes_any a2 _).mono ?_
  rintro e w3 ⟨rfl, rfl⟩
  go_wp2_with fail
  refine (mod_any a2 _).mono ?_
  rintro e w3 ⟨rfl, rfl⟩
  go_wp2_with fail
  have hb := hb1.trans (hb2.mono hb1.size)
  have hz := Nat.le_trans hb1.size hb2.size
  clear hb1 hb2
  have u0 := IntWalk.i64_in a0 (by omega)
  have u1 := IntWalk.i64_in a1 (by omega)
  have u2 := IntWalk.i64_in (a2 / 256 % 256) (by omega)
  have u3 := IntWalk.i64_in (a2 % 256) (by omega)
  have v1 := IntWalk.i64_in (a0 * 256) (by omega)
  have v2 := IntWalk.i64_in (a0 * 256 + a1) (by omega)
  have v3 := IntWalk.i64_quo (a2 % 65536) 256 (by omega)
  have v4 := IntWalk.rem_in (a2 % 65536) 256 m0
  have v5 : (a0 * 256 + a1 == a0 * 256 + a1) = true := by simp
  go_region_held3 (fun w' => Below w.heap.size w w' ∧ w2.heap.size < w'.heap.size ∧ w'.cell? ⟨w2.heap.size, 0, none⟩ = some (.int .i64 (a0 / 16)) ∧ w'.cell? ⟨w2.heap.size, 1, none⟩ = some (.int .i64 (a0 % 16)) ∧
      w'.cell? ⟨w2.heap.size, 2, none⟩ = some (.int .i64 (a1 / 16)) ∧ w'.cell? ⟨w2.heap.size, 3, none⟩ = some (.int .i64 (a1 % 16)) ∧ w'.cell? ⟨w2.heap.size, 4, none⟩ = some (.int .i64 a1) ∧ w'.cell? ⟨w2.heap.size, 5, none⟩ = some (.int .i64 (a0 % 16 * 256 + a1)))
    (first
      | assumption
      | (go_split_ands; refine ⟨?_, ?_, ?_, ?_, ?_, ?_, ?_, ?_⟩ <;> assumption)
      | (refine ⟨(hb.alloc hz _).drew, ?_⟩; simp)
      | (go_split_ands
         refine ⟨Below.trans (by assumption) (hk.mono (by omega)), ?_, ?_, ?_, ?_, ?_, ?_, ?_⟩
         · have := hk.size; omega
         all_goals (rw [hk.cell (by assumption)]; assumption)))
    (first
      | (go_at_call 12; refine (split_any _ _ _ h0 h1 l0 l1).mono ?_; rintro e w' ⟨rfl, hk⟩)
      | (go_at_call 14; refine (hex_all _ _ _).mono ?_; rintro e w' ⟨rfl, hk⟩)
      | (go_at_call 15; refine (rhex_all _ _ _).mono ?_; rintro e w' ⟨rfl, hk⟩)
      | (go_at_call 13; refine (number_any _ _ _ h0 h1 l0 l1).mono ?_; rintro e w' ⟨rfl, rfl⟩))
  rename_i hH
  clear u0 u1 u2 u3 v1 v2 v3 v4 v5
  go_wp2
  go_ret
  exact ⟨by simp, hH.1⟩
end Go.Proofs.Ytgahikbejepafaa
