/- Contracts of the reference of package profile. -/
import Derived.Test.YtgndlgcgphgilaaDoorProfName
import Derived.Deep.QuietTactic
import Derived.BigQuiet
namespace Go.Proofs.YtgndlgcgphgilaaDoor
open Go.RowKit Num
set_option linter.unusedVariables false

theorem below_drewN {B : Nat} {a w : World} (h : Below B a w) (n : Nat) : Below B a (w.drewN n) := ⟨h.os, h.tape, h.output, h.size, h.block⟩
set_option maxHeartbeats 400000 in
theorem bit_any (b : Bool) (n : Int) (w : World) : Calls Tryd.prog 19 #[.bool b, .int .i64 n] w fun e w' => e = .returned (.int .i64 (bi b n)) ∧ w' = w := by
  cases b
  all_goals
    go_enter Tryd.func19, Tryd.ntmps19
    go_wp2
    go_ret
    exact ⟨rfl, rfl⟩

def wordS (b : Bool) (s : ByteArray) : ByteArray := if b then ⟨#[43]⟩ ++ s else ⟨#[]⟩
set_option maxHeartbeats 400000 in
theorem word_any (b : Bool) (s : ByteArray) (w : World) (hs : s.size ≤ 10) : Calls Tryd.prog 20 #[.bool b, .string s] w fun e w' => e = .returned (.string (wordS b s)) ∧ w' = w := by
  cases b
  all_goals
    go_enter Tryd.func20, Tryd.ntmps20
    go_wp2
    go_ret
    exact ⟨rfl, rfl⟩

set_option maxHeartbeats 400000 in
theorem rvalid_any (l : Int) (b0 b1 b2 b3 b4 b5 b6 : Bool) (w : World) :
    Calls Tryd.prog 11 #[profV l b0 b1 b2 b3 b4 b5 b6] w fun e w' => e = .returned (.bool (decide (1 ≤ l ∧ l ≤ 3))) ∧ Below w.heap.size w w' := by
  by_cases h : 1 ≤ l ∧ l ≤ 3
  · rw [decide_eq_true h]
    obtain rfl | rfl | rfl : l = 1 ∨ l = 2 ∨ l = 3 := by omega
    all_goals
      go_enter Tryd.func11, Tryd.ntmps11
      go_wp2
      go_returns
      exact ⟨rfl, by go_grown⟩
  · rw [decide_eq_false h]
    have e1 : (l == 1) = false := beq_eq_false_iff_ne.2 (by omega)
    have e2 : (l == 2) = false := beq_eq_false_iff_ne.2 (by omega)
    have e3 : (l == 3) = false := beq_eq_false_iff_ne.2 (by omega)
    go_enter Tryd.func11, Tryd.ntmps11
    go_wp2
    go_returns
    exact ⟨rfl, by go_grown⟩

/-- A bit of a number. -/
def bitB (n q : Nat) : Bool := decide (n / q % 2 = 1)
theorem bit_of (n q : Nat) : (((n : Int) / (q : Int)) % 2 == 1) = bitB n q := by
  unfold bitB
  rw [Bool.eq_iff_iff]
  simp
  omega

set_option maxHeartbeats 1000000 in
theorem rat_any (n : Nat) (w : World) (h : n < 384) :
    Calls Tryd.prog 10 #[.int .i64 n] w fun e w' => e = .returned (profV (1 + n / 128) (bitB n 1) (bitB n 2) (bitB n 4) (bitB n 8) (bitB n 16) (bitB n 32) (bitB n 64)) ∧ Below w.heap.size w w' := by
  go_enter Tryd.func10, Tryd.ntmps10
  go_wp2
  go_returns
  refine ⟨?_, by go_grown⟩
  rw [show ((n : Int) % 2 == 1) = bitB n 1 from by simpa using bit_of n 1, show ((n : Int) / 2 % 2 == 1) = bitB n 2 from bit_of n 2, show ((n : Int) / 4 % 2 == 1) = bitB n 4 from bit_of n 4, show ((n : Int) / 8 % 2 == 1) = bitB n 8 from bit_of n 8,
    show ((n : Int) / 16 % 2 == 1) = bitB n 16 from bit_of n 16, show ((n : Int) / 32 % 2 == 1) = bitB n 32 from bit_of n 32, show ((n : Int) / 64 % 2 == 1) = bitB n 64 from bit_of n 64, show (n : Int) / 128 + 1 = 1 + (n : Int) / 128 from by omega]

theorem bi_bd (b : Bool) (n : Int) (h : 0 ≤ n) : 0 ≤ bi b n ∧ bi b n ≤ n := by
  cases b <;> simp [bi, h]
set_option maxHeartbeats 1000000 in
theorem rnumber_any (l : Int) (b0 b1 b2 b3 b4 b5 b6 : Bool) (w : World) (h0 : 1 ≤ l) (h1 : l ≤ 3) :
    Calls Tryd.prog 12 #[profV l b0 b1 b2 b3 b4 b5 b6] w fun e w' => e = .returned (.int .i64 (numTo l b0 b1 b2 b3 b4 b5 b6 7)) ∧ Below w.heap.size w w' := by
  have p0 := bi_bd b0 1 (by omega)
  have p1 := bi_bd b1 2 (by omega)
  have p2 := bi_bd b2 4 (by omega)
  have p3 := bi_bd b3 8 (by omega)
  have p4 := bi_bd b4 16 (by omega)
  have p5 := bi_bd b5 32 (by omega)
  have p6 := bi_bd b6 64 (by omega)
  go_enter Tryd.func12, Tryd.ntmps12
  go_wp2
  go_quiet ((go_at_call 19; exact Calls.quiet_of_same (bit_any _ _ _)))
  go_wp2
  go_ret
  refine ⟨ret_int ?_, ?_⟩
  · rfl
  · exact below_drewN (by go_grown) _

theorem wordS_size (b : Bool) (s : ByteArray) (hs : s.size ≤ 6) : (wordS b s).size ≤ 7 := by
  cases b
  · exact Nat.zero_le _
  · show (⟨#[43]⟩ ++ s : ByteArray).size ≤ 7
    rw [ByteArray.size_append]
    have : (⟨#[43]⟩ : ByteArray).size = 1 := rfl
    omega
theorem rname_eq1 (b0 b1 b2 b3 b4 b5 b6 : Bool) : (⟨#[99, 104, 105, 112, 56]⟩ : ByteArray) ++ wordS b0 ⟨#[115, 104, 105, 102, 116]⟩ ++ wordS b1 ⟨#[107, 101, 101, 112]⟩ ++ wordS b2 ⟨#[106, 117, 109, 112]⟩ ++ wordS b3 ⟨#[108, 111, 103, 105, 99]⟩ ++ wordS b4 ⟨#[99, 108, 105, 112]⟩ ++ wordS b5 ⟨#[119, 97, 105, 116]⟩ ++ wordS b6 ⟨#[102, 97, 117, 108, 116]⟩ = nameTo 1 b0 b1 b2 b3 b4 b5 b6 7 := by
  revert b0 b1 b2 b3 b4 b5 b6; decide +kernel
theorem rname_eq2 (b0 b1 b2 b3 b4 b5 b6 : Bool) : (⟨#[115, 99, 104, 105, 112]⟩ : ByteArray) ++ wordS b0 ⟨#[115, 104, 105, 102, 116]⟩ ++ wordS b1 ⟨#[107, 101, 101, 112]⟩ ++ wordS b2 ⟨#[106, 117, 109, 112]⟩ ++ wordS b3 ⟨#[108, 111, 103, 105, 99]⟩ ++ wordS b4 ⟨#[99, 108, 105, 112]⟩ ++ wordS b5 ⟨#[119, 97, 105, 116]⟩ ++ wordS b6 ⟨#[102, 97, 117, 108, 116]⟩ = nameTo 2 b0 b1 b2 b3 b4 b5 b6 7 := by
  revert b0 b1 b2 b3 b4 b5 b6; decide +kernel
theorem rname_eq3 (b0 b1 b2 b3 b4 b5 b6 : Bool) : (⟨#[120, 111, 99, 104, 105, 112]⟩ : ByteArray) ++ wordS b0 ⟨#[115, 104, 105, 102, 116]⟩ ++ wordS b1 ⟨#[107, 101, 101, 112]⟩ ++ wordS b2 ⟨#[106, 117, 109, 112]⟩ ++ wordS b3 ⟨#[108, 111, 103, 105, 99]⟩ ++ wordS b4 ⟨#[99, 108, 105, 112]⟩ ++ wordS b5 ⟨#[119, 97, 105, 116]⟩ ++ wordS b6 ⟨#[102, 97, 117, 108, 116]⟩ = nameTo 3 b0 b1 b2 b3 b4 b5 b6 7 := by
  revert b0 b1 b2 b3 b4 b5 b6; decide +kernel
set_option maxHeartbeats 1000000 in
theorem rname_no (l : Int) (b0 b1 b2 b3 b4 b5 b6 : Bool) (w : World) (h : l < 1 ∨ 3 < l) :
    Calls Tryd.prog 15 #[profV l b0 b1 b2 b3 b4 b5 b6] w fun e w' => e = .returned (.string ⟨#[]⟩) ∧ Below w.heap.size w w' := by
  have e1 : (l == 1) = false := beq_eq_false_iff_ne.2 (by omega)
  have e2 : (l == 2) = false := beq_eq_false_iff_ne.2 (by omega)
  have e3 : (l == 3) = false := beq_eq_false_iff_ne.2 (by omega)
  go_enter Tryd.func15, Tryd.ntmps15
  go_wp2
  go_returns
  exact ⟨rfl, by go_grown⟩

set_option maxHeartbeats 1000000 in
theorem rname_yes (l : Int) (b0 b1 b2 b3 b4 b5 b6 : Bool) (w : World) (h0 : 1 ≤ l) (h1 : l ≤ 3) :
    Calls Tryd.prog 15 #[profV l b0 b1 b2 b3 b4 b5 b6] w fun e w' => e = .returned (.string (nameTo l b0 b1 b2 b3 b4 b5 b6 7)) ∧ Below w.heap.size w w' := by
  have s0 := wordS_size b0 ⟨#[115, 104, 105, 102, 116]⟩ (by decide)
  have s1 := wordS_size b1 ⟨#[107, 101, 101, 112]⟩ (by decide)
  have s2 := wordS_size b2 ⟨#[106, 117, 109, 112]⟩ (by decide)
  have s3 := wordS_size b3 ⟨#[108, 111, 103, 105, 99]⟩ (by decide)
  have s4 := wordS_size b4 ⟨#[99, 108, 105, 112]⟩ (by decide)
  have s5 := wordS_size b5 ⟨#[119, 97, 105, 116]⟩ (by decide)
  have s6 := wordS_size b6 ⟨#[102, 97, 117, 108, 116]⟩ (by decide)
  obtain rfl | rfl | rfl : l = 1 ∨ l = 2 ∨ l = 3 := by omega
  all_goals
    go_enter Tryd.func15, Tryd.ntmps15
    go_wp2
    go_quiet ((go_at_call 20; exact Calls.quiet_of_same (word_any _ _ _ (by decide))))
    go_wp2
    go_ret
    refine ⟨?_, below_drewN (by go_grown) _⟩
    first | (rw [rname_eq1]; rfl) | (rw [rname_eq2]; rfl) | (rw [rname_eq3]; rfl)
end Go.Proofs.YtgndlgcgphgilaaDoor
