/- Plain facts on addresses and spans. Nothing of the program. -/
import Derived.Test.YtbgdkhbembjjlaaNum
namespace Go.Proofs.Ytbgdkhbembjjlaa.Num
set_option linter.unusedVariables false
open Go.RowKit

theorem and65535 (x : Int) : bits .and .i64 x 65535 = x % 65536 := by
  have h : (BitVec.ofInt 64 x &&& BitVec.ofInt 64 65535).toNat = (x % 18446744073709551616).toNat % 65536 := by
    have e : (BitVec.ofInt 64 65535).toNat = 2 ^ 16 - 1 := by decide
    rw [BitVec.toNat_and, e, Nat.and_two_pow_sub_one_eq_mod, BitVec.toNat_ofInt]
    rfl
  show IntKind.i64.wrap (((BitVec.ofInt 64 x &&& BitVec.ofInt 64 65535).toNat : Nat) : Int) = _
  rw [h, IntKind.wrap_i64]
  omega

/-- Is the address b in the span of n bytes at a? -/
def inB (a n b : Int) : Bool := decide ((b - a) % 65536 < n)
theorem inB_yes {a n b : Int} (h : (b - a) % 65536 < n) : inB a n b = true := by simp [inB, h]
theorem inB_no {a n b : Int} (h : n ≤ (b - a) % 65536) : inB a n b = false := by simp [inB]; omega
theorem inB_iff {a n b : Int} : inB a n b = true ↔ (b - a) % 65536 < n := by simp [inB]
/-- Have the two spans an address in common? -/
def ovB (a n b m : Int) : Bool := decide (0 < n) && (decide (0 < m) && (inB a n b || inB b m a))
/-- The addresses of a span. -/
def lst (a : Int) (n : Nat) : List Int := (List.range n).map fun (i : Nat) => (a + (i : Int)) % 65536
theorem lst_len (a : Int) (n : Nat) : (lst a n).length = n := by simp [lst]
theorem lst_get (a : Int) (n i : Nat) (h : i < (lst a n).length) : (lst a n)[i] = (a + (i : Int)) % 65536 := by simp [lst]
theorem lst_succ (a : Int) (k : Nat) : lst a (k + 1) = lst a k ++ [(a + (k : Int)) % 65536] := by simp [lst, List.range_succ]
theorem lst_zero (a : Int) : lst a 0 = [] := rfl

theorem inB_mem (a b : Int) (n : Nat) (i : Nat) (hi : i < n) (hn : n ≤ 65536) (b0 : 0 ≤ b) (b1 : b ≤ 65535) (h : (a + (i : Int)) % 65536 = b) : inB a n b = true :=
  inB_yes (by omega)
theorem inB_out (a b : Int) (n : Nat) (b0 : 0 ≤ b) (b1 : b ≤ 65535) (h : ∀ i : Nat, i < n → (a + (i : Int)) % 65536 ≠ b) : inB a n b = false := by
  apply inB_no
  rcases Int.lt_or_le ((b - a) % 65536) n with hlt | hge
  · exact absurd (by omega) (h ((b - a) % 65536).toNat (by omega))
  · exact hge

/-- Is one of the first k addresses of the span at b in the span of n bytes at a? -/
def someB (a n b : Int) (k : Nat) : Bool := (List.range k).any fun (i : Nat) => inB a n ((b + (i : Int)) % 65536)
theorem someB_zero (a n b : Int) : someB a n b 0 = false := rfl
theorem someB_succ (a n b : Int) (k : Nat) : someB a n b (k + 1) = (someB a n b k || inB a n ((b + (k : Int)) % 65536)) := by simp [someB, List.range_succ]
theorem ovB_some (a n b : Int) (m : Nat) (n0 : 0 ≤ n) (n1 : n ≤ 65536) (m1 : m ≤ 65536) : ovB a n b m = someB a n b m := by
  rw [Bool.eq_iff_iff]
  simp only [ovB, someB, Bool.and_eq_true, Bool.or_eq_true, decide_eq_true_eq, List.any_eq_true, List.mem_range, inB_iff]
  constructor
  · rintro ⟨h1, h2, h3 | h3⟩
    · exact ⟨0, by omega, by omega⟩
    · exact ⟨((a - b) % 65536).toNat, by omega, by omega⟩
  · rintro ⟨i, h1, h2⟩
    omega
theorem ovB_comm (a n b m : Int) : ovB a n b m = ovB b m a n := by
  rw [Bool.eq_iff_iff]
  simp only [ovB, Bool.and_eq_true, Bool.or_eq_true, decide_eq_true_eq]
  constructor <;> rintro ⟨h1, h2, h3⟩ <;> exact ⟨h2, h1, h3.symm⟩
theorem inB_move (a n b d : Int) : inB ((a + d) % 65536) n ((b + d) % 65536) = inB a n b := by
  have e : ((b + d) % 65536 - (a + d) % 65536) % 65536 = (b - a) % 65536 := by omega
  simp only [inB, e]
theorem ovB_move (a n b m d : Int) : ovB ((a + d) % 65536) n ((b + d) % 65536) m = ovB a n b m := by simp only [ovB, inB_move]
theorem inB_self (a : Int) (n i : Nat) (hi : i < n) (hn : n ≤ 65536) : inB a n ((a + (i : Int)) % 65536) = true := inB_yes (by omega)
end Go.Proofs.Ytbgdkhbembjjlaa.Num
