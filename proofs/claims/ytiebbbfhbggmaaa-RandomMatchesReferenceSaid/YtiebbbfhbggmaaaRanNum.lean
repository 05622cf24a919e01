/- Streams of bytes as lists: the byte that is read after k others. Nothing of the program. -/
namespace Go.Proofs.Ytiebbbfhbggmaaa
set_option linter.unusedVariables false

/-- The byte that is read after k others; 0 of the empty list. -/
def nxt (L : List Int) (k : Nat) : Int := L.getD (k % L.length) 0
theorem nxt_nil (k : Nat) : nxt [] k = 0 := by simp [nxt]
theorem nxt_zero (L : List Int) (h : L.length = 0) (k : Nat) : nxt L k = 0 := by
  rw [List.eq_nil_of_length_eq_zero h]
  exact nxt_nil k
theorem nxt_lt (L : List Int) (k : Nat) (h : 0 < L.length) : k % L.length < L.length := Nat.mod_lt _ h
theorem nxt_get (L : List Int) (k : Nat) (h : k % L.length < L.length) : L[k % L.length] = nxt L k := by
  unfold nxt
  rw [List.getD_eq_getElem?_getD, List.getElem?_eq_getElem h, Option.getD_some]
theorem nxt_cycle (L : List Int) (k : Nat) : nxt L (k + L.length) = nxt L k := by
  unfold nxt
  rw [Nat.add_mod_right]
theorem nxt_mod (L : List Int) (k : Nat) : nxt L (k % L.length) = nxt L k := by
  unfold nxt
  rw [Nat.mod_mod]
/-- .. of any int: 0 of a negative one. -/
def rat (L : List Int) (n : Int) : Int := if n < 0 then 0 else nxt L n.toNat
theorem rat_nat (L : List Int) (k : Nat) : rat L (k : Int) = nxt L k := by
  unfold rat
  rw [if_neg (by omega), Int.toNat_natCast]
theorem rat_neg (L : List Int) (n : Int) (h : n < 0) : rat L n = 0 := by
  unfold rat
  rw [if_pos h]
end Go.Proofs.Ytiebbbfhbggmaaa
