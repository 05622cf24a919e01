/- Plain facts on digits of base 16. Nothing of the program. -/
import Derived.Test.YthfiaemdpfffcaaGreatDoorNum
namespace Go.Proofs.YthfiaemdpfffcaaGreatDoor.Num
set_option linter.unusedVariables false

def hexByte (d : Nat) : UInt8 := if d < 10 then UInt8.ofNat (48 + d) else UInt8.ofNat (55 + d)
/-- The last k digits of base 16 of n. -/
def hexL : Nat → Nat → List UInt8
  | _, 0 => []
  | n, k + 1 => hexL (n / 16) k ++ [hexByte (n % 16)]
def hexS (n k : Nat) : ByteArray := ⟨(hexL n k).toArray⟩
def digs : ByteArray := ⟨#[48, 49, 50, 51, 52, 53, 54, 55, 56, 57, 65, 66, 67, 68, 69, 70]⟩

theorem hexL_len : ∀ (k n : Nat), (hexL n k).length = k
  | 0, _ => rfl
  | k + 1, n => by simp [hexL, hexL_len k]
theorem hexS_size (n k : Nat) : (hexS n k).size = k := by simp [hexS, ByteArray.size, hexL_len]

theorem digs_at : ∀ d : Fin 16, digs.data[d.val]? = some (hexByte d.val) := by decide
theorem digs_get (d : Nat) (h : d < 16) (h2 : d < digs.size) : digs[d]'h2 = hexByte d := by
  have e := digs_at ⟨d, h⟩
  have hs : d < digs.data.size := h2
  rw [Array.getElem?_eq_getElem hs] at e
  exact Option.some.inj e

/-- The digit at place j of k, counted from the left. -/
theorem hexL_get : ∀ (k n j : Nat) (h : j < k) (h2 : j < (hexL n k).length), (hexL n k)[j]'h2 = hexByte (n / 16 ^ (k - 1 - j) % 16)
  | 0, _, _, h, _ => absurd h (by omega)
  | k + 1, n, j, h, h2 => by
    by_cases hj : j < k
    · have hl : j < (hexL (n / 16) k).length := by rw [hexL_len]; exact hj
      simp only [hexL]
      rw [List.getElem_append_left hl, hexL_get k (n / 16) j hj hl, Nat.div_div_eq_div_mul]
      have e : 16 * 16 ^ (k - 1 - j) = 16 ^ (k + 1 - 1 - j) := by
        rw [← Nat.pow_succ', show (k - 1 - j).succ = k + 1 - 1 - j from by omega]
      rw [e]
    · have hjk : j = k := by omega
      subst hjk
      simp only [hexL]
      rw [List.getElem_append_right (by rw [hexL_len]; omega)]
      simp [hexL_len]

theorem hexL_cons : ∀ (k n : Nat), hexL n (k + 1) = hexByte (n / 16 ^ k % 16) :: hexL n k
  | 0, n => by simp [hexL]
  | k + 1, n => by
    rw [show hexL n (k + 1 + 1) = hexL (n / 16) (k + 1) ++ [hexByte (n % 16)] from rfl, hexL_cons k (n / 16), Nat.div_div_eq_div_mul, ← Nat.pow_succ']
    rfl
theorem hexS_zero (n : Nat) : hexS n 0 = ⟨#[]⟩ := rfl
theorem digs_cut : ∀ d : Fin 16, digs.extract d.val (d.val + 1) = ⟨#[hexByte d.val]⟩ := by decide
theorem hexS_succ (n k M : Nat) (h : n / 16 ^ k = M) (d : Nat) (hd : d = M % 16) : digs.extract d (d + 1) ++ hexS n k = hexS n (k + 1) := by
  subst hd
  have e := digs_cut ⟨M % 16, by omega⟩
  simp only at e
  rw [e]
  unfold hexS
  rw [hexL_cons, h]
  apply ByteArray.ext
  simp [ByteArray.data_append]

theorem hexL_tail : ∀ (m k n : Nat), ∃ l : List UInt8, l.length = m ∧ hexL n (m + k) = l ++ hexL n k
  | 0, k, n => ⟨[], rfl, by rw [Nat.zero_add]; rfl⟩
  | m + 1, k, n => by
    obtain ⟨l, h1, h2⟩ := hexL_tail m k n
    refine ⟨hexByte (n / 16 ^ (m + k) % 16) :: l, by simp [h1], ?_⟩
    rw [show m + 1 + k = m + k + 1 from by omega, hexL_cons, h2]
    rfl
theorem hexS_cut (n k : Nat) (h : k ≤ 8) : (hexS n 8).extract (8 - k) 8 = hexS n k := by
  obtain ⟨l, h1, h2⟩ := hexL_tail (8 - k) k n
  rw [show 8 - k + k = 8 from by omega] at h2
  apply ByteArray.ext
  rw [ByteArray.data_extract]
  unfold hexS
  rw [h2]
  have h3 : 8 - (8 - k) = k := by omega
  simp [h1, h3, List.take_of_length_le (Nat.le_of_eq (hexL_len k n))]
theorem hexByte_inj : ∀ a b : Fin 16, hexByte a.val = hexByte b.val → a = b := by decide
theorem hexL_inj : ∀ (k n m : Nat), hexL n k = hexL m k → n % 16 ^ k = m % 16 ^ k
  | 0, n, m, _ => by simp [Nat.mod_one]
  | k + 1, n, m, h => by
    simp only [hexL] at h
    obtain ⟨h1, h2⟩ := List.append_inj h (by rw [hexL_len, hexL_len])
    have e1 := hexL_inj k _ _ h1
    have e2 := hexByte_inj ⟨n % 16, by omega⟩ ⟨m % 16, by omega⟩ (by simpa using h2)
    have e3 : n % 16 = m % 16 := by simpa using e2
    rw [Nat.pow_succ', Nat.mod_mul, Nat.mod_mul, e1, e3]
theorem hexS_eq (n m : Nat) (hn : n ≤ 4294967295) (hm : m ≤ 4294967295) : ((hexS n 8).toList == (hexS m 8).toList) = ((n : Int) == (m : Int)) := by
  by_cases h : n = m
  · subst h; simp
  · have h2 : ¬ (hexS n 8).toList = (hexS m 8).toList := fun e => h (by
      have e2 : hexL n 8 = hexL m 8 := by simpa [hexS, ByteArray.toList_eq] using e
      have e3 := hexL_inj 8 n m e2
      rw [Nat.mod_eq_of_lt (by omega), Nat.mod_eq_of_lt (by omega)] at e3
      exact e3)
    rw [beq_false_of_ne h2, beq_false_of_ne (by omega)]
end Go.Proofs.YthfiaemdpfffcaaGreatDoor.Num
