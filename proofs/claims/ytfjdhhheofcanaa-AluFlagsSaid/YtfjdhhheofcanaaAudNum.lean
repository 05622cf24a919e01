/- Plain facts on patterns of 16 bytes and their 128 samples. Nothing of the program. -/
import Derived.WalkKit
namespace Go.Proofs.Ytfjdhhheofcanaa
open Go.RowKit
set_option linter.unusedVariables false

/-- The bytes of a pattern. -/
def OkP (P : Nat → Int) : Prop := ∀ j, j < 16 → 0 ≤ P j ∧ P j ≤ 255
/-- Sample k; the sample with any number. -/
def smpN (P : Nat → Int) (k : Nat) : Bool := decide (P (k / 8) / 2 ^ (7 - k % 8) % 2 = 1)
def smp (P : Nat → Int) (i : Int) : Bool := smpN P (i % 128).toNat
theorem smp_nat (P : Nat → Int) (k : Nat) (h : k < 128) : smp P (k : Int) = smpN P k := by
  unfold smp
  rw [show ((k : Int) % 128).toNat = k by omega]
theorem smp_add (P : Nat → Int) (i : Int) : smp P (i + 128) = smp P i := by
  unfold smp
  rw [show (i + 128) % 128 = i % 128 by omega]
theorem smp_sub (P : Nat → Int) (i : Int) : smp P (i - 256) = smp P i := by
  unfold smp
  rw [show (i - 256) % 128 = i % 128 by omega]
/-- A pattern of a list: its first bytes, then zeros. -/
def pad (L : List Int) (j : Nat) : Int := L.getD j 0
theorem pad_in (L : List Int) (j : Nat) (h : j < L.length) : pad L j = L[j] := by simp [pad, h]
theorem pad_out (L : List Int) (j : Nat) (h : ¬ j < L.length) : pad L j = 0 := by simp [pad, List.getD_eq_getElem?_getD, List.getElem?_eq_none (Nat.le_of_not_lt h)]
theorem pad_ok {L : List Int} (h : ∀ x ∈ L, 0 ≤ x ∧ x ≤ 255) : OkP (pad L) := fun j _ => by
  by_cases hj : j < L.length
  · rw [pad_in L j hj]; exact h _ (List.getElem_mem hj)
  · rw [pad_out L j hj]; omega
def zeroPa : Nat → Int := fun _ => 0
theorem zero_ok : OkP zeroPa := fun _ _ => by unfold zeroPa; omega

/-! ### The samples tell the bytes -/
theorem bit_eq {a b : Int} (h : decide (a % 2 = 1) = decide (b % 2 = 1)) : a % 2 = b % 2 := by
  rw [decide_eq_decide] at h
  omega
theorem byte_of_bits (x y : Int) (x0 : 0 ≤ x) (x1 : x ≤ 255) (y0 : 0 ≤ y) (y1 : y ≤ 255) (h : ∀ t, t < 8 → decide (x / 2 ^ (7 - t) % 2 = 1) = decide (y / 2 ^ (7 - t) % 2 = 1)) : x = y := by
  have h0 := h 0 (by omega)
  have h1 := h 1 (by omega)
  have h2 := h 2 (by omega)
  have h3 := h 3 (by omega)
  have h4 := h 4 (by omega)
  have h5 := h 5 (by omega)
  have h6 := h 6 (by omega)
  have h7 := h 7 (by omega)
  simp only [Nat.sub_zero, Nat.reduceSub, Int.reducePow] at h0 h1 h2 h3 h4 h5 h6 h7
  replace h0 := bit_eq h0
  replace h1 := bit_eq h1
  replace h2 := bit_eq h2
  replace h3 := bit_eq h3
  replace h4 := bit_eq h4
  replace h5 := bit_eq h5
  replace h6 := bit_eq h6
  replace h7 := bit_eq h7
  have e0 : x / 128 = y / 128 := by clear h1 h2 h3 h4 h5 h6 h7 h; omega
  have e1 : x / 64 = y / 64 := by clear h0 h2 h3 h4 h5 h6 h7 h; omega
  have e2 : x / 32 = y / 32 := by clear h0 h1 h3 h4 h5 h6 h7 h e0; omega
  have e3 : x / 16 = y / 16 := by clear h0 h1 h2 h4 h5 h6 h7 h e0 e1; omega
  have e4 : x / 8 = y / 8 := by clear h0 h1 h2 h3 h5 h6 h7 h e0 e1 e2; omega
  have e5 : x / 4 = y / 4 := by clear h0 h1 h2 h3 h4 h6 h7 h e0 e1 e2 e3; omega
  have e6 : x / 2 = y / 2 := by clear h0 h1 h2 h3 h4 h5 h7 h e0 e1 e2 e3 e4; omega
  clear h0 h1 h2 h3 h4 h5 h6 h e0 e1 e2 e3 e4 e5
  omega
theorem smp_byte {P Q : Nat → Int} (hP : OkP P) (hQ : OkP Q) (j : Nat) (hj : j < 16) (h : ∀ t, t < 8 → smpN P (8 * j + t) = smpN Q (8 * j + t)) : P j = Q j := by
  refine byte_of_bits _ _ (hP j hj).1 (hP j hj).2 (hQ j hj).1 (hQ j hj).2 fun t ht => ?_
  have := h t ht
  unfold smpN at this
  rwa [show (8 * j + t) / 8 = j by omega, show (8 * j + t) % 8 = t by omega] at this
/-- Have two patterns the same bytes; the same samples among the first n? -/
def eqP (P Q : Nat → Int) : Bool := (List.range' 0 16).all fun j => decide (P j = Q j)
theorem eqP_iff (P Q : Nat → Int) : eqP P Q = true ↔ ∀ j, j < 16 → P j = Q j := by
  unfold eqP
  rw [List.all_eq_true]
  constructor
  · intro h j hj
    exact of_decide_eq_true (h j (by rw [List.mem_range'_1]; omega))
  · intro h j hj
    rw [List.mem_range'_1] at hj
    exact decide_eq_true (h j (by omega))
def eqS (P Q : Nat → Int) (n : Nat) : Bool := decide (∀ k, k < n → smpN P k = smpN Q k)
theorem eqS_zero (P Q : Nat → Int) : eqS P Q 0 = true := decide_eq_true fun k hk => absurd hk (Nat.not_lt_zero k)
theorem eqS_succ (P Q : Nat → Int) (n : Nat) : eqS P Q (n + 1) = (eqS P Q n && (smpN P n == smpN Q n)) := by
  unfold eqS
  rw [Bool.eq_iff_iff, Bool.and_eq_true, decide_eq_true_eq, decide_eq_true_eq, beq_iff_eq]
  constructor
  · exact fun h => ⟨fun k hk => h k (by omega), h n (by omega)⟩
  · rintro ⟨h1, h2⟩ k hk
    rcases Nat.lt_or_ge k n with h | h
    · exact h1 k h
    · obtain rfl : k = n := by omega
      exact h2
theorem eqS_all {P Q : Nat → Int} (hP : OkP P) (hQ : OkP Q) : eqS P Q 128 = eqP P Q := by
  unfold eqS
  rw [Bool.eq_iff_iff, decide_eq_true_eq, eqP_iff]
  constructor
  · exact fun h j hj => smp_byte hP hQ j hj fun t ht => h _ (by omega)
  · intro h k hk
    unfold smpN
    rw [h (k / 8) (by omega)]
theorem eqP_self (P : Nat → Int) : eqP P P = true := (eqP_iff P P).2 fun _ _ => rfl

/-! ### Silence -/
/-- Are the first n samples equal to the first one? -/
def silN (P : Nat → Int) (n : Nat) : Bool := decide (∀ k, k < n → smpN P k = smpN P 0)
def sil (P : Nat → Int) : Bool := silN P 128
theorem silN_zero (P : Nat → Int) : silN P 0 = true := decide_eq_true fun k hk => absurd hk (Nat.not_lt_zero k)
theorem silN_succ (P : Nat → Int) (n : Nat) : silN P (n + 1) = (silN P n && (smpN P n == smpN P 0)) := by
  unfold silN
  rw [Bool.eq_iff_iff, Bool.and_eq_true, decide_eq_true_eq, decide_eq_true_eq, beq_iff_eq]
  constructor
  · exact fun h => ⟨fun k hk => h k (by omega), h n (by omega)⟩
  · rintro ⟨h1, h2⟩ k hk
    rcases Nat.lt_or_ge k n with h | h
    · exact h1 k h
    · obtain rfl : k = n := by omega
      exact h2
theorem sil_no {P : Nat → Int} {k : Nat} (hk : k < 128) (h : smpN P k ≠ smpN P 0) : sil P = false := decide_eq_false fun c => h (c k hk)
theorem smp_same {P : Nat → Int} {x : Int} (hx : (∃ b : Bool, ∀ t, t < 8 → decide (x / 2 ^ (7 - t) % 2 = 1) = b)) (h : ∀ j, j < 16 → P j = x) : sil P = true := by
  obtain ⟨b, hb⟩ := hx
  refine decide_eq_true fun k hk => ?_
  have e : ∀ k, k < 128 → smpN P k = b := fun k hk => by
    unfold smpN
    rw [h (k / 8) (by omega)]
    exact hb _ (by omega)
  rw [e k hk, e 0 (by omega)]
theorem bits_zero (t : Nat) (ht : t < 8) : decide ((0 : Int) / 2 ^ (7 - t) % 2 = 1) = false := by
  rcases (show t = 0 ∨ t = 1 ∨ t = 2 ∨ t = 3 ∨ t = 4 ∨ t = 5 ∨ t = 6 ∨ t = 7 by omega) with rfl | rfl | rfl | rfl | rfl | rfl | rfl | rfl <;> decide
theorem bits_ones (t : Nat) (ht : t < 8) : decide ((255 : Int) / 2 ^ (7 - t) % 2 = 1) = true := by
  rcases (show t = 0 ∨ t = 1 ∨ t = 2 ∨ t = 3 ∨ t = 4 ∨ t = 5 ∨ t = 6 ∨ t = 7 by omega) with rfl | rfl | rfl | rfl | rfl | rfl | rfl | rfl <;> decide
/-- How many of the first n bytes are v. -/
def cntA (P : Nat → Int) (v : Int) : Nat → Nat
  | 0 => 0
  | n + 1 => cntA P v n + (if P n = v then 1 else 0)
theorem cntA_le (P : Nat → Int) (v : Int) : ∀ n, cntA P v n ≤ n
  | 0 => Nat.le_refl _
  | n + 1 => by
    have := cntA_le P v n
    rw [cntA]
    split <;> omega
theorem cnt_full (P : Nat → Int) (v : Int) : ∀ n, cntA P v n = n ↔ ∀ j, j < n → P j = v
  | 0 => ⟨fun _ j hj => absurd hj (Nat.not_lt_zero j), fun _ => rfl⟩
  | n + 1 => by
    have h1 := cnt_full P v n
    have h2 := cntA_le P v n
    rw [cntA]
    constructor
    · intro h j hj
      split at h
      · rename_i hv
        rcases Nat.lt_or_ge j n with h3 | h3
        · exact h1.1 (by omega) j h3
        · obtain rfl : j = n := by omega
          exact hv
      · omega
    · intro h
      rw [if_pos (h n (by omega)), h1.2 fun j hj => h j (by omega)]
theorem cnt_hit {P : Nat → Int} {v : Int} {n : Nat} (h : P n = v) : cntA P v (n + 1) = cntA P v n + 1 := by rw [cntA, if_pos h]
theorem cnt_miss {P : Nat → Int} {v : Int} {n : Nat} (h : P n ≠ v) : cntA P v (n + 1) = cntA P v n := by rw [cntA, if_neg h]; rfl
theorem sil_counts {P : Nat → Int} (hP : OkP P) : sil P = (decide (cntA P 0 16 = 16) || decide (cntA P 255 16 = 16)) := by
  rw [Bool.eq_iff_iff, Bool.or_eq_true, decide_eq_true_eq, decide_eq_true_eq, cnt_full, cnt_full]
  constructor
  · intro h
    have hs : ∀ k, k < 128 → smpN P k = smpN P 0 := of_decide_eq_true h
    cases h0 : smpN P 0
    · left
      intro j hj
      have hz : zeroPa j = 0 := rfl
      rw [← hz]
      refine smp_byte hP zero_ok j hj fun t ht => ?_
      rw [hs _ (by omega), h0]
      unfold smpN
      rw [show (8 * j + t) % 8 = t by omega]
      exact (bits_zero t ht).symm
    · right
      intro j hj
      refine smp_byte (Q := fun _ => 255) hP (fun _ _ => ⟨show (0 : Int) ≤ 255 by decide, show (255 : Int) ≤ 255 by decide⟩) j hj fun t ht => ?_
      rw [hs _ (by omega), h0]
      unfold smpN
      rw [show (8 * j + t) % 8 = t by omega]
      exact (bits_ones t ht).symm
  · rintro (h | h)
    · exact smp_same ⟨false, bits_zero⟩ h
    · exact smp_same ⟨true, bits_ones⟩ h

/-! ### The samples as the reference makes them -/
def smps (P : Nat → Int) (n : Nat) : List Bool := (List.range n).map (smpN P)
theorem smps_len (P : Nat → Int) (n : Nat) : (smps P n).length = n := by simp [smps]
theorem smps_succ (P : Nat → Int) (n : Nat) : smps P (n + 1) = smps P n ++ [smpN P n] := by simp [smps, List.range_succ]
theorem smps_get (P : Nat → Int) (n k : Nat) (h : k < n) (h' : k < (smps P n).length) : (smps P n)[k] = smpN P k := by simp [smps]
/-- The value of the bit k, from the left. -/
def bitv (k : Nat) : Int := 128 / 2 ^ k
theorem bitv_zero : bitv 0 = 128 := by decide
theorem bitv_in {k : Nat} (h : k < 8) : 1 ≤ bitv k ∧ bitv k ≤ 128 ∧ bitv k / 2 = bitv (k + 1) ∧ bitv k = 2 ^ (7 - k) := by
  rcases (show k = 0 ∨ k = 1 ∨ k = 2 ∨ k = 3 ∨ k = 4 ∨ k = 5 ∨ k = 6 ∨ k = 7 by omega) with rfl | rfl | rfl | rfl | rfl | rfl | rfl | rfl <;> decide
theorem smp_ref (P : Nat → Int) (i k : Nat) (h : k < 8) : smpN P (8 * i + k) = decide (P i / bitv k % 2 = 1) := by
  unfold smpN
  rw [show (8 * i + k) / 8 = i by omega, show (8 * i + k) % 8 = k by omega, (bitv_in h).2.2.2]
/-- A pattern as a list. -/
def lstP (P : Nat → Int) : List Int := (List.range 16).map P
theorem lstP_len (P : Nat → Int) : (lstP P).length = 16 := by simp [lstP]
theorem lstP_get (P : Nat → Int) (j : Nat) (h : j < 16) (h' : j < (lstP P).length) : (lstP P)[j] = P j := by simp [lstP]

/-! ### The mask of a number of any sign -/
theorem and127 (x : Int) : bits .and .i64 x 127 = x % 128 := by
  unfold bits
  have e : (BitVec.ofInt IntKind.i64.bits x &&& BitVec.ofInt IntKind.i64.bits 127).toNat = (x % 128).toNat := by
    show (BitVec.ofInt 64 x &&& BitVec.ofInt 64 127).toNat = (x % 128).toNat
    rw [BitVec.toNat_and, show (BitVec.ofInt 64 127).toNat = 2 ^ 7 - 1 by decide, Nat.and_two_pow_sub_one_eq_mod, BitVec.toNat_ofInt]
    have h : ((2 ^ 64 : Nat) : Int) = 18446744073709551616 := by decide
    rw [h]
    omega
  simp only [e]
  rw [IntKind.wrap_i64]
  omega
theorem and1_u8 (x : Int) : bits .and .u8 x 1 = x % 2 := by
  unfold bits
  have e : (BitVec.ofInt IntKind.u8.bits x &&& BitVec.ofInt IntKind.u8.bits 1).toNat = (x % 2).toNat := by
    show (BitVec.ofInt 8 x &&& BitVec.ofInt 8 1).toNat = (x % 2).toNat
    rw [BitVec.toNat_and, show (BitVec.ofInt 8 1).toNat = 2 ^ 1 - 1 by decide, Nat.and_two_pow_sub_one_eq_mod, BitVec.toNat_ofInt]
    have h : ((2 ^ 8 : Nat) : Int) = 256 := by decide
    rw [h]
    omega
  simp only [e]
  rw [IntKind.wrap_u8]
  omega
end Go.Proofs.Ytfjdhhheofcanaa
