/- Plain facts on rows of 128 bits: their two words, shifts of both words together, the pixels. Nothing of the program. -/
import Derived.Test.YtplmmfgmbfcjpaaNum
namespace Go.Proofs.Ytplmmfgmbfcjpaa.Num
set_option linter.unusedVariables false
open Go.RowKit

/-- The left and the right word of a row. -/
def hi (r : BitVec 128) : BitVec 64 := r.extractLsb' 64 64
def lo (r : BitVec 128) : BitVec 64 := r.extractLsb' 0 64
theorem hi_append (h l : BitVec 64) : hi (h ++ l) = h := by
  apply BitVec.eq_of_getLsbD_eq
  intro i hi'
  simp only [hi, BitVec.getLsbD_extractLsb', BitVec.getLsbD_append]
  rw [if_neg (by omega), show 64 + i - 64 = i by omega]
  simp [hi']
theorem lo_append (h l : BitVec 64) : lo (h ++ l) = l := by
  apply BitVec.eq_of_getLsbD_eq
  intro i hi'
  simp only [lo, BitVec.getLsbD_extractLsb', BitVec.getLsbD_append]
  rw [if_pos (by omega), show 0 + i = i by omega]
  simp [hi']
theorem hi_lo (r : BitVec 128) : hi r ++ lo r = r := by
  apply BitVec.eq_of_getLsbD_eq
  intro i hi'
  simp only [hi, lo, BitVec.getLsbD_extractLsb', BitVec.getLsbD_append]
  split
  · rename_i h; simp [h]
  · rename_i h
    rw [show 64 + (i - 64) = i by omega]
    simp
    omega
theorem app_and (h l h' l' : BitVec 64) : (h ++ l) &&& (h' ++ l') = (h &&& h') ++ (l &&& l') := by
  apply BitVec.eq_of_getMsbD_eq
  intro i _
  simp only [BitVec.getMsbD_and, BitVec.getMsbD_append]
  split <;> rfl
theorem app_xor (h l h' l' : BitVec 64) : (h ++ l) ^^^ (h' ++ l') = (h ^^^ h') ++ (l ^^^ l') := by
  apply BitVec.eq_of_getMsbD_eq
  intro i _
  simp only [BitVec.getMsbD_xor, BitVec.getMsbD_append]
  split <;> rfl
theorem app_inj {h l h' l' : BitVec 64} : h ++ l = h' ++ l' ↔ h = h' ∧ l = l' :=
  ⟨fun e => ⟨by rw [← hi_append h l, e, hi_append], by rw [← lo_append h l, e, lo_append]⟩, fun ⟨a, b⟩ => by rw [a, b]⟩
/-- A row as a value. -/
def rv (r : BitVec 128) : Value := .agg #[.int .u64 ((hi r).toNat : Int), .int .u64 ((lo r).toNat : Int)]
theorem rv_append (h l : BitVec 64) : rv (h ++ l) = .agg #[.int .u64 (h.toNat : Int), .int .u64 (l.toNat : Int)] := by rw [rv, hi_append, lo_append]

theorem two_pow64 : (2 : Nat) ^ 64 = 18446744073709551616 := by decide
theorem word_lt (u : BitVec 64) : (u.toNat : Int) < 18446744073709551616 := by have := u.isLt; omega
theorem word_le (u : BitVec 64) : (u.toNat : Int) ≤ 18446744073709551615 := by have := u.isLt; omega
theorem word_nn (u : BitVec 64) : 0 ≤ (u.toNat : Int) := by omega

theorem shl64 (u : BitVec 64) (c : Int) : (u.toNat : Int) * 2 ^ min c.toNat 64 % 18446744073709551616 = ((u <<< c.toNat).toNat : Int) := by
  rw [BitVec.toNat_shiftLeft, Nat.shiftLeft_eq]
  rcases Nat.lt_or_ge c.toNat 64 with h | h
  · rw [Nat.min_eq_left (by omega)]; simp
  · rw [Nat.min_eq_right (by omega)]
    have e1 : u.toNat * 2 ^ c.toNat % 2 ^ 64 = 0 := by
      rw [show c.toNat = (c.toNat - 64) + 64 by omega, Nat.pow_add, ← Nat.mul_assoc]
      exact Nat.mul_mod_left _ _
    rw [e1]
    omega
theorem shr64 (u : BitVec 64) (c : Int) : (u.toNat : Int) / 2 ^ min c.toNat 64 = ((u >>> c.toNat).toNat : Int) := by
  rw [BitVec.toNat_ushiftRight, Nat.shiftRight_eq_div_pow]
  rcases Nat.lt_or_ge c.toNat 64 with h | h
  · rw [Nat.min_eq_left (by omega)]; simp
  · rw [Nat.min_eq_right (by omega)]
    have h2 : u.toNat < 2 ^ c.toNat := Nat.lt_of_lt_of_le u.isLt (Nat.pow_le_pow_right (by decide) (by omega))
    rw [Nat.div_eq_of_lt h2]
    have := u.isLt
    omega
theorem ofInt64 (u : BitVec 64) : BitVec.ofInt 64 (u.toNat : Int) = u := by
  apply BitVec.eq_of_toNat_eq
  rw [BitVec.toNat_ofInt]
  have := u.isLt
  omega
theorem wrap64u (u : BitVec 64) : IntKind.u64.wrap (u.toNat : Int) = (u.toNat : Int) := by
  rw [IntKind.wrap_u64]
  have := u.isLt
  omega
theorem or64 (u v : BitVec 64) : bits .or .u64 (u.toNat : Int) (v.toNat : Int) = ((u ||| v).toNat : Int) := by
  show IntKind.u64.wrap (((BitVec.ofInt 64 (u.toNat : Int) ||| BitVec.ofInt 64 (v.toNat : Int)).toNat : Nat) : Int) = _
  rw [ofInt64, ofInt64, wrap64u]
theorem and64 (u v : BitVec 64) : bits .and .u64 (u.toNat : Int) (v.toNat : Int) = ((u &&& v).toNat : Int) := by
  show IntKind.u64.wrap (((BitVec.ofInt 64 (u.toNat : Int) &&& BitVec.ofInt 64 (v.toNat : Int)).toNat : Nat) : Int) = _
  rw [ofInt64, ofInt64, wrap64u]
theorem xor64 (u v : BitVec 64) : bits .xor .u64 (u.toNat : Int) (v.toNat : Int) = ((u ^^^ v).toNat : Int) := by
  show IntKind.u64.wrap (((BitVec.ofInt 64 (u.toNat : Int) ^^^ BitVec.ofInt 64 (v.toNat : Int)).toNat : Nat) : Int) = _
  rw [ofInt64, ofInt64, wrap64u]

theorem msb_big {n : Nat} (x : BitVec n) (i : Nat) (h : n ≤ i) : x.getMsbD i = false := by
  rw [BitVec.getMsbD_eq_getLsbD, decide_eq_false (by omega)]
  rfl
/-- Both words together, to the right. -/
theorem right_eq (h l : BitVec 64) (k k1 k2 : Nat) (e : (k ≤ 64 ∧ k1 = 64 - k) ∨ (64 < k ∧ 64 ≤ k1)) (e2 : (64 ≤ k ∧ k2 = k - 64) ∨ (k < 64 ∧ 64 ≤ k2)) :
    (h >>> k) ++ (l >>> k ||| h <<< k1 ||| h >>> k2) = (h ++ l) >>> k := by
  apply BitVec.eq_of_getMsbD_eq
  intro i hi'
  simp only [BitVec.getMsbD_append, BitVec.getMsbD_ushiftRight, BitVec.getMsbD_or, BitVec.getMsbD_shiftLeft]
  by_cases hlt : 64 ≤ i
  · rw [if_pos hlt]
    rcases e with ⟨a, b⟩ | ⟨a, b⟩
    · rcases e2 with ⟨c, d⟩ | ⟨c, d⟩
      · have hk : k = 64 := by omega
        subst hk; subst b; subst d
        rw [if_neg (by omega)]
        simp
        rw [show decide (i - 64 < 64) = true by simp; omega, show decide (i < 128) = true by simp; omega, show decide (i < 64) = false by simp; omega]
        simp
      · rw [show decide (i - 64 < k2) = true by simp; omega, show decide (i - 64 < 64) = true by simp; omega]
        subst b
        by_cases hik : i - 64 < k
        · rw [if_neg (by omega), show i - 64 + (64 - k) = i - k by omega, show decide (i - 64 < k) = true by simp; omega, show decide (i < k) = false by simp; omega]
          simp
          omega
        · rw [if_pos (by omega), show decide (i - 64 < k) = false by simp; omega, show decide (i < k) = false by simp; omega, msb_big h (i - 64 + (64 - k)) (by omega), show i - 64 - k = i - k - 64 by omega]
          simp
          omega
    · rcases e2 with ⟨c, d⟩ | ⟨c, d⟩
      · rw [show decide (i - 64 < 64) = true by simp; omega, show decide (i - 64 < k) = true by simp; omega, msb_big h (i - 64 + k1) (by omega)]
        subst d
        rw [if_neg (by omega)]
        by_cases hik : i < k
        · rw [show decide (i - 64 < k - 64) = true by simp; omega, show decide (i < k) = true by simp; omega]
          simp
        · rw [show decide (i - 64 < k - 64) = false by simp; omega, show decide (i < k) = false by simp; omega, show i - 64 - (k - 64) = i - k by omega]
          simp
          omega
      · omega
  · rw [if_neg hlt, if_neg (by omega), show decide (i < 64) = true by simp; omega, show decide (i < 64 + 64) = true by simp; omega]
/-- Both words together, to the left. -/
theorem left_eq (h l : BitVec 64) (k k1 k2 : Nat) (e : (k ≤ 64 ∧ k1 = 64 - k) ∨ (64 < k ∧ 64 ≤ k1)) (e2 : (64 ≤ k ∧ k2 = k - 64) ∨ (k < 64 ∧ 64 ≤ k2)) :
    (h <<< k ||| l >>> k1 ||| l <<< k2) ++ (l <<< k) = (h ++ l) <<< k := by
  apply BitVec.eq_of_getMsbD_eq
  intro i hi'
  simp only [BitVec.getMsbD_append, BitVec.getMsbD_ushiftRight, BitVec.getMsbD_or, BitVec.getMsbD_shiftLeft]
  by_cases hlt : 64 ≤ i
  · rw [if_pos hlt, if_pos (by omega), show i - 64 + k = i + k - 64 by omega]
  · rw [if_neg hlt, show decide (i < 64) = true by simp; omega]
    rcases e with ⟨a, b⟩ | ⟨a, b⟩
    · subst b
      rcases e2 with ⟨c, d⟩ | ⟨c, d⟩
      · have hk : k = 64 := by omega
        subst hk; subst d
        rw [if_pos (by omega), msb_big h (i + 64) (by omega)]
        simp
      · rw [msb_big l (i + k2) (by omega)]
        by_cases hik : i + k < 64
        · rw [if_neg (by omega), show decide (i < 64 - k) = true by simp; omega]
          simp
        · rw [if_pos (by omega), msb_big h (i + k) (by omega), show decide (i < 64 - k) = false by simp; omega, show i - (64 - k) = i + k - 64 by omega]
          simp
    · rcases e2 with ⟨c, d⟩ | ⟨c, d⟩
      · subst d
        rw [if_pos (by omega), msb_big h (i + k) (by omega), show decide (i < k1) = true by simp; omega, show i + (k - 64) = i + k - 64 by omega]
        simp
      · omega

/-- A row moved by n to the right, or by -n to the left. -/
def mv (r : BitVec 128) (n : Int) : BitVec 128 := if n < 0 then r <<< (-n).toNat else r >>> n.toNat
/-- The row in which the first n pixels are set. -/
def firsts (n : Int) : BitVec 128 := mv (BitVec.allOnes 128) (n - 128)
/-- The row in which the pixel x alone is set. -/
def pixel (x : Int) : BitVec 128 := mv (BitVec.twoPow 128 127) x
def shift (r : BitVec 128) (n width : Int) : BitVec 128 := mv r n &&& firsts width
/-- The pixel x of a row. -/
def px (r : BitVec 128) (x : Nat) : Bool := r.getMsbD x
theorem px_ext {r s : BitVec 128} (h : ∀ x, x < 128 → px r x = px s x) : r = s := BitVec.eq_of_getMsbD_eq h
theorem px_big (r : BitVec 128) (x : Nat) (h : 128 ≤ x) : px r x = false := msb_big r x h
theorem px_and (r s : BitVec 128) (x : Nat) : px (r &&& s) x = (px r x && px s x) := BitVec.getMsbD_and
theorem px_xor (r s : BitVec 128) (x : Nat) : px (r ^^^ s) x = (px r x ^^ px s x) := BitVec.getMsbD_xor
theorem px_zero (x : Nat) : px 0#128 x = false := by simp [px]
/-- The pixel at a position that may lie outside. -/
def pxi (r : BitVec 128) (x : Int) : Bool := decide (0 ≤ x) && px r x.toNat
theorem px_mv (r : BitVec 128) (n : Int) (x : Nat) (hx : x < 128) : px (mv r n) x = pxi r (x - n) := by
  unfold mv px pxi px
  split
  · rw [BitVec.getMsbD_shiftLeft, decide_eq_true (by omega), show ((x : Int) - n).toNat = x + (-n).toNat by omega]; rfl
  · rw [BitVec.getMsbD_ushiftRight, decide_eq_true hx]
    by_cases h : x < n.toNat
    · rw [decide_eq_true h, decide_eq_false (by omega)]; rfl
    · rw [decide_eq_false h, decide_eq_true (by omega), show ((x : Int) - n).toNat = x - n.toNat by omega]; rfl
theorem px_firsts (n : Int) (x : Nat) (hx : x < 128) (hn : n ≤ 128) : px (firsts n) x = decide ((x : Int) < n) := by
  unfold firsts
  rw [px_mv _ _ _ hx, pxi, px, BitVec.getMsbD_allOnes, Bool.eq_iff_iff]
  simp
  omega
theorem px_pixel (n : Int) (x : Nat) (hx : x < 128) : px (pixel n) x = decide ((x : Int) = n) := by
  unfold pixel
  rw [px_mv _ _ _ hx, pxi, px, BitVec.getMsbD_eq_getLsbD, BitVec.getLsbD_twoPow, Bool.eq_iff_iff]
  simp
  omega
theorem px_shift (r : BitVec 128) (n width : Int) (x : Nat) (hx : x < 128) (hn : width ≤ 128) : px (shift r n width) x = (pxi r (x - n) && decide ((x : Int) < width)) := by
  unfold shift
  rw [px_and, px_mv _ _ _ hx, px_firsts _ _ hx hn]
/-- Is no pixel set? -/
theorem get_eq (r : BitVec 128) (x : Int) : decide (r &&& pixel x = 0#128) = !(pxi r x) := by
  rw [Bool.eq_iff_iff]
  simp only [decide_eq_true_eq, Bool.not_eq_true']
  constructor
  · intro h
    by_cases hx : 0 ≤ x ∧ x < 128
    · have := congrArg (fun s => px s x.toNat) h
      simp only [px_and, px_zero] at this
      rw [px_pixel _ _ (by omega), decide_eq_true (by omega)] at this
      simpa [pxi] using fun _ => by simpa using this
    · by_cases h0 : 0 ≤ x
      · simp [pxi, px_big r x.toNat (by omega)]
      · simp [pxi, h0]
  · intro h
    apply px_ext
    intro y hy
    rw [px_and, px_pixel _ _ hy, px_zero]
    by_cases he : (y : Int) = x
    · subst he
      simp [pxi] at h
      simp [h]
    · simp [he]
/-- A row with the pixel x set to b. -/
def setPx (r : BitVec 128) (x : Int) (b : Bool) : BitVec 128 := if b then (r ^^^ (r &&& pixel x)) ^^^ (firsts 128 &&& pixel x) else r ^^^ (r &&& pixel x)
theorem px_setPx (r : BitVec 128) (x : Int) (b : Bool) (y : Nat) (hy : y < 128) : px (setPx r x b) y = if (y : Int) = x then b else px r y := by
  unfold setPx
  cases b
  · rw [if_neg (by simp), px_xor, px_and, px_pixel _ _ hy]
    split <;> rename_i h <;> simp [h]
  · rw [if_pos rfl, px_xor, px_xor, px_and, px_and, px_pixel _ _ hy, px_firsts _ _ hy (by decide)]
    split <;> rename_i h <;> simp [h]
    omega
theorem zero_hi_lo : (0#64 ++ 0#64 : BitVec 128) = 0#128 := by decide
theorem rv_zero : rv 0#128 = .agg #[.int .u64 0, .int .u64 0] := by rw [← zero_hi_lo, rv_append]; rfl
end Go.Proofs.Ytplmmfgmbfcjpaa.Num
