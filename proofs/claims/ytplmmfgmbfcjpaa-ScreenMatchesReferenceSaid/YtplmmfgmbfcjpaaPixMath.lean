/- Rows of 128 pixels, pixel by pixel: shifts, patterns of sprite rows, counts. Nothing of the program. -/
import Derived.Test.YtplmmfgmbfcjpaaPopNum
namespace Go.Proofs.Ytplmmfgmbfcjpaa.Num
set_option linter.unusedVariables false
set_option linter.unusedSimpArgs false
open Go.RowKit

/-- The pixels of a pattern that are drawn behind k rounds. -/
def spF (b c x m : Nat) (clip : Bool) (k j : Nat) : Bool :=
  (decide (x ≤ j ∧ j < x + c ∧ j < m ∧ c + x ≤ j + k) && b.testBit (c - 1 - (j - x))) || (!clip && (decide (j + m < x + c ∧ c + x ≤ j + m + k) && b.testBit (c - 1 - (j + m - x))))
theorem spF_zero (b c x m : Nat) (clip : Bool) (j : Nat) (hc : 0 < c) : spF b c x m clip 0 j = false := by
  unfold spF
  rw [decide_eq_false (by omega), decide_eq_false (by omega)]
  cases clip <;> rfl
/-- One round more: the pixel of the bit k, if it is drawn. -/
theorem spF_in (b c x m : Nat) (clip : Bool) (k j : Nat) (hk : k < c) (hm : c ≤ m) (hx : x < m) (h : x + (c - 1 - k) < m) :
    spF b c x m clip (k + 1) j = if j = x + (c - 1 - k) then b.testBit k else spF b c x m clip k j := by
  by_cases e : j = x + (c - 1 - k)
  · rw [if_pos e]
    unfold spF
    rw [decide_eq_true (by omega), decide_eq_false (p := j + m < x + c ∧ _) (by omega), show c - 1 - (j - x) = k by omega]
    cases clip <;> simp
  · rw [if_neg e]
    unfold spF
    rw [show decide (x ≤ j ∧ j < x + c ∧ j < m ∧ c + x ≤ j + (k + 1)) = decide (x ≤ j ∧ j < x + c ∧ j < m ∧ c + x ≤ j + k) by congr 1; simp; omega,
      show decide (j + m < x + c ∧ c + x ≤ j + m + (k + 1)) = decide (j + m < x + c ∧ c + x ≤ j + m + k) by congr 1; simp; omega]
theorem spF_out (b c x m : Nat) (k j : Nat) (hk : k < c) (hm : c ≤ m) (hx : x < m) (h : m ≤ x + (c - 1 - k)) :
    spF b c x m false (k + 1) j = if j = x + (c - 1 - k) - m then b.testBit k else spF b c x m false k j := by
  by_cases e : j = x + (c - 1 - k) - m
  · rw [if_pos e]
    unfold spF
    rw [decide_eq_false (p := x ≤ j ∧ _) (by omega), decide_eq_true (by omega), show c - 1 - (j + m - x) = k by omega]
    simp
  · rw [if_neg e]
    unfold spF
    rw [show decide (x ≤ j ∧ j < x + c ∧ j < m ∧ c + x ≤ j + (k + 1)) = decide (x ≤ j ∧ j < x + c ∧ j < m ∧ c + x ≤ j + k) by congr 1; simp; omega,
      show decide (j + m < x + c ∧ c + x ≤ j + m + (k + 1)) = decide (j + m < x + c ∧ c + x ≤ j + m + k) by congr 1; simp; omega]
theorem spF_lost (b c x m : Nat) (k j : Nat) (hk : k < c) (hm : c ≤ m) (hx : x < m) (h : m ≤ x + (c - 1 - k)) :
    spF b c x m true (k + 1) j = spF b c x m true k j := by
  unfold spF
  rw [show decide (x ≤ j ∧ j < x + c ∧ j < m ∧ c + x ≤ j + (k + 1)) = decide (x ≤ j ∧ j < x + c ∧ j < m ∧ c + x ≤ j + k) by congr 1; simp; omega]
  rfl
theorem spF_off (b c x m : Nat) (clip : Bool) (k j : Nat) (hk : k < c) (hm : c ≤ m) (hx : x < m) (hb : b.testBit k = false) : spF b c x m clip (k + 1) j = spF b c x m clip k j := by
  by_cases h : x + (c - 1 - k) < m
  · rw [spF_in b c x m clip k j hk hm hx h]
    split
    · rename_i e
      rw [hb]
      unfold spF
      rw [decide_eq_false (by omega), decide_eq_false (by omega)]
      cases clip <;> rfl
    · rfl
  · cases clip
    · rw [spF_out b c x m k j hk hm hx (by omega)]
      split
      · rename_i e
        rw [hb]
        unfold spF
        rw [decide_eq_false (by omega), decide_eq_false (by omega)]
        rfl
      · rfl
    · exact spF_lost b c x m k j hk hm hx (by omega)

/-- The last c bits of b, as the first pixels of a row. -/
def sp0 (b c : Nat) : BitVec 128 := (BitVec.ofNat 64 b <<< (64 - c)) ++ 0#64
def sprite (b c x m : Nat) (clip : Bool) : BitVec 128 := if clip then shift (sp0 b c) x m else shift (sp0 b c) x m ^^^ mv (sp0 b c) ((x : Int) - m)
theorem px_sp0 (b c i : Nat) (c1 : c ≤ 16) : px (sp0 b c) i = (decide (i < c) && b.testBit (c - 1 - i)) := by
  unfold sp0 px
  rw [BitVec.getMsbD_append]
  split
  · rw [decide_eq_false (by omega)]; simp
  · rw [BitVec.getMsbD_shiftLeft, BitVec.getMsbD_eq_getLsbD, BitVec.getLsbD_ofNat]
    by_cases h : i < c
    · rw [decide_eq_true (by omega), decide_eq_true (by omega), decide_eq_true h, show 64 - 1 - (i + (64 - c)) = c - 1 - i by omega]
      simp
    · rw [decide_eq_false (p := i + (64 - c) < 64) (by omega), decide_eq_false h]; rfl
theorem pxi_sp0 (b c : Nat) (i : Int) (c1 : c ≤ 16) : pxi (sp0 b c) i = (decide (0 ≤ i ∧ i < c) && b.testBit (c - 1 - i.toNat)) := by
  unfold pxi
  rw [px_sp0 b c _ c1]
  by_cases h : 0 ≤ i
  · rw [decide_eq_true h, show decide (i.toNat < c) = decide (0 ≤ i ∧ i < c) by congr 1; simp; omega]; rfl
  · rw [decide_eq_false h, decide_eq_false (p := 0 ≤ i ∧ i < (c : Int)) (by omega)]; rfl
theorem px_sprite (b c x m : Nat) (clip : Bool) (c1 : c ≤ 16) (hm : 16 ≤ m) (m1 : m ≤ 128) (hx : x < m) (j : Nat) (hj : j < 128) : px (sprite b c x m clip) j = spF b c x m clip c j := by
  have e1 : px (shift (sp0 b c) x m) j = (decide (x ≤ j ∧ j < x + c ∧ j < m ∧ c + x ≤ j + c) && b.testBit (c - 1 - (j - x))) := by
    rw [px_shift _ _ _ _ hj (by omega), pxi_sp0 _ _ _ c1, show ((j : Int) - (x : Int)).toNat = j - x by omega]
    by_cases h : x ≤ j ∧ j < x + c ∧ j < m
    · rw [decide_eq_true (p := 0 ≤ (j : Int) - x ∧ (j : Int) - x < c) (by omega), decide_eq_true (p := (j : Int) < (m : Int)) (by omega), decide_eq_true (by omega)]
      simp
    · rw [decide_eq_false (p := x ≤ j ∧ _) (by omega)]
      by_cases h2 : (j : Int) < (m : Int)
      · rw [decide_eq_false (p := 0 ≤ (j : Int) - x ∧ (j : Int) - x < c) (by omega)]; rfl
      · rw [decide_eq_false h2]; simp
  have e2 : px (mv (sp0 b c) ((x : Int) - m)) j = (decide (j + m < x + c ∧ c + x ≤ j + m + c) && b.testBit (c - 1 - (j + m - x))) := by
    rw [px_mv _ _ _ hj, pxi_sp0 _ _ _ c1, show ((j : Int) - ((x : Int) - (m : Int))).toNat = j + m - x by omega,
      show decide (0 ≤ (j : Int) - ((x : Int) - (m : Int)) ∧ (j : Int) - ((x : Int) - (m : Int)) < c) = decide (j + m < x + c ∧ c + x ≤ j + m + c) by congr 1; simp; omega]
  unfold sprite spF
  cases clip
  · rw [if_neg (by simp), px_xor, e1, e2]
    by_cases h : x ≤ j
    · rw [decide_eq_false (p := j + m < x + c ∧ _) (by omega)]
      simp
    · rw [decide_eq_false (p := x ≤ j ∧ _) (by omega)]
      simp
  · rw [if_pos rfl, e1]
    simp
theorem pxi_neg (r : BitVec 128) (i : Int) (h : i < 0) : pxi r i = false := by
  rw [pxi, decide_eq_false (by omega), Bool.false_and]
theorem pxi_nat (r : BitVec 128) (i : Nat) : pxi r (i : Int) = px r i := by
  rw [pxi, decide_eq_true (by omega), Bool.true_and, Int.toNat_natCast]
theorem pxi_shift (r : BitVec 128) (n m i : Int) (hm : m ≤ 128) : pxi (shift r n m) i = (decide (0 ≤ i ∧ i < m) && pxi r (i - n)) := by
  by_cases h0 : 0 ≤ i
  · obtain ⟨k, rfl⟩ := Int.eq_ofNat_of_zero_le h0
    rw [pxi_nat]
    by_cases hk : k < 128
    · rw [px_shift _ _ _ _ hk hm]
      by_cases hlt : (k : Int) < m
      · rw [decide_eq_true hlt, decide_eq_true (p := 0 ≤ (k : Int) ∧ (k : Int) < m) (by omega), Bool.and_true, Bool.true_and]
      · rw [decide_eq_false hlt, decide_eq_false (p := 0 ≤ (k : Int) ∧ (k : Int) < m) (by omega), Bool.and_false, Bool.false_and]
    · rw [px_big _ _ (by omega), decide_eq_false (by omega), Bool.false_and]
  · rw [pxi_neg _ _ (by omega), decide_eq_false (by omega), Bool.false_and]
theorem pxi_ext {r s : BitVec 128} (h : ∀ i : Int, pxi r i = pxi s i) : r = s := px_ext fun x _ => by rw [← pxi_nat, ← pxi_nat]; exact h x
/-- A row of a width. -/
def OfWidth (r : BitVec 128) (m : Nat) : Prop := ∀ i : Int, m ≤ i → pxi r i = false
theorem twice_right (r : BitVec 128) (a b m : Nat) (hm : m ≤ 128) : shift (shift r a m) b m = shift r ((a : Int) + b) m := pxi_ext fun i => by
  rw [pxi_shift _ _ _ _ (by omega), pxi_shift _ _ _ _ (by omega), pxi_shift _ _ _ _ (by omega), show i - (b : Int) - (a : Int) = i - ((a : Int) + b) by omega]
  by_cases h : 0 ≤ i ∧ i < (m : Int)
  · by_cases h2 : 0 ≤ i - (b : Int) ∧ i - (b : Int) < (m : Int)
    · rw [decide_eq_true h2, Bool.true_and]
    · rw [decide_eq_false h2, Bool.false_and, pxi_neg _ (i - ((a : Int) + b)) (by omega)]
  · rw [decide_eq_false h, Bool.false_and, Bool.false_and]
theorem twice_left (r : BitVec 128) (a b m : Nat) (hm : m ≤ 128) (hr : OfWidth r m) : shift (shift r (-(a : Int)) m) (-(b : Int)) m = shift r (-(a : Int) - b) m := pxi_ext fun i => by
  rw [pxi_shift _ _ _ _ (by omega), pxi_shift _ _ _ _ (by omega), pxi_shift _ _ _ _ (by omega), show i - -(b : Int) - -(a : Int) = i - (-(a : Int) - b) by omega]
  by_cases h : 0 ≤ i ∧ i < (m : Int)
  · by_cases h2 : 0 ≤ i - -(b : Int) ∧ i - -(b : Int) < (m : Int)
    · rw [decide_eq_true h2, Bool.true_and]
    · rw [decide_eq_false h2, Bool.false_and, hr (i - (-(a : Int) - b)) (by omega)]
  · rw [decide_eq_false h, Bool.false_and, Bool.false_and]
theorem there_back (r : BitVec 128) (a m k : Nat) (hm : m ≤ 128) (hr : OfWidth r m) : pxi (shift (shift r a m) (-(a : Int)) m) k = (pxi r k && decide ((k : Int) + (a : Int) < (m : Int))) := by
  rw [pxi_shift _ _ _ _ (by omega), pxi_shift _ _ _ _ (by omega), show (k : Int) - -(a : Int) - (a : Int) = (k : Int) by omega]
  by_cases h2 : (k : Int) + (a : Int) < (m : Int)
  · rw [decide_eq_true h2, decide_eq_true (by omega), decide_eq_true (by omega), Bool.true_and, Bool.true_and, Bool.and_true]
  · rw [decide_eq_false h2, decide_eq_false (p := 0 ≤ (k : Int) - -(a : Int) ∧ _) (by omega), Bool.false_and, Bool.and_false, Bool.and_false]
theorem shift_zero (r : BitVec 128) (m : Nat) (hm : m ≤ 128) (hr : OfWidth r m) : shift r 0 m = r := pxi_ext fun i => by
  rw [pxi_shift _ _ _ _ (by omega), show i - 0 = i by omega]
  by_cases h : 0 ≤ i ∧ i < (m : Int)
  · rw [decide_eq_true h, Bool.true_and]
  · rw [decide_eq_false h, Bool.false_and]
    by_cases h0 : 0 ≤ i
    · rw [hr i (by omega)]
    · rw [pxi_neg _ _ (by omega)]
theorem pxi_zero (i : Int) : pxi 0#128 i = false := by rw [pxi, px_zero, Bool.and_false]
theorem shift_all (r : BitVec 128) (m : Nat) (hm : m ≤ 128) : shift r m m = 0#64 ++ 0#64 := by
  rw [zero_hi_lo]
  refine pxi_ext fun i => ?_
  rw [pxi_shift _ _ _ _ (by omega), pxi_zero]
  by_cases h : 0 ≤ i ∧ i < (m : Int)
  · rw [pxi_neg _ (i - (m : Int)) (by omega), Bool.and_false]
  · rw [decide_eq_false h, Bool.false_and]
theorem shift_all_left (r : BitVec 128) (m : Nat) (hm : m ≤ 128) (hr : OfWidth r m) : shift r (-(m : Int)) m = 0#64 ++ 0#64 := by
  rw [zero_hi_lo]
  refine pxi_ext fun i => ?_
  rw [pxi_shift _ _ _ _ (by omega), pxi_zero]
  by_cases h : 0 ≤ i ∧ i < (m : Int)
  · rw [hr (i - -(m : Int)) (by omega), Bool.and_false]
  · rw [decide_eq_false h, Bool.false_and]
theorem px_start (b c m : Nat) (c1 : c ≤ 16) (hm : 16 ≤ m) (m1 : m ≤ 128) : sprite b c 0 m true = sp0 b c := by
  apply px_ext
  intro j hj
  rw [px_sprite b c 0 m true c1 hm m1 (by omega) j hj, px_sp0 b c j c1]
  unfold spF
  rw [show decide (0 ≤ j ∧ j < 0 + c ∧ j < m ∧ c + 0 ≤ j + c) = decide (j < c) by congr 1; simp; omega]
  simp
theorem moves_clip (b c x m : Nat) (c1 : c ≤ 16) (hm : 16 ≤ m) (m1 : m ≤ 128) : shift (sprite b c 0 m true) x m = sprite b c x m true := by
  rw [px_start b c m c1 hm m1]
  rfl
theorem moves_lost (b c x m : Nat) (c1 : c ≤ 16) (hm : 16 ≤ m) (m1 : m ≤ 128) (hx : x < m) : shift (sprite b c 0 m true) ((x : Int) - m) m = mv (sp0 b c) ((x : Int) - m) := by
  rw [px_start b c m c1 hm m1]
  apply px_ext
  intro j hj
  rw [px_shift _ _ _ _ hj (by omega), px_mv _ _ _ hj]
  by_cases h : (j : Int) < (m : Int)
  · rw [decide_eq_true h]; simp
  · rw [decide_eq_false h, pxi_sp0 b c _ c1, decide_eq_false (by omega)]; rfl
theorem moves_wrap (b c x m : Nat) (c1 : c ≤ 16) (hm : 16 ≤ m) (m1 : m ≤ 128) (hx : x < m) : sprite b c x m true ^^^ shift (sprite b c 0 m true) ((x : Int) - m) m = sprite b c x m false := by
  rw [moves_lost b c x m c1 hm m1 hx]
  rfl
theorem moves_and (b c x m : Nat) (c1 : c ≤ 16) (hm : 16 ≤ m) (m1 : m ≤ 128) (hx : x < m) : sprite b c x m true &&& shift (sprite b c 0 m true) ((x : Int) - m) m = 0#64 ++ 0#64 := by
  rw [moves_lost b c x m c1 hm m1 hx, zero_hi_lo]
  apply px_ext
  intro j hj
  rw [px_and, px_zero, px_sprite b c x m true c1 hm m1 hx j hj, px_mv _ _ _ hj, pxi_sp0 b c _ c1]
  unfold spF
  by_cases h : x ≤ j
  · rw [decide_eq_false (p := 0 ≤ (j : Int) - ((x : Int) - (m : Int)) ∧ _) (by omega)]
    simp
  · rw [decide_eq_false (p := x ≤ j ∧ _) (by omega)]
    simp

theorem set_out (r : BitVec 128) (x : Int) (b : Bool) (h : x < 0 ∨ 128 ≤ x) : setPx r x b = r := px_ext fun j hj => by
  rw [px_setPx _ _ _ _ hj, if_neg (by omega)]
theorem get_out (r : BitVec 128) (x : Int) (h : x < 0 ∨ 128 ≤ x) : pxi r x = false := by
  by_cases h0 : 0 ≤ x
  · rw [pxi, px_big _ _ (by omega), Bool.and_false]
  · exact pxi_neg _ _ (by omega)
theorem set_again (r : BitVec 128) (x : Int) (b : Bool) : setPx (setPx r x b) x b = setPx r x b := px_ext fun j hj => by
  rw [px_setPx _ _ _ _ hj, px_setPx _ _ _ _ hj]
  split <;> rfl
theorem set_get (r : BitVec 128) (x : Nat) (b : Bool) (hx : x < 128) : pxi (setPx r x b) x = b := by
  rw [pxi_nat, px_setPx _ _ _ _ hx, if_pos rfl]

theorem count_vars {x y z m : BitVec 128} (hz : x ^^^ y = z) (hm : x &&& y = m) : ∃ n1 n2 n3 n4 : Nat, cnt z = n1 ∧ cnt x = n2 ∧ cnt y = n3 ∧ cnt m = n4 ∧ n1 + 2 * n4 = n2 + n3 ∧ n1 ≤ 128 ∧ n2 ≤ 128 ∧ n3 ≤ 128 ∧ n4 ≤ 128 := by
  subst hz
  subst hm
  exact ⟨_, _, _, _, rfl, rfl, rfl, rfl, cnt_xor x y, cnt_le _, cnt_le _, cnt_le _, cnt_le _⟩

theorem count_sums {n1 n2 n3 n4 : Nat} (h : n1 + 2 * n4 = n2 + n3) (q1 : n1 ≤ 128) (q2 : n2 ≤ 128) (q3 : n3 ≤ 128) (q4 : n4 ≤ 128) :
    ∃ s d : Int, IntKind.i64.wrap ((n2 : Int) + (n3 : Int)) = s ∧ IntKind.i64.wrap (2 * (n4 : Int)) = d ∧ IntKind.i64.wrap (s - d) = (n1 : Int) :=
  ⟨(n2 : Int) + n3, 2 * n4, by rw [IntKind.wrap_i64]; omega, by rw [IntKind.wrap_i64]; omega, by rw [IntKind.wrap_i64]; omega⟩

theorem empty_count {r : BitVec 128} {K : Nat} (h : cnt r = K) : decide (r = 0#128) = decide (K = 0) := by
  rw [Bool.eq_iff_iff, decide_eq_true_eq, decide_eq_true_eq, ← cnt_zero, h]

theorem word_of (n : Int) (h0 : 0 ≤ n) (h1 : n ≤ 18446744073709551615) : ∃ u : BitVec 64, n = (u.toNat : Int) := ⟨BitVec.ofNat 64 n.toNat, by rw [BitVec.toNat_ofNat]; omega⟩
theorem words (r : BitVec 128) : ∃ h l : BitVec 64, r = h ++ l := ⟨hi r, lo r, (hi_lo r).symm⟩
theorem bd_u64 {a : Int} (h : (Lit.int .u64 a).wf = true) : 0 ≤ a ∧ a ≤ 18446744073709551615 := by
  simp [Lit.wf, IntKind.min, IntKind.max, IntKind.signed, IntKind.bits] at h
  omega
end Go.Proofs.Ytplmmfgmbfcjpaa.Num
