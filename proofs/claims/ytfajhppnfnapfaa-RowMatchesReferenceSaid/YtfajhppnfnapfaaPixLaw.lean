/- The pattern of a sprite row, pixel by pixel, and the contract of Sprite. -/
import Derived.Test.YtfajhppnfnapfaaPix4
import Derived.Test.YtfajhppnfnapfaaPixRef2
namespace Go.Proofs.Ytfajhppnfnapfaa
open Go.RowKit Num
set_option linter.unusedVariables false
set_option linter.unusedSimpArgs false

/-- The last c bits of b, as the first pixels of a row. -/
def sp0 (b c : Nat) : BitVec 128 := (BitVec.ofNat 64 b <<< (64 - c)) ++ 0#64
def sprite (b c x m : Nat) (clip : Bool) : BitVec 128 := if clip then shift (sp0 b c) x m else shift (sp0 b c) x m ^^^ mv (sp0 b c) ((x : Int) - m)
theorem px_sp0 (b c i : Nat) (c1 : c ≤ 16) : px (sp0 b c) i = (decide (i < c) && b.testBit (c - 1 - i)) := by
  unfold sp0 px
  rw [BitVec.getMsbD_append]
  split
  · rw [decide_eq_false (by omega)]; simp
  · rw [BitVec.getMsbD_shiftLeft, BitVec.getMsbD_eq_getLsbD, BitVec.getLsbD_ofNat]
    by_cases h : i < c
    · rw [decide_eq_true (by omega), decide_eq_true (by omega), decide_eq_true h, show 64 - 1 - (i + (64 - c)) = c - 1 - i by omega]
      simp
    · rw [decide_eq_false (p := i + (64 - c) < 64) (by omega), decide_eq_false h]; rfl
theorem pxi_sp0 (b c : Nat) (i : Int) (c1 : c ≤ 16) : pxi (sp0 b c) i = (decide (0 ≤ i ∧ i < c) && b.testBit (c - 1 - i.toNat)) := by
  unfold pxi
  rw [px_sp0 b c _ c1]
  by_cases h : 0 ≤ i
  · rw [decide_eq_true h, show decide (i.toNat < c) = decide (0 ≤ i ∧ i < c) by congr 1; simp; omega]; rfl
  · rw [decide_eq_false h, decide_eq_false (p := 0 ≤ i ∧ i < (c : Int)) (by omega)]; rfl
theorem px_sprite (b c x m : Nat) (clip : Bool) (c1 : c ≤ 16) (hm : 16 ≤ m) (m1 : m ≤ 128) (hx : x < m) (j : Nat) (hj : j < 128) : px (sprite b c x m clip) j = spF b c x m clip c j := by
  have e1 : px (shift (sp0 b c) x m) j = (decide (x ≤ j ∧ j < x + c ∧ j < m ∧ c + x ≤ j + c) && b.testBit (c - 1 - (j - x))) := by
    rw [px_shift _ _ _ _ hj (by omega), pxi_sp0 _ _ _ c1, show ((j : Int) - (x : Int)).toNat = j - x by omega]
    by_cases h : x ≤ j ∧ j < x + c ∧ j < m
    · rw [decide_eq_true (p := 0 ≤ (j : Int) - x ∧ (j : Int) - x < c) (by omega), decide_eq_true (p := (j : Int) < (m : Int)) (by omega), decide_eq_true (by omega)]
      simp
    · rw [decide_eq_false (p := x ≤ j ∧ _) (by omega)]
      by_cases h2 : (j : Int) < (m : Int)
      · rw [decide_eq_false (p := 0 ≤ (j : Int) - x ∧ (j : Int) - x < c) (by omega)]; rfl
      · rw [decide_eq_false h2]; simp
  have e2 : px (mv (sp0 b c) ((x : Int) - m)) j = (decide (j + m < x + c ∧ c + x ≤ j + m + c) && b.testBit (c - 1 - (j + m - x))) := by
    rw [px_mv _ _ _ hj, pxi_sp0 _ _ _ c1, show ((j : Int) - ((x : Int) - (m : Int))).toNat = j + m - x by omega,
      show decide (0 ≤ (j : Int) - ((x : Int) - (m : Int)) ∧ (j : Int) - ((x : Int) - (m : Int)) < c) = decide (j + m < x + c ∧ c + x ≤ j + m + c) by congr 1; simp; omega]
  unfold sprite spF
  cases clip
  · rw [if_neg (by simp), px_xor, e1, e2]
    by_cases h : x ≤ j
    · rw [decide_eq_false (p := j + m < x + c ∧ _) (by omega)]
      simp
    · rw [decide_eq_false (p := x ≤ j ∧ _) (by omega)]
      simp
  · rw [if_pos rfl, e1]
    simp
theorem sprite_any (b c x m : Nat) (clip : Bool) (w : World) (hc : c = 8 ∨ c = 16) (b1 : b ≤ 65535) (x1 : x ≤ 128) (m1 : m ≤ 128) :
    Calls Try.prog 16 #[.int .u16 (b : Int), .int .i64 (c : Int), .int .i64 (x : Int), .int .i64 (m : Int), .bool clip] w fun e w' => e = .returned (rv (sprite b c x m clip)) ∧ Below w.heap.size w w' := by
  obtain ⟨m1', m2', em⟩ := words (firsts m)
  obtain ⟨i1, i2, ei⟩ := words (shift (sp0 b c) x m)
  obtain ⟨j1, j2, ej⟩ := words (mv (sp0 b c) ((x : Int) - m))
  have hp : ∀ k : Nat, IntKind.u64.wrap ((b : Int) * 2 ^ min k 64) = ((BitVec.ofNat 64 b <<< k).toNat : Int) := fun k => by
    have h := shl64 (BitVec.ofNat 64 b) k
    rw [BitVec.toNat_ofNat, Nat.mod_eq_of_lt (by omega)] at h
    rw [IntKind.wrap_u64]
    exact h
  unfold sprite
  cases clip
  · rw [if_neg (by simp), ei, ej, app_xor, rv_append]
    rcases hc with rfl | rfl
    · exact sprite_8_false b x m _ m1' m2' i1 i2 j1 j2 _ _ ej rfl rfl w (hp 56) (by omega) (by omega) (by omega) (by omega) (by omega) (by omega) em ei
    · exact sprite_16_false b x m _ m1' m2' i1 i2 j1 j2 _ _ ej rfl rfl w (hp 48) (by omega) (by omega) (by omega) (by omega) (by omega) (by omega) em ei
  · rw [if_pos rfl, ei, rv_append]
    rcases hc with rfl | rfl
    · exact sprite_8_true b x m _ m1' m2' i1 i2 w (hp 56) (by omega) (by omega) (by omega) (by omega) (by omega) (by omega) em ei
    · exact sprite_16_true b x m _ m1' m2' i1 i2 w (hp 48) (by omega) (by omega) (by omega) (by omega) (by omega) (by omega) em ei
end Go.Proofs.Ytfajhppnfnapfaa
