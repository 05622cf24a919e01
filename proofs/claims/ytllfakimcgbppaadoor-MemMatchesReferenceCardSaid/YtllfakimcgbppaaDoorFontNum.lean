/- The bytes of the fonts, their glyphs, and digits of base 16: plain lists. -/
import Derived.Test.YtllfakimcgbppaaDoorNum
namespace Go.Proofs.YtllfakimcgbppaaDoor
set_option linter.unusedVariables false

def smallL : List Int := [240, 144, 144, 144, 240, 32, 96, 32, 32, 112, 240, 16, 240, 128, 240, 240, 16, 240, 16, 240, 144, 144, 240, 16, 16, 240, 128, 240, 16, 240, 240, 128, 240, 144, 240, 240, 16, 32, 64, 64, 240, 144, 240, 144, 240, 240, 144, 240, 16, 240, 240, 144, 240, 144, 144, 224, 144, 224, 144, 224, 240, 128, 128, 128, 240, 224, 144, 144, 144, 224, 240, 128, 240, 128, 240, 240, 128, 240, 128, 128]
def bigL : List Int := [60, 126, 231, 195, 195, 195, 195, 231, 126, 60, 24, 56, 88, 24, 24, 24, 24, 24, 24, 60, 62, 127, 195, 6, 12, 24, 48, 96, 255, 255, 60, 126, 195, 3, 14, 14, 3, 195, 126, 60, 6, 14, 30, 54, 102, 198, 255, 255, 6, 6, 255, 255, 192, 192, 252, 254, 3, 195, 126, 60, 62, 124, 224, 192, 252, 254, 195, 195, 126, 60, 255, 255, 3, 6, 12, 24, 48, 96, 96, 96, 60, 126, 195, 195, 126, 126, 195, 195, 126, 60, 60, 126, 195, 195, 127, 63, 3, 3, 62, 124, 126, 255, 195, 195, 195, 255, 255, 195, 195, 195, 252, 252, 195, 195, 252, 252, 195, 195, 252, 252, 60, 255, 195, 192, 192, 192, 192, 195, 255, 60, 252, 254, 195, 195, 195, 195, 195, 195, 254, 252, 255, 255, 192, 192, 255, 255, 192, 192, 255, 255, 255, 255, 192, 192, 255, 255, 192, 192, 192, 192]
/-- The small and the big glyph of a digit. -/
def smallG (k : Nat) : List Int := (smallL.drop (5 * k)).take 5
def bigG (k : Nat) : List Int := (bigL.drop (10 * k)).take 10
theorem smallL_len : smallL.length = 80 := by decide +kernel
theorem bigL_len : bigL.length = 160 := by decide +kernel
theorem smallG_len {k : Nat} (h : k < 16) : (smallG k).length = 5 := by simp [smallG, smallL_len]; omega
theorem bigG_len {k : Nat} (h : k < 16) : (bigG k).length = 10 := by simp [bigG, bigL_len]; omega
theorem small_take (k : Nat) : smallL.take (5 * (k + 1)) = smallL.take (5 * k) ++ smallG k := by rw [Nat.mul_add]; exact List.take_add
theorem big_take (k : Nat) : bigL.take (10 * (k + 1)) = bigL.take (10 * k) ++ bigG k := by rw [Nat.mul_add]; exact List.take_add
theorem smallG_get {k j : Nat} (hj : j < (smallG k).length) (h : 5 * k + j < smallL.length) : (smallG k)[j] = smallL[5 * k + j] := by simp [smallG]
theorem bigG_get {k j : Nat} (hj : j < (bigG k).length) (h : 10 * k + j < bigL.length) : (bigG k)[j] = bigL[10 * k + j] := by simp [bigG]
theorem five {L : List Int} (h : L.length = 5) : ∃ x0 x1 x2 x3 x4, L = [x0, x1, x2, x3, x4] := by
  match L, h with
  | [x0, x1, x2, x3, x4], _ => exact ⟨x0, x1, x2, x3, x4, rfl⟩
theorem ten {L : List Int} (h : L.length = 10) : ∃ x0 x1 x2 x3 x4 x5 x6 x7 x8 x9, L = [x0, x1, x2, x3, x4, x5, x6, x7, x8, x9] := by
  match L, h with
  | [x0, x1, x2, x3, x4, x5, x6, x7, x8, x9], _ => exact ⟨x0, x1, x2, x3, x4, x5, x6, x7, x8, x9, rfl⟩
/-- Different digits have different glyphs. -/
theorem smallG_ne : ∀ m n : Fin 16, decide (smallG m = smallG n) = decide (m = n) := by decide +kernel
theorem bigG_ne : ∀ m n : Fin 16, decide (bigG m = bigG n) = decide (m = n) := by decide +kernel
/-- The shapes. -/
theorem small_shape : ∀ k : Fin 16, (smallG k).all (fun x => decide (0 < x) && decide (x ≤ 255) && decide (x % 16 = 0)) = true ∧ (k.val = 1 ∨ k.val = 4 ∨ (smallG k).all (fun _ => decide (224 ≤ (smallG k).headD 0)) = true) := by decide +kernel
theorem big_shape : ∀ k : Fin 16, (bigG k).all (fun x => decide (0 < x) && decide (x ≤ 255)) = true := by decide +kernel

/-- The value of a digit. -/
def dig (c : Int) : Int := if 65 ≤ c then c - 55 else c - 48
theorem dig_range {c : Int} (h0 : 0 ≤ c) (h1 : c ≤ 255) : -48 ≤ dig c ∧ dig c ≤ 200 := by unfold dig; split <;> omega
def chr (s : ByteArray) (j : Nat) : Int := if h : j < s.size then (s[j].toNat : Int) else 0
theorem chr_range (s : ByteArray) (j : Nat) : 0 ≤ chr s j ∧ chr s j ≤ 255 := by
  unfold chr
  split
  · have := (s[j]).toNat_lt; omega
  · omega
/-- The first n bytes of a text of digits. -/
def hexB (s : ByteArray) (k : Nat) : Int := (16 * dig (chr s (2 * k)) + dig (chr s (2 * k + 1))) % 256
def hexL (s : ByteArray) (n : Nat) : List Int := (List.range n).map (hexB s)
theorem hexL_len (s : ByteArray) (n : Nat) : (hexL s n).length = n := by simp [hexL]
theorem hexL_succ (s : ByteArray) (n : Nat) : hexL s (n + 1) = hexL s n ++ [hexB s n] := by simp [hexL, List.range_succ]
end Go.Proofs.YtllfakimcgbppaaDoor
