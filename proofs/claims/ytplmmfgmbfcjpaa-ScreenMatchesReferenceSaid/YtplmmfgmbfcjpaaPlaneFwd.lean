/- Planes as lists of 8192 pixels, and their rows. Nothing of the program. -/
import Derived.Test.YtplmmfgmbfcjpaaPlaneNum
namespace Go.Proofs.Ytplmmfgmbfcjpaa.Num
set_option linter.unusedVariables false
set_option linter.unusedSimpArgs false
open Go.RowKit

/-- The number whose digits are the first k pixels, the first one the highest. -/
def acc (g : Nat → Bool) : Nat → Nat
  | 0 => 0
  | k + 1 => 2 * acc g k + (g k).toNat
theorem acc_lt (g : Nat → Bool) (k : Nat) : acc g k < 2 ^ k := by
  induction k with
  | zero => simp [acc]
  | succ k ih =>
    rw [acc, Nat.pow_succ]
    have := Bool.toNat_le (g k)
    omega
theorem acc_bit (g : Nat → Bool) (k j : Nat) : (acc g k).testBit j = (decide (j < k) && g (k - 1 - j)) := by
  induction k generalizing j with
  | zero => simp [acc]
  | succ k ih =>
    rw [acc]
    cases j with
    | zero =>
      rw [Nat.testBit_zero]
      cases hg : g k <;> simp [hg] <;> omega
    | succ j =>
      rw [Nat.testBit_succ, show (2 * acc g k + (g k).toNat) / 2 = acc g k by have := Bool.toNat_le (g k); omega, ih j, show k + 1 - 1 - (j + 1) = k - 1 - j by omega,
        show decide (j < k) = decide (j + 1 < k + 1) by congr 1; simp]
/-- A word of 64 pixels. -/
def wd (g : Nat → Bool) : BitVec 64 := BitVec.ofNat 64 (acc g 64)
theorem wd_nat (g : Nat → Bool) : (wd g).toNat = acc g 64 := by
  have := acc_lt g 64
  rw [wd, BitVec.toNat_ofNat, Nat.mod_eq_of_lt this]
theorem wd_msb (g : Nat → Bool) (i : Nat) (hi : i < 64) : (wd g).getMsbD i = g i := by
  rw [BitVec.getMsbD_eq_getLsbD, ← BitVec.testBit_toNat, wd_nat, acc_bit, decide_eq_true hi, decide_eq_true (by omega), show 64 - 1 - (64 - 1 - i) = i by omega, Bool.true_and, Bool.true_and]
/-- The plane of a list of pixels. -/
def fwd (f : Nat → Bool) : Pl := fun y => wd (fun i => f (128 * y + i)) ++ wd (fun i => f (128 * y + (64 + i)))
theorem px_fwd (f : Nat → Bool) (y x : Nat) (hx : x < 128) : px (fwd f y) x = f (128 * y + x) := by
  unfold fwd px
  rw [BitVec.getMsbD_append]
  split
  · rw [wd_msb _ _ (by omega), show 64 + (x - 64) = x by omega]
  · rw [wd_msb _ _ (by omega)]
theorem fwd_congr {f g : Nat → Bool} (h : ∀ i, i < 8192 → f i = g i) (y : Nat) (hy : y < 64) : fwd f y = fwd g y := px_ext fun x hx => by
  rw [px_fwd _ _ _ hx, px_fwd _ _ _ hx, h _ (by omega)]
/-- A list of pixels of a resolution. -/
def InRes (f : Nat → Bool) (m h : Nat) : Prop := ∀ i, f i = true → i % 128 < m ∧ i / 128 < h
theorem fwd_res {f : Nat → Bool} {m h : Nat} (hf : InRes f m h) : OfRes (fwd f) m h := by
  refine ⟨fun y i hi => ?_, fun y hy => px_ext fun x hx => ?_⟩
  · by_cases h0 : 0 ≤ i
    · obtain ⟨k, rfl⟩ := Int.eq_ofNat_of_zero_le h0
      rw [pxi_nat]
      by_cases hk : k < 128
      · rw [px_fwd _ _ _ hk]
        cases hg : f (128 * y + k)
        · rfl
        · have := (hf _ hg).1; omega
      · exact px_big _ _ (by omega)
    · exact pxi_neg _ _ (by omega)
  · rw [px_fwd _ _ _ hx, px_zero]
    cases hg : f (128 * y + x)
    · rfl
    · have := (hf _ hg).2; omega
theorem pcount_fwd (f : Nat → Bool) : pcount (fwd f) = pcn f (128 * 64) := by
  rw [pcn_rows]
  exact sm_congr 64 fun y hy => pcn_congr 128 fun x hx => px_fwd f y x hx

/-- The pixels of a scrolled list. -/
def rscF (f : Nat → Bool) (dx dy : Int) (m h : Nat) (i : Nat) : Bool :=
  decide ((i / 128 < h ∧ i % 128 < m) ∧ (0 ≤ ((i % 128 : Nat) : Int) - dx ∧ ((i % 128 : Nat) : Int) - dx < m) ∧ (0 ≤ ((i / 128 : Nat) : Int) - dy ∧ ((i / 128 : Nat) : Int) - dy < h)) && f (128 * (((i / 128 : Nat) : Int) - dy) + (((i % 128 : Nat) : Int) - dx)).toNat
theorem fwd_scroll (f : Nat → Bool) (dx dy : Int) (m h : Nat) (hm : m ≤ 128) (hf : InRes f m h) (y : Nat) : fwd (rscF f dx dy m h) y = scroll (fwd f) dx dy m h y := px_ext fun x hx => by
  rw [px_fwd _ _ _ hx]
  unfold rscF scroll
  rw [show (128 * y + x) / 128 = y by omega, show (128 * y + x) % 128 = x by omega]
  by_cases h1 : (0 ≤ (y : Int) - dy ∧ (y : Int) - dy < h) ∧ y < h
  · rw [if_pos h1, px_shift _ _ _ _ hx (by omega)]
    obtain ⟨d, hd⟩ : ∃ d : Nat, (y : Int) - dy = (d : Int) := ⟨((y : Int) - dy).toNat, by omega⟩
    rw [hd, Int.toNat_natCast]
    by_cases h2 : x < m
    · rw [decide_eq_true (p := (x : Int) < (m : Int)) (by omega), Bool.and_true]
      by_cases h3 : 0 ≤ (x : Int) - dx ∧ (x : Int) - dx < m
      · obtain ⟨e, he⟩ : ∃ e : Nat, (x : Int) - dx = (e : Int) := ⟨((x : Int) - dx).toNat, by omega⟩
        rw [he, pxi_nat, px_fwd _ _ _ (by omega), decide_eq_true (by omega), Bool.true_and, show (128 * (d : Int) + (e : Int)).toNat = 128 * d + e by omega]
      · rw [decide_eq_false (by omega), Bool.false_and]
        rcases Int.lt_or_le ((x : Int) - dx) 0 with h0 | h0
        · rw [pxi_neg _ _ h0]
        · rw [(fwd_res hf).1 d _ (by omega)]
    · rw [decide_eq_false (by omega), decide_eq_false (p := (x : Int) < (m : Int)) (by omega), Bool.false_and, Bool.and_false]
  · rw [if_neg h1, px_zero, decide_eq_false (by omega), Bool.false_and]
/-- The pixels of a sprite, row i at row y + i. -/
def rspF (bits : Nat → Nat) (len c x y m h : Nat) (clip : Bool) (i : Nat) : Bool := px (spr bits len c x y m h clip (i / 128)) (i % 128)
theorem fwd_sprite (bits : Nat → Nat) (len c x y m h : Nat) (clip : Bool) (j : Nat) : fwd (rspF bits len c x y m h clip) j = spr bits len c x y m h clip j := px_ext fun k hk => by
  rw [px_fwd _ _ _ hk, rspF, show (128 * j + k) / 128 = j by omega, show (128 * j + k) % 128 = k by omega]
theorem fwd_drawn (f g : Nat → Bool) (y : Nat) : fwd (fun i => f i ^^ g i) y = drawn (fwd f) (fwd g) y := px_ext fun x hx => by
  show _ = px (fwd f y ^^^ fwd g y) x
  rw [px_fwd _ _ _ hx, px_xor, px_fwd _ _ _ hx, px_fwd _ _ _ hx]
theorem fwd_and (f g : Nat → Bool) (y : Nat) : fwd (fun i => f i && g i) y = fwd f y &&& fwd g y := px_ext fun x hx => by
  rw [px_fwd _ _ _ hx, px_and, px_fwd _ _ _ hx, px_fwd _ _ _ hx]
/-- The common pixels. -/
theorem count_common (f g : Nat → Bool) : pcn (fun i => f i && g i) (128 * 64) = sm (fun y => cnt (fwd f y &&& fwd g y)) 64 := by
  rw [← pcount_fwd]
  exact sm_congr 64 fun y _ => by rw [fwd_and]
/-- Is some pixel of both planes set? -/
def hitB (A B : Pl) : Bool := decide (sm (fun y => cnt (A y &&& B y)) 64 ≠ 0)
theorem hit_iff (A B : Pl) : hitB A B = true ↔ ∃ y, y < 64 ∧ A y &&& B y ≠ 0#128 := by
  unfold hitB
  rw [decide_eq_true_eq]
  constructor
  · intro h
    rcases Classical.em (∃ y, y < 64 ∧ A y &&& B y ≠ 0#128) with h2 | h2
    · exact h2
    · refine absurd (sm_zero 64 fun y hy => (cnt_zero _).2 ?_) h
      rcases Classical.em (A y &&& B y = 0#128) with h3 | h3
      · exact h3
      · exact absurd ⟨y, hy, h3⟩ h2
  · rintro ⟨y, hy, h⟩ h2
    exact h ((cnt_zero _).1 (sm_zero_iff.1 h2 y hy))
theorem hit_self (B : Pl) : hitB B B = decide (0 < pcount B) := by
  unfold hitB pcount
  rw [sm_congr (g := fun y => cnt (B y)) 64 fun y _ => by rw [BitVec.and_self]]
  rw [Bool.eq_iff_iff, decide_eq_true_eq, decide_eq_true_eq]
  omega
theorem hit_common (f g : Nat → Bool) : hitB (fwd f) (fwd g) = decide (0 < pcn (fun i => f i && g i) (128 * 64)) := by
  rw [count_common]
  unfold hitB
  rw [Bool.eq_iff_iff, decide_eq_true_eq, decide_eq_true_eq]
  omega
theorem count_drawn (f g : Nat → Bool) : pcount (drawn (fwd f) (fwd g)) + 2 * pcn (fun i => f i && g i) (128 * 64) = pcount (fwd f) + pcount (fwd g) := by
  rw [count_common]
  exact pcount_xor _ _
/-- One digit more, as the program reckons it. -/
theorem acc_wrap (g : Nat → Bool) (k : Nat) (hk : k < 64) : IntKind.u64.wrap (2 * (acc g k : Int)) = ((2 * acc g k : Nat) : Int) ∧ IntKind.u64.wrap (((2 * acc g k : Nat) : Int) + 1) = ((2 * acc g k + 1 : Nat) : Int) := by
  have h := acc_lt g k
  have h2 : 2 ^ k ≤ 2 ^ 63 := Nat.pow_le_pow_right (by decide) (by omega)
  constructor
  · rw [IntKind.wrap_u64]; omega
  · rw [IntKind.wrap_u64]; omega
theorem acc_set (g : Nat → Bool) (k : Nat) (h : g k = true) : acc g (k + 1) = 2 * acc g k + 1 := by rw [acc, h]; rfl
theorem acc_unset (g : Nat → Bool) (k : Nat) (h : g k = false) : acc g (k + 1) = 2 * acc g k := by rw [acc, h]; rfl
/-- The next pixel of a walk through the area of a resolution. -/
theorem next_in (n d m h : Nat) (hm : 0 < m) (hh : 0 < h) : (n + 1 + d) % (m * h) < m * h := Nat.mod_lt _ (Nat.mul_pos hm hh)
theorem place_in (n m h : Nat) (hm : m ≤ 128) (h0 : 0 < m) (hn : n < m * h) : (128 * (n / m) + n % m) % 128 < m ∧ (128 * (n / m) + n % m) / 128 < h ∧ 128 * (n / m) + n % m < 128 * h := by
  have h1 : n % m < m := Nat.mod_lt _ h0
  have h2 : n / m < h := (Nat.div_lt_iff_lt_mul h0).2 (by rw [Nat.mul_comm]; exact hn)
  have h3 : (128 * (n / m) + n % m) % 128 = n % m := by omega
  have h4 : (128 * (n / m) + n % m) / 128 = n / m := by omega
  rw [h3, h4]
  exact ⟨h1, h2, by omega⟩
theorem inRes_set {f : Nat → Bool} {m h : Nat} (hf : InRes f m h) (p : Nat) (b : Bool) (h1 : p % 128 < m) (h2 : p / 128 < h) : InRes (fun i => if i = p then b else f i) m h := fun i hi => by
  by_cases e : i = p
  · subst e; exact ⟨h1, h2⟩
  · simp only [if_neg e] at hi; exact hf i hi
theorem inRes_blank (m h : Nat) : InRes (fun _ => false) m h := fun i hi => by cases hi
theorem rsc_res (f : Nat → Bool) (dx dy : Int) (m h : Nat) : InRes (rscF f dx dy m h) m h := fun i hi => by
  unfold rscF at hi
  have := of_decide_eq_true (Bool.and_eq_true_iff.1 hi).1
  exact ⟨this.1.2, this.1.1⟩
end Go.Proofs.Ytplmmfgmbfcjpaa.Num
