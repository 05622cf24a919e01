/- Planes of 64 rows: scrolling, patterns of sprites, drawing, counts. Nothing of the program. -/
import Derived.Test.YtplmmfgmbfcjpaaPixMath
namespace Go.Proofs.Ytplmmfgmbfcjpaa.Num
set_option linter.unusedVariables false
set_option linter.unusedSimpArgs false
open Go.RowKit

/-- The sum of the first k numbers. -/
def sm (g : Nat → Nat) : Nat → Nat
  | 0 => 0
  | k + 1 => sm g k + g k
theorem sm_congr {f g : Nat → Nat} (k : Nat) (h : ∀ i, i < k → f i = g i) : sm f k = sm g k := by
  induction k with
  | zero => rfl
  | succ k ih => rw [sm, sm, ih fun i hi => h i (by omega), h k (by omega)]
theorem sm_le {f g : Nat → Nat} (k : Nat) (h : ∀ i, i < k → f i ≤ g i) : sm f k ≤ sm g k := by
  induction k with
  | zero => exact Nat.le_refl _
  | succ k ih =>
    rw [sm, sm]
    have := ih fun i hi => h i (by omega)
    have := h k (by omega)
    omega
theorem sm_zero {f : Nat → Nat} (k : Nat) (h : ∀ i, i < k → f i = 0) : sm f k = 0 := by
  induction k with
  | zero => rfl
  | succ k ih => rw [sm, ih fun i hi => h i (by omega), h k (by omega)]
theorem sm_zero_iff {f : Nat → Nat} {k : Nat} : sm f k = 0 ↔ ∀ i, i < k → f i = 0 := by
  refine ⟨?_, sm_zero k⟩
  induction k with
  | zero => intro _ i hi; omega
  | succ k ih =>
    rw [sm]
    intro h i hi
    rcases Nat.lt_or_ge i k with hlt | hge
    · exact ih (by omega) i hlt
    · obtain rfl : i = k := by omega
      omega
theorem sm_add (f : Nat → Nat) (j k : Nat) : sm f (j + k) = sm f j + sm (fun i => f (j + i)) k := by
  induction k with
  | zero => rfl
  | succ k ih => rw [← Nat.add_assoc, sm, sm, ih]; omega
theorem sm_plus (f g : Nat → Nat) (k : Nat) : sm (fun i => f i + g i) k = sm f k + sm g k := by
  induction k with
  | zero => rfl
  | succ k ih => rw [sm, sm, sm, ih]; omega
theorem sm_twice (f : Nat → Nat) (k : Nat) : sm (fun i => 2 * f i) k = 2 * sm f k := by
  induction k with
  | zero => rfl
  | succ k ih => rw [sm, sm, ih]; omega
theorem sm_const_le (f : Nat → Nat) (b k : Nat) (h : ∀ i, i < k → f i ≤ b) : sm f k ≤ k * b := by
  induction k with
  | zero => simp [sm]
  | succ k ih =>
    rw [sm, Nat.succ_mul]
    have := ih fun i hi => h i (by omega)
    have := h k (by omega)
    omega
theorem pcn_sm (f : Nat → Bool) (k : Nat) : pcn f k = sm (fun i => (f i).toNat) k := by
  induction k with
  | zero => rfl
  | succ k ih => rw [pcn, sm, ih]
/-- Counting row by row. -/
theorem pcn_rows (f : Nat → Bool) (n k : Nat) : pcn f (n * k) = sm (fun y => pcn (fun x => f (n * y + x)) n) k := by
  induction k with
  | zero => rfl
  | succ k ih => rw [Nat.mul_succ, pcn_add, sm, ih]
/-- Numbers that are laid from y on, and behind the end from the beginning on: their sum. -/
def cyc (a : Nat → Nat) (len y h j : Nat) : Nat := if y ≤ j ∧ j < y + len then a (j - y) else if j + h < y + len then a (j + h - y) else 0
theorem sm_cyc (a : Nat → Nat) (len y h : Nat) (hl : len ≤ h) (hy : y < h) : sm (cyc a len y h) h = sm a len := by
  by_cases hc : y + len ≤ h
  · rw [show h = y + (len + (h - y - len)) by omega, sm_add, sm_add]
    rw [sm_zero y fun i hi => by unfold cyc; rw [if_neg (by omega), if_neg (by omega)],
      sm_congr (g := a) len fun i hi => by unfold cyc; rw [if_pos (by omega)]; congr 1; omega,
      sm_zero (h - y - len) fun i hi => by unfold cyc; rw [if_neg (by omega), if_neg (by omega)]]
    omega
  · rw [show h = (y + len - h) + ((h - len) + (h - y)) by omega, sm_add, sm_add]
    rw [show sm a len = sm a ((h - y) + (y + len - h)) by congr 1; omega, sm_add]
    rw [sm_congr (g := fun i => a (h - y + i)) (y + len - h) fun i hi => by unfold cyc; rw [if_neg (by omega), if_pos (by omega)]; congr 1; omega,
      sm_zero (h - len) fun i hi => by unfold cyc; rw [if_neg (by omega), if_neg (by omega)],
      sm_congr (f := fun i => cyc a len y _ (y + len - h + (h - len + i))) (g := a) (h - y) fun i hi => by unfold cyc; rw [if_pos (by omega)]; congr 1; omega]
    omega

/-- A plane: its rows, of which those from 0 to 63 count. -/
abbrev Pl := Nat → BitVec 128
/-- A plane of a resolution. -/
def OfRes (P : Pl) (m h : Nat) : Prop := (∀ y, OfWidth (P y) m) ∧ ∀ y, h ≤ y → P y = 0#128
def pcount (P : Pl) : Nat := sm (fun y => cnt (P y)) 64
def scroll (P : Pl) (dx dy : Int) (m h : Nat) : Pl := fun y => if (0 ≤ (y : Int) - dy ∧ (y : Int) - dy < h) ∧ y < h then shift (P ((y : Int) - dy).toNat) dx m else 0#128
/-- The pattern of a sprite: row i of the bits at row y + i. -/
def spr (bits : Nat → Nat) (len c x y m h : Nat) (clip : Bool) : Pl := fun j =>
  if y ≤ j ∧ j < y + len ∧ j < h then sprite (bits (j - y)) c x m clip else if clip = false ∧ j + h < y + len then sprite (bits (j + h - y)) c x m clip else 0#128
def drawn (A B : Pl) : Pl := fun y => A y ^^^ B y
theorem shift_zero_row (n m : Int) (hm : m ≤ 128) : shift 0#128 n m = 0#128 := pxi_ext fun i => by
  rw [pxi_shift _ _ _ _ hm, pxi_zero, pxi_zero, Bool.and_false]
theorem zero_width (m : Nat) : OfWidth 0#128 m := fun i _ => pxi_zero i
theorem shift_width (r : BitVec 128) (n : Int) (m : Nat) (hm : m ≤ 128) : OfWidth (shift r n m) m := fun i hi => by
  rw [pxi_shift _ _ _ _ (by omega), decide_eq_false (by omega), Bool.false_and]
theorem scroll_res (P : Pl) (dx dy : Int) (m h : Nat) (hm : m ≤ 128) : OfRes (scroll P dx dy m h) m h := by
  refine ⟨fun y => ?_, fun y hy => ?_⟩
  · unfold scroll
    split
    · exact shift_width _ _ _ hm
    · exact zero_width m
  · unfold scroll
    rw [if_neg (by omega)]
theorem scroll_same (P : Pl) (m h : Nat) (hm : m ≤ 128) (hP : OfRes P m h) (y : Nat) : scroll P 0 0 m h y = P y := by
  unfold scroll
  by_cases hy : y < h
  · rw [if_pos (by omega), show ((y : Int) - 0).toNat = y by omega, shift_zero _ _ hm (hP.1 y)]
  · rw [if_neg (by omega), hP.2 y (by omega)]
theorem scroll_twice (P : Pl) (a b c d m h : Nat) (hm : m ≤ 128) (y : Nat) : scroll (scroll P a b m h) c d m h y = scroll P ((a : Int) + c) ((b : Int) + d) m h y := by
  unfold scroll
  by_cases h1 : (0 ≤ (y : Int) - d ∧ (y : Int) - d < h) ∧ y < h
  · rw [if_pos h1]
    by_cases h2 : (0 ≤ (((y : Int) - d).toNat : Int) - b ∧ (((y : Int) - d).toNat : Int) - b < h) ∧ ((y : Int) - d).toNat < h
    · rw [if_pos h2, if_pos (by omega), show ((((y : Int) - d).toNat : Int) - b).toNat = ((y : Int) - (b + d)).toNat by omega, twice_right _ a c m hm]
    · rw [if_neg h2, if_neg (by omega), shift_zero_row _ _ (by omega)]
  · rw [if_neg h1, if_neg (by omega)]
theorem scroll_wide (P : Pl) (m h : Nat) (hm : m ≤ 128) (y : Nat) : scroll P m 0 m h y = 0#128 := by
  unfold scroll
  split
  · rw [shift_all _ _ hm, zero_hi_lo]
  · rfl
theorem scroll_high (P : Pl) (m h : Nat) (y : Nat) : scroll P 0 (-(h : Int)) m h y = 0#128 := by
  unfold scroll
  rw [if_neg (by omega)]
theorem pcount_zero {P : Pl} (h : ∀ y, y < 64 → P y = 0#128) : pcount P = 0 := sm_zero 64 fun y hy => (cnt_zero _).2 (h y hy)
theorem pcount_zero_iff {P : Pl} : pcount P = 0 ↔ ∀ y, y < 64 → P y = 0#128 :=
  ⟨fun h y hy => (cnt_zero _).1 (sm_zero_iff.1 h y hy), pcount_zero⟩
theorem pcount_le (P : Pl) : pcount P ≤ 8192 := sm_const_le _ 128 64 fun y _ => cnt_le _
theorem pcount_xor (A B : Pl) : pcount (drawn A B) + 2 * sm (fun y => cnt (A y &&& B y)) 64 = pcount A + pcount B := by
  unfold pcount
  rw [← sm_twice, ← sm_plus, ← sm_plus]
  exact sm_congr 64 fun y _ => cnt_xor (A y) (B y)
/-- Pixels are lost, not made. -/
theorem pcn_shift_le (f g : Nat → Bool) (n k : Nat) (h : ∀ x, x < k → g x = true → n ≤ x ∧ f (x - n) = true) : pcn g k ≤ pcn f k := by
  by_cases hn : n ≤ k
  · have e : k = n + (k - n) := by omega
    have e2 : k = (k - n) + n := by omega
    have h1 : pcn g k = pcn (fun i => g (n + i)) (k - n) := by
      rw [e, pcn_add, pcn_zero.2 fun i hi => by
        cases hg : g i
        · rfl
        · have := (h i (by omega) hg).1; omega]
      rw [show n + (k - n) - n = k - n by omega]
      omega
    have h2 : pcn (fun i => g (n + i)) (k - n) ≤ pcn f (k - n) := by
      rw [pcn_sm, pcn_sm]
      refine sm_le _ fun i hi => ?_
      cases hg : g (n + i)
      · simp
      · have := (h (n + i) (by omega) hg).2
        rw [show n + i - n = i by omega] at this
        rw [this]
        exact Nat.le_refl _
    have h3 : pcn f (k - n) ≤ pcn f k := by
      conv => rhs; rw [e2]
      rw [pcn_add]
      omega
    omega
  · rw [pcn_zero.2 fun i hi => by
      cases hg : g i
      · rfl
      · have := (h i hi hg).1; omega]
    omega
theorem cnt_shift_le (r : BitVec 128) (n m : Nat) (hm : m ≤ 128) : cnt (shift r n m) ≤ cnt r := by
  refine pcn_shift_le (px r) (px (shift r n m)) n 128 fun x hx hg => ?_
  rw [px_shift _ _ _ _ hx (by omega)] at hg
  have hg := (Bool.and_eq_true_iff.1 hg).1
  by_cases h : n ≤ x
  · refine ⟨h, ?_⟩
    rw [show (x : Int) - (n : Int) = ((x - n : Nat) : Int) by omega, pxi_nat] at hg
    exact hg
  · rw [pxi_neg _ _ (by omega)] at hg
    cases hg
theorem sm_shift_le (f g : Nat → Nat) (n k : Nat) (h : ∀ x, x < k → g x ≤ (if n ≤ x then f (x - n) else 0)) : sm g k ≤ sm f k := by
  by_cases hn : n ≤ k
  · have e : k = n + (k - n) := by omega
    have e2 : k = (k - n) + n := by omega
    have h1 : sm g k = sm (fun i => g (n + i)) (k - n) := by
      rw [e, sm_add, sm_zero n fun i hi => by have := h i (by omega); rw [if_neg (by omega)] at this; omega]
      rw [show n + (k - n) - n = k - n by omega]
      omega
    have h2 : sm (fun i => g (n + i)) (k - n) ≤ sm f (k - n) := sm_le _ fun i hi => by
      have := h (n + i) (by omega)
      rw [if_pos (by omega), show n + i - n = i by omega] at this
      exact this
    have h3 : sm f (k - n) ≤ sm f k := by
      conv => rhs; rw [e2]
      rw [sm_add]
      omega
    omega
  · rw [sm_zero k fun i hi => by have := h i hi; rw [if_neg (by omega)] at this; omega]
    omega
theorem pcount_scroll_le (P : Pl) (a b m h : Nat) (hm : m ≤ 128) : pcount (scroll P a b m h) ≤ pcount P := by
  refine sm_shift_le (fun y => cnt (P y)) _ b 64 fun y hy => ?_
  show cnt (scroll P a b m h y) ≤ _
  unfold scroll
  split
  · rename_i hc
    rw [if_pos (by omega), show ((y : Int) - (b : Int)).toNat = y - b by omega]
    exact cnt_shift_le _ _ _ hm
  · rw [(cnt_zero _).2 rfl]
    omega

/-- The pixels of a pattern that is not clipped are as many as the bits. -/
theorem cnt_sprite (b c x m : Nat) (c1 : c ≤ 16) (hm : 16 ≤ m) (m1 : m ≤ 128) (hx : x < m) : cnt (sprite b c x m false) = pcn b.testBit c := by
  have e : ∀ j, j < 128 → (px (sprite b c x m false) j).toNat = (if j < m then cyc (fun i => (b.testBit (c - 1 - i)).toNat) c x m j else 0) := by
    intro j hj
    rw [px_sprite b c x m false c1 hm m1 hx j hj]
    unfold spF cyc
    by_cases h0 : j < m
    · rw [if_pos h0]
      by_cases h1 : x ≤ j ∧ j < x + c
      · rw [if_pos h1, decide_eq_true (p := x ≤ j ∧ _) (by omega), decide_eq_false (p := j + m < x + c ∧ _) (by omega)]
        simp
      · rw [if_neg h1, decide_eq_false (p := x ≤ j ∧ _) (by omega)]
        by_cases h2 : j + m < x + c
        · rw [if_pos h2, decide_eq_true (p := j + m < x + c ∧ _) (by omega)]
          simp
        · rw [if_neg h2, decide_eq_false (p := j + m < x + c ∧ _) (by omega)]
          simp
    · rw [if_neg h0, decide_eq_false (p := x ≤ j ∧ _) (by omega), decide_eq_false (p := j + m < x + c ∧ _) (by omega)]
      simp
  rw [cnt, pcn_sm, sm_congr 128 e, show 128 = m + (128 - m) by omega, sm_add]
  rw [sm_congr (g := cyc (fun i => (b.testBit (c - 1 - i)).toNat) c x m) m fun j hj => by rw [if_pos hj], sm_zero (128 - m) fun j hj => by rw [if_neg (by omega)]] 
  rw [sm_cyc _ _ _ _ (by omega) hx, ← pcn_sm (fun i => b.testBit (c - 1 - i)), pcn_rev]
  rfl
theorem pcount_spr (bits : Nat → Nat) (len c x y m h : Nat) (c1 : c ≤ 16) (hm : 16 ≤ m) (m1 : m ≤ 128) (hx : x < m) (hl : len ≤ h) (hy : y < h) (h64 : h ≤ 64) :
    pcount (spr bits len c x y m h false) = sm (fun i => pcn (bits i).testBit c) len := by
  have e : ∀ j, j < 64 → cnt (spr bits len c x y m h false j) = (if j < h then cyc (fun i => pcn (bits i).testBit c) len y h j else 0) := by
    intro j hj
    unfold spr cyc
    by_cases h0 : j < h
    · rw [if_pos h0]
      by_cases h1 : y ≤ j ∧ j < y + len
      · rw [if_pos (by omega), if_pos h1, cnt_sprite _ _ _ _ c1 hm m1 hx]
      · rw [if_neg (by omega), if_neg h1]
        by_cases h2 : j + h < y + len
        · rw [if_pos ⟨rfl, h2⟩, if_pos h2, cnt_sprite _ _ _ _ c1 hm m1 hx]
        · rw [if_neg (by omega), if_neg h2, (cnt_zero _).2 rfl]
    · rw [if_neg h0, if_neg (by omega), if_neg (by omega), (cnt_zero _).2 rfl]
  unfold pcount
  rw [sm_congr 64 e, show 64 = h + (64 - h) by omega, sm_add]
  rw [sm_congr (g := cyc (fun i => pcn (bits i).testBit c) len y h) h fun j hj => by rw [if_pos hj], sm_zero (64 - h) fun j hj => by rw [if_neg (by omega)]]
  rw [sm_cyc _ _ _ _ hl hy]
  rfl
/-- A clipped pattern is the pattern at (0, 0), scrolled. -/
theorem spr_moves (bits : Nat → Nat) (len c x y m h : Nat) (c1 : c ≤ 16) (hm : 16 ≤ m) (m1 : m ≤ 128) (hx : x < m) (hl : len ≤ h) (hy : y < h) (j : Nat) :
    scroll (spr bits len c 0 0 m h true) x y m h j = spr bits len c x y m h true j := by
  unfold scroll
  by_cases h1 : (0 ≤ (j : Int) - y ∧ (j : Int) - y < h) ∧ j < h
  · rw [if_pos h1]
    unfold spr
    rw [show ((j : Int) - (y : Int)).toNat = j - y by omega]
    by_cases h2 : j < y + len
    · rw [if_pos (by omega), if_pos (by omega), show j - y - 0 = j - y by omega, moves_clip _ _ _ _ c1 hm m1]
    · rw [if_neg (by omega), if_neg (by simp), if_neg (by omega), if_neg (by simp), shift_zero_row _ _ (by omega)]
  · rw [if_neg h1]
    unfold spr
    rw [if_neg (by omega), if_neg (by simp)]
/-- What clipping leaves out. -/
theorem spr_clip (bits : Nat → Nat) (len c x y m h : Nat) (c1 : c ≤ 16) (hm : 16 ≤ m) (m1 : m ≤ 128) (hx : x < m) (hl : len ≤ h) (hy : y < h) (h64 : h ≤ 64) (k j : Nat) (hk : k < 128) :
    px (spr bits len c x y m h true j) k = (px (spr bits len c x y m h false j) k && (decide (x ≤ k) && decide (y ≤ j))) := by
  unfold spr
  by_cases h1 : y ≤ j ∧ j < y + len ∧ j < h
  · rw [if_pos h1, if_pos h1, px_sprite _ _ _ _ _ c1 hm m1 hx k hk, px_sprite _ _ _ _ _ c1 hm m1 hx k hk, decide_eq_true (p := y ≤ j) (by omega)]
    unfold spF
    by_cases h2 : x ≤ k
    · rw [decide_eq_true h2, decide_eq_false (p := k + m < x + c ∧ _) (by omega)]
      simp
    · rw [decide_eq_false h2, decide_eq_false (p := x ≤ k ∧ _) (by omega)]
      simp
  · rw [if_neg h1, if_neg h1, if_neg (by simp), px_zero]
    by_cases h2 : y ≤ j
    · by_cases h3 : false = false ∧ j + h < y + len
      · omega
      · rw [if_neg h3, px_zero, Bool.false_and]
    · rw [decide_eq_false h2, Bool.and_false, Bool.and_false]
theorem drawn_back (A B : Pl) (y : Nat) : drawn (drawn A B) B y = A y := by
  show (A y ^^^ B y) ^^^ B y = A y
  rw [BitVec.xor_assoc, BitVec.xor_self, BitVec.xor_zero]
/-- One row of bits more. -/
theorem spr_none (bits : Nat → Nat) (c x y m h : Nat) (clip : Bool) (hy : y < h) (j : Nat) : spr bits 0 c x y m h clip j = 0#128 := by
  unfold spr
  rw [if_neg (by omega)]
  by_cases hc : clip = false ∧ j + h < y + 0
  · omega
  · rw [if_neg hc]
theorem spr_in (bits : Nat → Nat) (i c x y m h : Nat) (clip : Bool) (hi : i < h) (hy : y < h) (hin : y + i < h) (j : Nat) :
    spr bits (i + 1) c x y m h clip j = if j = y + i then sprite (bits i) c x m clip else spr bits i c x y m h clip j := by
  unfold spr
  by_cases e : j = y + i
  · rw [if_pos e, if_pos (by omega), show j - y = i by omega]
  · rw [if_neg e]
    by_cases h1 : y ≤ j ∧ j < y + i ∧ j < h
    · rw [if_pos h1, if_pos (by omega)]
    · rw [if_neg h1, if_neg (by omega)]
      by_cases h2 : clip = false ∧ j + h < y + i
      · omega
      · rw [if_neg h2, if_neg (by omega)]
theorem spr_out (bits : Nat → Nat) (i c x y m h : Nat) (hi : i < h) (hy : y < h) (hout : h ≤ y + i) (j : Nat) :
    spr bits (i + 1) c x y m h false j = if j = y + i - h then sprite (bits i) c x m false else spr bits i c x y m h false j := by
  unfold spr
  by_cases e : j = y + i - h
  · rw [if_pos e, if_neg (by omega), if_pos ⟨rfl, by omega⟩, show j + h - y = i by omega]
  · rw [if_neg e]
    by_cases h1 : y ≤ j ∧ j < y + i ∧ j < h
    · rw [if_pos h1, if_pos (by omega)]
    · rw [if_neg h1, if_neg (by omega)]
      by_cases h2 : j + h < y + i
      · rw [if_pos (show false = false ∧ j + h < y + (i + 1) from ⟨rfl, by omega⟩), if_pos (show false = false ∧ j + h < y + i from ⟨rfl, h2⟩)]
      · rw [if_neg (by omega), if_neg (by omega)]
theorem spr_lost (bits : Nat → Nat) (i c x y m h : Nat) (hout : h ≤ y + i) (j : Nat) : spr bits (i + 1) c x y m h true j = spr bits i c x y m h true j := by
  unfold spr
  by_cases h1 : y ≤ j ∧ j < y + i ∧ j < h
  · rw [if_pos h1, if_pos (by omega)]
  · rw [if_neg h1, if_neg (by omega), if_neg (by simp), if_neg (by simp)]
theorem sprite_width (b c x m : Nat) (clip : Bool) (c1 : c ≤ 16) (hm : 16 ≤ m) (m1 : m ≤ 128) (hx : x < m) : OfWidth (sprite b c x m clip) m := fun i hi => by
  obtain ⟨k, rfl⟩ := Int.eq_ofNat_of_zero_le (show 0 ≤ i by omega)
  rw [pxi_nat]
  by_cases hk : k < 128
  · rw [px_sprite b c x m clip c1 hm m1 hx k hk]
    unfold spF
    rw [decide_eq_false (p := x ≤ k ∧ _) (by omega), decide_eq_false (p := k + m < x + c ∧ _) (by omega)]
    simp
  · exact px_big _ _ (by omega)
theorem spr_res (bits : Nat → Nat) (len c x y m h : Nat) (clip : Bool) (c1 : c ≤ 16) (hm : 16 ≤ m) (m1 : m ≤ 128) (hx : x < m) (hl : len ≤ h) (hy : y < h) : OfRes (spr bits len c x y m h clip) m h := by
  refine ⟨fun j => ?_, fun j hj => ?_⟩
  · unfold spr
    split
    · exact sprite_width _ _ _ _ _ c1 hm m1 hx
    · split
      · exact sprite_width _ _ _ _ _ c1 hm m1 hx
      · exact zero_width m
  · unfold spr
    rw [if_neg (by omega), if_neg (by omega)]
end Go.Proofs.Ytplmmfgmbfcjpaa.Num
