/- Plain facts on counting bits: the sum of bits in pairs, fours and eights is the number of bits. Nothing of the program. -/
import Derived.Test.YtplmmfgmbfcjpaaPixNum
namespace Go.Proofs.Ytplmmfgmbfcjpaa.Num
set_option linter.unusedVariables false
open Go.RowKit

/-- How many of the first k are true. -/
def pcn (f : Nat → Bool) : Nat → Nat
  | 0 => 0
  | k + 1 => pcn f k + (f k).toNat
theorem pcn_congr {f g : Nat → Bool} (k : Nat) (h : ∀ i, i < k → f i = g i) : pcn f k = pcn g k := by
  induction k with
  | zero => rfl
  | succ k ih => rw [pcn, pcn, ih fun i hi => h i (by omega), h k (by omega)]
theorem pcn_le (f : Nat → Bool) (k : Nat) : pcn f k ≤ k := by
  induction k with
  | zero => simp [pcn]
  | succ k ih => have := Bool.toNat_le (f k); rw [pcn]; omega
theorem pcn_add (f : Nat → Bool) (j k : Nat) : pcn f (j + k) = pcn f j + pcn (fun i => f (j + i)) k := by
  induction k with
  | zero => rfl
  | succ k ih => rw [← Nat.add_assoc, pcn, pcn, ih]; omega
theorem pcn_front (f : Nat → Bool) (k : Nat) : pcn f (k + 1) = (f 0).toNat + pcn (fun i => f (i + 1)) k := by
  rw [Nat.add_comm, pcn_add]
  simp only [pcn, Nat.zero_add]
  rw [pcn_congr k fun i _ => by rw [Nat.add_comm]]
theorem pcn_rev (k : Nat) : ∀ f : Nat → Bool, pcn (fun i => f (k - 1 - i)) k = pcn f k := by
  induction k with
  | zero => intro f; rfl
  | succ k ih =>
    intro f
    rw [pcn_front, pcn_congr (g := fun i => f (k - 1 - i)) k (fun i hi => by show f (k + 1 - 1 - (i + 1)) = f (k - 1 - i); rw [show k + 1 - 1 - (i + 1) = k - 1 - i by omega]), ih f, pcn]
    show (f (k + 1 - 1 - 0)).toNat + _ = _
    rw [show k + 1 - 1 - 0 = k by omega]
    omega
theorem pcn_zero {f : Nat → Bool} {k : Nat} : pcn f k = 0 ↔ ∀ i, i < k → f i = false := by
  induction k with
  | zero => simp [pcn]
  | succ k ih =>
    rw [pcn]
    constructor
    · intro h i hi
      rcases Nat.lt_or_ge i k with hlt | hge
      · exact ih.1 (by omega) i hlt
      · have : i = k := by omega
        subst this
        cases hf : f i
        · rfl
        · rw [hf] at h; simp at h
    · intro h
      rw [ih.2 fun i hi => h i (by omega), h k (by omega)]
      rfl
/-- The bits that are set in one of two: those of both, less twice the common ones. -/
theorem pcn_xor (f g : Nat → Bool) (k : Nat) : pcn (fun i => f i ^^ g i) k + 2 * pcn (fun i => f i && g i) k = pcn f k + pcn g k := by
  induction k with
  | zero => rfl
  | succ k ih =>
    simp only [pcn]
    have : (f k ^^ g k).toNat + 2 * (f k && g k).toNat = (f k).toNat + (g k).toNat := by cases f k <;> cases g k <;> rfl
    omega

/-- A number of digits from 0 to 255, the lowest first. -/
def V : List Nat → Nat
  | [] => 0
  | d :: ds => 256 * V ds + d
theorem bit_byte (a d : Nat) (hd : d < 256) (j : Nat) : (256 * a + d).testBit j = if j < 8 then d.testBit j else a.testBit (j - 8) :=
  Nat.testBit_two_pow_mul_add a (i := 8) hd j
theorem and_byte (a d b m : Nat) (hd : d < 256) (hm : m < 256) : (256 * a + d) &&& (256 * b + m) = 256 * (a &&& b) + (d &&& m) := by
  have h : d &&& m < 256 := Nat.lt_of_le_of_lt Nat.and_le_left hd
  apply Nat.eq_of_testBit_eq
  intro j
  rw [Nat.testBit_and, bit_byte a d hd, bit_byte b m hm, bit_byte _ _ h]
  split <;> rw [Nat.testBit_and]
def t1 (d : Nat) : Nat := (d / 2 &&& 85) + (d &&& 85)
def t2 (d : Nat) : Nat := (d / 4 &&& 51) + (d &&& 51)
def t3 (d : Nat) : Nat := (d / 16 + d) &&& 15
theorem cross1 : ∀ (c : Fin 2) (d : Fin 256), (128 * c.val + d.val / 2) &&& 85 = d.val / 2 &&& 85 := by decide +kernel
theorem cross2 : ∀ (c : Fin 4) (d : Fin 256), (64 * c.val + d.val / 4) &&& 51 = d.val / 4 &&& 51 := by decide +kernel
theorem s1_step (a d b : Nat) (hd : d < 256) : ((256 * a + d) / 2 &&& (256 * b + 85)) + ((256 * a + d) &&& (256 * b + 85)) = 256 * ((a / 2 &&& b) + (a &&& b)) + t1 d := by
  rw [show (256 * a + d) / 2 = 256 * (a / 2) + (128 * (a % 2) + d / 2) by omega, and_byte _ _ _ _ (by omega) (by omega), and_byte _ _ _ _ hd (by omega)]
  have := cross1 ⟨a % 2, by omega⟩ ⟨d, hd⟩
  simp only at this
  rw [this, t1]
  omega
theorem s2_step (a d b : Nat) (hd : d < 256) : ((256 * a + d) / 4 &&& (256 * b + 51)) + ((256 * a + d) &&& (256 * b + 51)) = 256 * ((a / 4 &&& b) + (a &&& b)) + t2 d := by
  rw [show (256 * a + d) / 4 = 256 * (a / 4) + (64 * (a % 4) + d / 4) by omega, and_byte _ _ _ _ (by omega) (by omega), and_byte _ _ _ _ hd (by omega)]
  have := cross2 ⟨a % 4, by omega⟩ ⟨d, hd⟩
  simp only at this
  rw [this, t2]
  omega
theorem and_low (x : Nat) : x &&& 15 = x % 16 := Nat.and_two_pow_sub_one_eq_mod x 4
theorem s3_step (a d b : Nat) (ha : a % 16 ≤ 4) (h1 : d % 16 ≤ 4) (h2 : d / 16 ≤ 4) : ((256 * a + d) / 16 + (256 * a + d)) &&& (256 * b + 15) = 256 * ((a / 16 + a) &&& b) + t3 d := by
  rw [show (256 * a + d) / 16 + (256 * a + d) = 256 * (a / 16 + a) + (16 * (a % 16) + d / 16 + d) by omega, and_byte _ _ _ _ (by omega) (by omega), t3, and_low, and_low]
  omega
theorem s1_all : ∀ ds : List Nat, (∀ d ∈ ds, d < 256) → (V ds / 2 &&& V (ds.map fun _ => 85)) + (V ds &&& V (ds.map fun _ => 85)) = V (ds.map t1)
  | [], _ => by simp [V]
  | d :: ds, h => by
    simp only [V, List.map_cons]
    rw [s1_step _ _ _ (h d (by simp)), s1_all ds fun d hd => h d (by simp [hd])]
theorem s2_all : ∀ ds : List Nat, (∀ d ∈ ds, d < 256) → (V ds / 4 &&& V (ds.map fun _ => 51)) + (V ds &&& V (ds.map fun _ => 51)) = V (ds.map t2)
  | [], _ => by simp [V]
  | d :: ds, h => by
    simp only [V, List.map_cons]
    rw [s2_step _ _ _ (h d (by simp)), s2_all ds fun d hd => h d (by simp [hd])]
theorem s3_all : ∀ ds : List Nat, (∀ d ∈ ds, d % 16 ≤ 4 ∧ d / 16 ≤ 4) → ((V ds / 16 + V ds) &&& V (ds.map fun _ => 15)) = V (ds.map t3)
  | [], _ => by simp [V]
  | d :: ds, h => by
    simp only [V, List.map_cons]
    have ha : V ds % 16 ≤ 4 := by
      cases ds with
      | nil => simp [V]
      | cons e es => have := (h e (by simp)).1; simp only [V]; omega
    rw [s3_step _ _ _ ha (h d (by simp)).1 (h d (by simp)).2, s3_all ds fun d hd => h d (by simp [hd])]
theorem t1_small : ∀ d : Fin 256, t1 d.val < 256 := by decide +kernel
theorem t2_small : ∀ d : Fin 256, t2 (t1 d.val) % 16 ≤ 4 ∧ t2 (t1 d.val) / 16 ≤ 4 := by decide +kernel
theorem t3_pop : ∀ d : Fin 256, t3 (t2 (t1 d.val)) = pcn d.val.testBit 8 := by decide +kernel
theorem pcn_V : ∀ ds : List Nat, (∀ d ∈ ds, d < 256) → pcn (V ds).testBit (8 * ds.length) = (ds.map fun d => pcn d.testBit 8).sum
  | [], _ => by simp [V, pcn]
  | d :: ds, h => by
    simp only [V, List.map_cons, List.sum_cons, List.length_cons]
    rw [show 8 * (ds.length + 1) = 8 + 8 * ds.length by omega, pcn_add, ← pcn_V ds fun d hd => h d (by simp [hd])]
    have hd := h d (by simp)
    rw [pcn_congr (f := (256 * V ds + d).testBit) (g := d.testBit) 8 fun i hi => by rw [bit_byte _ _ hd, if_pos hi]]
    rw [pcn_congr (f := fun i => (256 * V ds + d).testBit (8 + i)) (g := (V ds).testBit) _ fun i hi => by rw [bit_byte _ _ hd, if_neg (by omega), show 8 + i - 8 = i by omega]]

/-- The number of bits of a word, as the library counts them. -/
def swar (x : Nat) : Nat :=
  let x1 := (x / 2 &&& 6148914691236517205) + (x &&& 6148914691236517205)
  let x2 := (x1 / 4 &&& 3689348814741910323) + (x1 &&& 3689348814741910323)
  let x3 := (x2 / 16 + x2) &&& 1085102592571150095
  let x4 := x3 + x3 / 256
  let x5 := x4 + x4 / 65536
  let x6 := x5 + x5 / 4294967296
  x6 % 128
theorem V_eight (p0 p1 p2 p3 p4 p5 p6 p7 : Nat) : V [p0, p1, p2, p3, p4, p5, p6, p7] = p0 + 256 * p1 + 65536 * p2 + 16777216 * p3 + 4294967296 * p4 + 1099511627776 * p5 + 281474976710656 * p6 + 72057594037927936 * p7 := by
  simp only [V]
  omega
theorem eight4 (p0 p1 p2 p3 p4 p5 p6 p7 x3 x4 : Nat) (h0 : p0 ≤ 8) (h1 : p1 ≤ 8) (h2 : p2 ≤ 8) (h3 : p3 ≤ 8) (h4 : p4 ≤ 8) (h5 : p5 ≤ 8) (h6 : p6 ≤ 8) (h7 : p7 ≤ 8)
    (e3 : x3 = p0 + 256 * p1 + 65536 * p2 + 16777216 * p3 + 4294967296 * p4 + 1099511627776 * p5 + 281474976710656 * p6 + 72057594037927936 * p7) (e4 : x4 = x3 + x3 / 256) :
    x4 = (p0 + p1) + 256 * (p1 + p2) + 65536 * (p2 + p3) + 16777216 * (p3 + p4) + 4294967296 * (p4 + p5) + 1099511627776 * (p5 + p6) + 281474976710656 * (p6 + p7) + 72057594037927936 * p7 := by
  have : x3 / 256 = p1 + 256 * p2 + 65536 * p3 + 16777216 * p4 + 4294967296 * p5 + 1099511627776 * p6 + 281474976710656 * p7 := by omega
  rw [this] at e4
  omega
theorem eight5 (p0 p1 p2 p3 p4 p5 p6 p7 x4 x5 : Nat) (h0 : p0 ≤ 8) (h1 : p1 ≤ 8) (h2 : p2 ≤ 8) (h3 : p3 ≤ 8) (h4 : p4 ≤ 8) (h5 : p5 ≤ 8) (h6 : p6 ≤ 8) (h7 : p7 ≤ 8)
    (e4 : x4 = (p0 + p1) + 256 * (p1 + p2) + 65536 * (p2 + p3) + 16777216 * (p3 + p4) + 4294967296 * (p4 + p5) + 1099511627776 * (p5 + p6) + 281474976710656 * (p6 + p7) + 72057594037927936 * p7) (e5 : x5 = x4 + x4 / 65536) :
    x5 = (p0 + p1 + p2 + p3) + 256 * (p1 + p2 + p3 + p4) + 65536 * (p2 + p3 + p4 + p5) + 16777216 * (p3 + p4 + p5 + p6) + 4294967296 * (p4 + p5 + p6 + p7) + 1099511627776 * (p5 + p6 + p7) + 281474976710656 * (p6 + p7) + 72057594037927936 * p7 := by
  have : x4 / 65536 = (p2 + p3) + 256 * (p3 + p4) + 65536 * (p4 + p5) + 16777216 * (p5 + p6) + 4294967296 * (p6 + p7) + 1099511627776 * p7 := by omega
  rw [this] at e5
  omega
theorem eight6 (p0 p1 p2 p3 p4 p5 p6 p7 x5 x6 : Nat) (h0 : p0 ≤ 8) (h1 : p1 ≤ 8) (h2 : p2 ≤ 8) (h3 : p3 ≤ 8) (h4 : p4 ≤ 8) (h5 : p5 ≤ 8) (h6 : p6 ≤ 8) (h7 : p7 ≤ 8)
    (e5 : x5 = (p0 + p1 + p2 + p3) + 256 * (p1 + p2 + p3 + p4) + 65536 * (p2 + p3 + p4 + p5) + 16777216 * (p3 + p4 + p5 + p6) + 4294967296 * (p4 + p5 + p6 + p7) + 1099511627776 * (p5 + p6 + p7) + 281474976710656 * (p6 + p7) + 72057594037927936 * p7) (e6 : x6 = x5 + x5 / 4294967296) :
    x6 = (p0 + p1 + p2 + p3 + p4 + p5 + p6 + p7) + 256 * (p1 + p2 + p3 + p4 + p5 + p6 + p7) + 65536 * (p2 + p3 + p4 + p5 + p6 + p7) + 16777216 * (p3 + p4 + p5 + p6 + p7) + 4294967296 * (p4 + p5 + p6 + p7) + 1099511627776 * (p5 + p6 + p7) + 281474976710656 * (p6 + p7) + 72057594037927936 * p7 := by
  have : x5 / 4294967296 = (p4 + p5 + p6 + p7) + 256 * (p5 + p6 + p7) + 65536 * (p6 + p7) + 16777216 * p7 := by omega
  rw [this] at e6
  omega
theorem eight (p0 p1 p2 p3 p4 p5 p6 p7 x3 x4 x5 x6 : Nat) (h0 : p0 ≤ 8) (h1 : p1 ≤ 8) (h2 : p2 ≤ 8) (h3 : p3 ≤ 8) (h4 : p4 ≤ 8) (h5 : p5 ≤ 8) (h6 : p6 ≤ 8) (h7 : p7 ≤ 8)
    (e3 : x3 = V [p0, p1, p2, p3, p4, p5, p6, p7]) (e4 : x4 = x3 + x3 / 256) (e5 : x5 = x4 + x4 / 65536) (e6 : x6 = x5 + x5 / 4294967296) :
    x6 < 2305843009213693952 ∧ x5 < 2305843009213693952 ∧ x4 < 2305843009213693952 ∧ x6 % 128 = p0 + (p1 + (p2 + (p3 + (p4 + (p5 + (p6 + p7)))))) := by
  rw [V_eight] at e3
  have f4 := eight4 p0 p1 p2 p3 p4 p5 p6 p7 x3 x4 h0 h1 h2 h3 h4 h5 h6 h7 e3 e4
  have f5 := eight5 p0 p1 p2 p3 p4 p5 p6 p7 x4 x5 h0 h1 h2 h3 h4 h5 h6 h7 f4 e5
  have f6 := eight6 p0 p1 p2 p3 p4 p5 p6 p7 x5 x6 h0 h1 h2 h3 h4 h5 h6 h7 f5 e6
  clear e3 e4 e5 e6
  exact ⟨by omega, by omega, by omega, by omega⟩
/-- What is behind the masks: eight counts. -/
theorem swar_digits (x : Nat) (hx : x < 18446744073709551616) : ∃ p0 p1 p2 p3 p4 p5 p6 p7 : Nat, p0 ≤ 8 ∧ p1 ≤ 8 ∧ p2 ≤ 8 ∧ p3 ≤ 8 ∧ p4 ≤ 8 ∧ p5 ≤ 8 ∧ p6 ≤ 8 ∧ p7 ≤ 8 ∧
    pcn x.testBit 64 = p0 + (p1 + (p2 + (p3 + (p4 + (p5 + (p6 + p7)))))) ∧
    (let x1 := (x / 2 &&& 6148914691236517205) + (x &&& 6148914691236517205)
     let x2 := (x1 / 4 &&& 3689348814741910323) + (x1 &&& 3689348814741910323)
     x1 < 18446744073709551616 ∧ x2 / 16 + x2 < 18446744073709551616 ∧ (x2 / 16 + x2) &&& 1085102592571150095 = V [p0, p1, p2, p3, p4, p5, p6, p7]) := by
  obtain ⟨ds, hds, hl, rfl⟩ : ∃ ds : List Nat, (∀ d ∈ ds, d < 256) ∧ ds.length = 8 ∧ x = V ds :=
    ⟨[x % 256, x / 256 % 256, x / 65536 % 256, x / 16777216 % 256, x / 4294967296 % 256, x / 1099511627776 % 256, x / 281474976710656 % 256, x / 72057594037927936], by simp; omega, rfl, by simp only [V]; omega⟩
  match ds, hl with
  | [d0, d1, d2, d3, d4, d5, d6, d7], _ =>
    have f1 := s1_all _ hds
    have m1 : ∀ d ∈ [d0, d1, d2, d3, d4, d5, d6, d7].map t1, d < 256 := by
      intro d hd
      obtain ⟨e, he, rfl⟩ := List.mem_map.1 hd
      exact t1_small ⟨e, hds e he⟩
    have f2 := s2_all _ m1
    have m2 : ∀ d ∈ ([d0, d1, d2, d3, d4, d5, d6, d7].map t1).map t2, d % 16 ≤ 4 ∧ d / 16 ≤ 4 := by
      intro d hd
      obtain ⟨e, he, rfl⟩ := List.mem_map.1 hd
      obtain ⟨e', he', rfl⟩ := List.mem_map.1 he
      exact t2_small ⟨e', hds e' he'⟩
    have f3 := s3_all _ m2
    have g1 : V ([d0, d1, d2, d3, d4, d5, d6, d7].map fun _ => 85) = 6148914691236517205 := by simp [V]
    have g2 : V (([d0, d1, d2, d3, d4, d5, d6, d7].map t1).map fun _ => 51) = 3689348814741910323 := by simp [V]
    have g3 : V ((([d0, d1, d2, d3, d4, d5, d6, d7].map t1).map t2).map fun _ => 15) = 1085102592571150095 := by simp [V]
    rw [g1] at f1
    rw [g2] at f2
    rw [g3] at f3
    have hp := pcn_V _ hds
    have tp : ∀ d, d < 256 → t3 (t2 (t1 d)) = pcn d.testBit 8 := fun d hd => t3_pop ⟨d, hd⟩
    have k0 := tp d0 (hds d0 (by simp))
    have k1 := tp d1 (hds d1 (by simp))
    have k2 := tp d2 (hds d2 (by simp))
    have k3 := tp d3 (hds d3 (by simp))
    have k4 := tp d4 (hds d4 (by simp))
    have k5 := tp d5 (hds d5 (by simp))
    have k6 := tp d6 (hds d6 (by simp))
    have k7 := tp d7 (hds d7 (by simp))
    simp only [List.map_cons, List.map_nil, List.sum_cons, List.sum_nil, List.length_cons, List.length_nil, Nat.add_zero, k0, k1, k2, k3, k4, k5, k6, k7] at f3 hp
    refine ⟨pcn d0.testBit 8, pcn d1.testBit 8, pcn d2.testBit 8, pcn d3.testBit 8, pcn d4.testBit 8, pcn d5.testBit 8, pcn d6.testBit 8, pcn d7.testBit 8, pcn_le _ _, pcn_le _ _, pcn_le _ _, pcn_le _ _, pcn_le _ _, pcn_le _ _, pcn_le _ _, pcn_le _ _, hp, ?_⟩
    intro x1 x2
    have e1 : x1 = V ([d0, d1, d2, d3, d4, d5, d6, d7].map t1) := f1
    have e2 : x2 = V (([d0, d1, d2, d3, d4, d5, d6, d7].map t1).map t2) := by show (x1 / 4 &&& _) + (x1 &&& _) = _; rw [e1]; exact f2
    clear_value x1 x2
    subst e1
    subst e2
    refine ⟨?_, ?_, f3⟩
    · have a0 := m1 (t1 d0) (by simp); have a1 := m1 (t1 d1) (by simp); have a2 := m1 (t1 d2) (by simp); have a3 := m1 (t1 d3) (by simp)
      have a4 := m1 (t1 d4) (by simp); have a5 := m1 (t1 d5) (by simp); have a6 := m1 (t1 d6) (by simp); have a7 := m1 (t1 d7) (by simp)
      simp only [List.map_cons, List.map_nil, V]
      omega
    · have a0 := m2 (t2 (t1 d0)) (by simp); have a1 := m2 (t2 (t1 d1)) (by simp); have a2 := m2 (t2 (t1 d2)) (by simp); have a3 := m2 (t2 (t1 d3)) (by simp)
      have a4 := m2 (t2 (t1 d4)) (by simp); have a5 := m2 (t2 (t1 d5)) (by simp); have a6 := m2 (t2 (t1 d6)) (by simp); have a7 := m2 (t2 (t1 d7)) (by simp)
      simp only [List.map_cons, List.map_nil, V]
      omega
theorem swar_eq (x : Nat) (hx : x < 18446744073709551616) : swar x = pcn x.testBit 64 := by
  obtain ⟨p0, p1, p2, p3, p4, p5, p6, p7, h0, h1, h2, h3, h4, h5, h6, h7, hp, _, _, hv⟩ := swar_digits x hx
  rw [hp]
  simp only [swar]
  rw [hv]
  exact (eight p0 p1 p2 p3 p4 p5 p6 p7 _ _ _ _ h0 h1 h2 h3 h4 h5 h6 h7 rfl rfl rfl rfl).2.2.2

/-- The number of pixels of a row. -/
def cnt (r : BitVec 128) : Nat := pcn (px r) 128
theorem cnt_words (r : BitVec 128) : cnt r = pcn (hi r).toNat.testBit 64 + pcn (lo r).toNat.testBit 64 := by
  have e := hi_lo r
  generalize hi r = h at *
  generalize lo r = l at *
  subst e
  rw [cnt, show 128 = 64 + 64 from rfl, pcn_add, ← pcn_rev 64 (h.toNat.testBit), ← pcn_rev 64 (l.toNat.testBit)]
  have a : ∀ i, i < 64 → px (h ++ l) i = h.toNat.testBit (64 - 1 - i) := fun i hi => by
    rw [px, BitVec.getMsbD_append, if_neg (by omega), BitVec.getMsbD_eq_getLsbD, decide_eq_true hi, ← BitVec.testBit_toNat]
    rfl
  have b : ∀ i, i < 64 → px (h ++ l) (64 + i) = l.toNat.testBit (64 - 1 - i) := fun i hi => by
    rw [px, BitVec.getMsbD_append, if_pos (by omega), BitVec.getMsbD_eq_getLsbD, decide_eq_true (by omega), ← BitVec.testBit_toNat, show 64 + i - 64 = i by omega]
    rfl
  rw [pcn_congr 64 a, pcn_congr 64 b]
theorem cnt_zero (r : BitVec 128) : cnt r = 0 ↔ r = 0#128 := by
  rw [cnt, pcn_zero]
  constructor
  · intro h
    exact px_ext fun x hx => by rw [h x hx, px_zero]
  · rintro rfl x _
    exact px_zero x
theorem cnt_le (r : BitVec 128) : cnt r ≤ 128 := pcn_le _ _
theorem cnt_xor (r s : BitVec 128) : cnt (r ^^^ s) + 2 * cnt (r &&& s) = cnt r + cnt s := by
  have := pcn_xor (px r) (px s) 128
  rw [cnt, cnt, pcn_congr (f := px (r ^^^ s)) 128 fun i _ => px_xor r s i, pcn_congr (f := px (r &&& s)) 128 fun i _ => px_and r s i]
  exact this
end Go.Proofs.Ytplmmfgmbfcjpaa.Num
