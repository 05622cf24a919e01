/- Registers, profiles, and what the arithmetic instructions do. Nothing of the program. -/
import Derived.Test.YtfjdhhheofcanaaNum
import Derived.Test.YtfjdhhheofcanaaDecNum
namespace Go.Proofs.Ytfjdhhheofcanaa.Cpu
open Dec
set_option linter.unusedVariables false

/-- A profile: the level, and the quirks in their order. -/
structure Pr where
  lv : Int
  sh : Bool
  ki : Bool
  jx : Bool
  lr : Bool
  cl : Bool
  dw : Bool
  fa : Bool
def b2 (b : Bool) : Nat := if b = true then 1 else 0
def upd (v : Nat → Nat) (k r : Nat) : Nat → Nat := fun j => if j = k then r else v j
def OkV (v : Nat → Nat) : Prop := ∀ j, j < 16 → v j < 256
/-- The result of an operation with VX, VY, the register that is shifted, and NN. -/
def aluR (op : Int) (x y s nn : Nat) : Nat :=
  if op = 8 then nn else if op = 9 then (x + nn) % 256 else if op = 10 then y else if op = 11 then x ||| y else if op = 12 then x &&& y else if op = 13 then x ^^^ y else
  if op = 14 then (x + y) % 256 else if op = 15 then (x + 256 - y) % 256 else if op = 16 then s / 2 else if op = 17 then (y + 256 - x) % 256 else 2 * s % 256
/-- Its flag, if it has one. -/
def aluF (op : Int) (x y s : Nat) (lr : Bool) : Option Nat :=
  if op = 11 ∨ op = 12 ∨ op = 13 then (if lr = true then some 0 else none) else if op = 14 then some (b2 (decide (255 < x + y))) else if op = 15 then some (b2 (decide (y ≤ x))) else
  if op = 16 then some (s % 2) else if op = 17 then some (b2 (decide (x ≤ y))) else if op = 18 then some (s / 128) else none
def aluIs (op : Int) : Bool := decide (8 ≤ op) && decide (op ≤ 18)
def shX (v : Nat → Nat) (i : Ins) (q : Pr) : Nat := if q.sh = true then v i.y.toNat else v i.x.toNat
def aluV (v : Nat → Nat) (i : Ins) (q : Pr) : Nat → Nat :=
  if aluIs i.op = true then
    match aluF i.op (v i.x.toNat) (v i.y.toNat) (shX v i q) q.lr with
    | none => upd v i.x.toNat (aluR i.op (v i.x.toNat) (v i.y.toNat) (shX v i q) i.nn.toNat)
    | some f => upd (upd v i.x.toNat (aluR i.op (v i.x.toNat) (v i.y.toNat) (shX v i q) i.nn.toNat)) 15 f
  else v
def skIs (op : Int) : Bool := decide (op = 5) || (decide (op = 6) || (decide (op = 7) || decide (op = 19)))
def skB (v : Nat → Nat) (i : Ins) : Bool :=
  if i.op = 5 then decide ((v i.x.toNat : Int) = i.nn) else if i.op = 6 then !decide ((v i.x.toNat : Int) = i.nn) else if i.op = 7 then decide (v i.x.toNat = v i.y.toNat) else if i.op = 19 then !decide (v i.x.toNat = v i.y.toNat) else false
theorem or_lt {x y : Nat} (hx : x < 256) (hy : y < 256) : x ||| y < 256 := Nat.or_lt_two_pow (n := 8) hx hy
theorem xor_lt {x y : Nat} (hx : x < 256) (hy : y < 256) : x ^^^ y < 256 := Nat.xor_lt_two_pow (n := 8) hx hy
theorem and_lt {x y : Nat} (hx : x < 256) (hy : y < 256) : x &&& y < 256 := Nat.lt_of_le_of_lt Nat.and_le_left hx
theorem b2_le (b : Bool) : b2 b ≤ 1 := by unfold b2; split <;> omega
theorem aluR_lt {op : Int} {x y s nn : Nat} (hx : x < 256) (hy : y < 256) (hs : s < 256) (hn : nn < 256) : aluR op x y s nn < 256 := by
  unfold aluR
  have := or_lt hx hy
  have := xor_lt hx hy
  have := and_lt hx hy
  repeat' split
  all_goals omega
theorem aluF_lt {op : Int} {x y s f : Nat} {lr : Bool} (hs : s < 256) (h : aluF op x y s lr = some f) : f ≤ 1 := by
  unfold aluF at h
  have h1 := b2_le (decide (255 < x + y))
  have h2 := b2_le (decide (y ≤ x))
  have h3 := b2_le (decide (x ≤ y))
  split at h
  · split at h
    · injection h with h; omega
    · cases h
  · split at h
    · injection h with h; omega
    · split at h
      · injection h with h; omega
      · split at h
        · injection h with h; omega
        · split at h
          · injection h with h; omega
          · split at h
            · injection h with h; omega
            · cases h
theorem upd_ok {v : Nat → Nat} (h : OkV v) (k r : Nat) (hr : r < 256) : OkV (upd v k r) := fun j hj => by
  unfold upd
  split
  · exact hr
  · exact h j hj
/-- A bit of a number. -/
def bitC (f i : Nat) : Nat := f / 2 ^ i % 2
theorem bitC_le (f i : Nat) : bitC f i = 0 ∨ bitC f i = 1 := by unfold bitC; omega
theorem bitC_step (f i : Nat) : f % 2 ^ (i + 1) = f % 2 ^ i + 2 ^ i * bitC f i := by rw [Nat.pow_succ, Nat.mod_mul]; rfl
theorem test_bitC (f i : Nat) : f.testBit i = decide (bitC f i = 1) := Nat.testBit_eq_decide_div_mod_eq
theorem bitC_of {f i : Nat} {b : Bool} (h : f.testBit i = b) : bitC f i = b2 b := by
  rw [test_bitC] at h
  subst h
  unfold b2
  rcases bitC_le f i with e | e <;> rw [e] <;> simp
theorem bitC_or (x y i : Nat) : bitC (x ||| y) i = b2 (decide (bitC x i = 1) || decide (bitC y i = 1)) := bitC_of (by rw [Nat.testBit_or, test_bitC, test_bitC])
theorem bitC_and (x y i : Nat) : bitC (x &&& y) i = b2 (decide (bitC x i = 1) && decide (bitC y i = 1)) := bitC_of (by rw [Nat.testBit_and, test_bitC, test_bitC])
theorem bitC_xor (x y i : Nat) : bitC (x ^^^ y) i = b2 (decide (bitC x i = 1) ^^ decide (bitC y i = 1)) := bitC_of (by rw [Nat.testBit_xor, test_bitC, test_bitC])
end Go.Proofs.Ytfjdhhheofcanaa.Cpu
