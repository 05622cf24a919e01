/- The table of rules of package decode, and what it says, as plain mathematics. Nothing of the program. -/
import Derived.Laws.BitsLemmas
import Derived.Lib.Hide
namespace Go.Proofs.Ytfjdhhheofcanaa.Dec
set_option linter.unusedVariables false
set_option linter.unusedSimpArgs false

/-- Which fields a rule picks. -/
inductive Pk | pNone | pX | pN | pXY | pXYN | pXNN | pAddr | pXAddr | pPlanes | pNext
def pkN : Pk → Nat
  | .pNone => 0
  | .pX => 1
  | .pN => 2
  | .pXY => 3
  | .pXYN => 4
  | .pXNN => 5
  | .pAddr => 6
  | .pXAddr => 7
  | .pPlanes => 8
  | .pNext => 9
theorem pkN_inj (a b : Pk) (h : pkN a = pkN b) : a = b := by cases a <;> cases b <;> first | rfl | cases h
instance : DecidableEq Pk := fun a b => decidable_of_iff (pkN a = pkN b) ⟨pkN_inj a b, fun h => by rw [h]⟩
structure Rl where
  mask : Nat
  code : Nat
  op : Nat
  level : Nat
  pk : Pk
instance : DecidableEq Rl := fun a b => decidable_of_iff (a.mask = b.mask ∧ a.code = b.code ∧ a.op = b.op ∧ a.level = b.level ∧ a.pk = b.pk) ⟨fun ⟨h1, h2, h3, h4, h5⟩ => by cases a; cases b; simp only at h1 h2 h3 h4 h5; subst h1 h2 h3 h4 h5; rfl, fun h => by rw [h]; exact ⟨rfl, rfl, rfl, rfl, rfl⟩⟩
def noRl : Rl := ⟨0, 0, 0, 0, .pNone⟩
def rls : List Rl := [
  ⟨65535, 224, 1, 1, .pNone⟩,
  ⟨65535, 238, 2, 1, .pNone⟩,
  ⟨61440, 4096, 3, 1, .pAddr⟩,
  ⟨61440, 8192, 4, 1, .pAddr⟩,
  ⟨61440, 12288, 5, 1, .pXNN⟩,
  ⟨61440, 16384, 6, 1, .pXNN⟩,
  ⟨61455, 20480, 7, 1, .pXY⟩,
  ⟨61440, 24576, 8, 1, .pXNN⟩,
  ⟨61440, 28672, 9, 1, .pXNN⟩,
  ⟨61455, 32768, 10, 1, .pXY⟩,
  ⟨61455, 32769, 11, 1, .pXY⟩,
  ⟨61455, 32770, 12, 1, .pXY⟩,
  ⟨61455, 32771, 13, 1, .pXY⟩,
  ⟨61455, 32772, 14, 1, .pXY⟩,
  ⟨61455, 32773, 15, 1, .pXY⟩,
  ⟨61455, 32774, 16, 1, .pXY⟩,
  ⟨61455, 32775, 17, 1, .pXY⟩,
  ⟨61455, 32782, 18, 1, .pXY⟩,
  ⟨61455, 36864, 19, 1, .pXY⟩,
  ⟨61440, 40960, 20, 1, .pAddr⟩,
  ⟨61440, 45056, 21, 1, .pXAddr⟩,
  ⟨61440, 49152, 22, 1, .pXNN⟩,
  ⟨61455, 53248, 41, 2, .pXY⟩,
  ⟨61440, 53248, 23, 1, .pXYN⟩,
  ⟨61695, 57502, 24, 1, .pX⟩,
  ⟨61695, 57505, 25, 1, .pX⟩,
  ⟨61695, 61447, 26, 1, .pX⟩,
  ⟨61695, 61450, 27, 1, .pX⟩,
  ⟨61695, 61461, 28, 1, .pX⟩,
  ⟨61695, 61464, 29, 1, .pX⟩,
  ⟨61695, 61470, 30, 1, .pX⟩,
  ⟨61695, 61481, 31, 1, .pX⟩,
  ⟨61695, 61491, 32, 1, .pX⟩,
  ⟨61695, 61525, 33, 1, .pX⟩,
  ⟨61695, 61541, 34, 1, .pX⟩,
  ⟨65520, 192, 35, 2, .pN⟩,
  ⟨65535, 251, 36, 2, .pNone⟩,
  ⟨65535, 252, 37, 2, .pNone⟩,
  ⟨65535, 253, 38, 2, .pNone⟩,
  ⟨65535, 254, 39, 2, .pNone⟩,
  ⟨65535, 255, 40, 2, .pNone⟩,
  ⟨61695, 61488, 42, 2, .pX⟩,
  ⟨61695, 61557, 43, 2, .pX⟩,
  ⟨61695, 61573, 44, 2, .pX⟩,
  ⟨65520, 208, 45, 3, .pN⟩,
  ⟨61455, 20482, 46, 3, .pXY⟩,
  ⟨61455, 20483, 47, 3, .pXY⟩,
  ⟨65535, 61440, 48, 3, .pNext⟩,
  ⟨61695, 61441, 49, 3, .pPlanes⟩,
  ⟨65535, 61442, 50, 3, .pNone⟩,
  ⟨61695, 61498, 51, 3, .pX⟩]
def fit (n : Nat) (r : Rl) : Bool := Nat.beq (Nat.land n r.mask) r.code
/-- The first rule of the list that fits. -/
def topOf (n : Nat) : List Rl → Rl
  | [] => noRl
  | r :: rs => bif fit n r then r else topOf n rs
def top (n : Nat) : Rl := topOf n rls
theorem rls_len : rls.length = 51 := rfl
theorem top_step (n k : Nat) (h : k < rls.length) (hf : fit n rls[k] = false) (ht : top n = topOf n (rls.drop k)) : top n = topOf n (rls.drop (k + 1)) := by
  rw [ht, List.drop_eq_getElem_cons h]
  simp [topOf, hf]
theorem top_hit (n k : Nat) (h : k < rls.length) (hf : fit n rls[k] = true) (ht : top n = topOf n (rls.drop k)) : top n = rls[k] := by
  rw [ht, List.drop_eq_getElem_cons h]
  simp [topOf, hf]
theorem top_end (n k : Nat) (h : rls.length ≤ k) (ht : top n = topOf n (rls.drop k)) : top n = noRl := by
  rw [ht, List.drop_eq_nil_of_le h]
  rfl
theorem fit_iff (n : Nat) (r : Rl) : fit n r = true ↔ n &&& r.mask = r.code := by
  unfold fit
  rw [Nat.beq_eq]
  rfl
theorem fit_yes {n : Nat} {r : Rl} (h : n &&& r.mask = r.code) : fit n r = true := (fit_iff n r).2 h
theorem fit_no {n : Nat} {r : Rl} (h : ¬ n &&& r.mask = r.code) : fit n r = false := by
  cases hf : fit n r
  · rfl
  · exact absurd ((fit_iff n r).1 hf) h
/-- What holds of all rules. -/
theorem rls_all (p : Rl → Bool) (h : rls.all p = true) (k : Nat) (hk : k < rls.length) : p rls[k] = true := List.all_eq_true.1 h _ (List.getElem_mem hk)
theorem topOf_all (p : Rl → Bool) (hz : p noRl = true) (n : Nat) : ∀ l : List Rl, l.all p = true → p (topOf n l) = true
  | [], _ => hz
  | r :: rs, h => by
    rw [List.all_cons, Bool.and_eq_true] at h
    unfold topOf
    cases fit n r
    · exact topOf_all p hz n rs h.2
    · exact h.1
theorem top_all (p : Rl → Bool) (hz : p noRl = true) (h : rls.all p = true) (n : Nat) : p (top n) = true := topOf_all p hz n rls h

/-- An instruction: Op, X, Y, N, NN, Addr, Len. -/
structure Ins where
  op : Int
  x : Int
  y : Int
  n : Int
  nn : Int
  addr : Int
  len : Int
instance : DecidableEq Ins := fun a b => decidable_of_iff (a.op = b.op ∧ a.x = b.x ∧ a.y = b.y ∧ a.n = b.n ∧ a.nn = b.nn ∧ a.addr = b.addr ∧ a.len = b.len) ⟨fun ⟨h1, h2, h3, h4, h5, h6, h7⟩ => by cases a; cases b; simp only at h1 h2 h3 h4 h5 h6 h7; subst h1 h2 h3 h4 h5 h6 h7; rfl, fun h => by rw [h]; exact ⟨rfl, rfl, rfl, rfl, rfl, rfl, rfl⟩⟩
def pX (p : Pk) (x : Int) : Int := match p with | .pX | .pXY | .pXYN | .pXNN | .pXAddr => x | _ => 0
def pY (p : Pk) (y : Int) : Int := match p with | .pXY | .pXYN => y | _ => 0
def pN (p : Pk) (x n : Int) : Int := match p with | .pN | .pXYN => n | .pPlanes => x | _ => 0
def pNN (p : Pk) (nn : Int) : Int := match p with | .pXNN => nn | _ => 0
def pA (p : Pk) (nnn next : Int) : Int := match p with | .pAddr | .pXAddr => nnn | .pNext => next | _ => 0
/-- The flags that a level allows (layer 12). -/
def alwF (l x : Int) : Bool := decide ((l = 2 ∧ 0 ≤ x ∧ x ≤ 7) ∨ (l = 3 ∧ 0 ≤ x ∧ x ≤ 15))
/-- Does the level allow the rule, for the second digit x? -/
def alw (r : Rl) (l x : Int) : Bool := bif (r.op == 43 || r.op == 44) then alwF l x else (decide ((r.level : Int) ≤ l) && decide (l ≤ 3))
def skl (h l : Nat) (level : Int) : Int := if level = 3 ∧ h = 240 ∧ l = 0 then 4 else 2
/-- The second digit, .. -/
def dx (h : Nat) : Nat := h % 16
def ok (b0 b1 : Nat) (l : Int) : Bool := (top (b0 * 256 + b1)).op != 0 && alw (top (b0 * 256 + b1)) l (dx b0 : Nat)
/-- Four bytes decoded for a level. -/
def dec (b0 b1 b2 b3 : Nat) (l : Int) : Ins := bif ok b0 b1 l then
    ⟨(top (b0 * 256 + b1)).op, pX (top (b0 * 256 + b1)).pk (dx b0 : Nat), pY (top (b0 * 256 + b1)).pk (b1 / 16 : Nat), pN (top (b0 * 256 + b1)).pk (dx b0 : Nat) (b1 % 16 : Nat), pNN (top (b0 * 256 + b1)).pk (b1 : Nat), pA (top (b0 * 256 + b1)).pk (dx b0 * 256 + b1 : Nat) (b2 * 256 + b3 : Nat), skl b0 b1 l⟩
  else ⟨0, 0, 0, 0, 0, 0, skl b0 b1 l⟩
/-- The least level of an Op. -/
def lvOf (op : Int) : List Rl → Int
  | [] => 0
  | r :: rs => if (r.op : Int) = op then r.level else lvOf op rs
def lv (op : Int) : Int := lvOf op rls

/-! ### The reference -/
def zeroR (x y nnn : Nat) : Nat := if nnn = 224 then 1 else if nnn = 238 then 2 else if nnn = 251 then 36 else if nnn = 252 then 37 else if nnn = 253 then 38 else if nnn = 254 then 39 else if nnn = 255 then 40 else if x = 0 ∧ y = 12 then 35 else if x = 0 ∧ y = 13 then 45 else 0
def eightR (n : Nat) : Nat := if n ≤ 7 then 10 + n else if n = 14 then 18 else 0
def fiveR (n : Nat) : Nat := if n = 0 then 7 else if n = 2 then 46 else if n = 3 then 47 else 0
def fifteenR (x nn : Nat) : Nat := if nn = 0 then (if x = 0 then 48 else 0) else if nn = 1 then 49 else if nn = 2 then (if x = 0 then 50 else 0) else if nn = 7 then 26 else if nn = 10 then 27 else if nn = 21 then 28 else if nn = 24 then 29 else if nn = 30 then 30 else if nn = 41 then 31 else if nn = 48 then 42 else if nn = 51 then 32 else if nn = 58 then 51 else if nn = 85 then 33 else if nn = 101 then 34 else if nn = 117 then 43 else if nn = 133 then 44 else 0
def opR (hd x y n nn nnn : Nat) : Nat :=
  if hd = 0 then zeroR x y nnn else if hd = 1 ∨ hd = 2 ∨ hd = 3 ∨ hd = 4 then hd + 2 else if hd = 5 then fiveR n else if hd = 6 ∨ hd = 7 then hd + 2 else if hd = 8 then eightR n
  else if hd = 9 then (if n = 0 then 19 else 0) else if hd = 10 ∨ hd = 11 ∨ hd = 12 then hd + 10 else if hd = 13 then (if n = 0 then 41 else 23) else if hd = 14 then (if nn = 158 then 24 else if nn = 161 then 25 else 0) else fifteenR x nn
def opB (b0 b1 : Nat) : Nat := opR (b0 / 16) (b0 % 16) (b1 / 16) (b1 % 16) b1 (b0 % 16 * 256 + b1)
def lvR (op : Int) : Int := if op < 1 ∨ 51 < op then 0 else if op ≤ 34 then 1 else if op ≤ 44 then 2 else 3

def allb : Nat → (Nat → Bool) → Bool
  | 0, _ => true
  | n + 1, f => f n && allb n f
theorem allb_at : ∀ (n : Nat) (f : Nat → Bool), allb n f = true → ∀ k, k < n → f k = true
  | n + 1, f, h, k, hk => by
    unfold allb at h
    rw [Bool.and_eq_true] at h
    rcases Nat.lt_succ_iff_lt_or_eq.1 hk with h1 | h1
    · exact allb_at n f h.2 k h1
    · rw [h1]; exact h.1
end Go.Proofs.Ytfjdhhheofcanaa.Dec
