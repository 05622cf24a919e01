/- Stage 18: The operations of AluLogic. -/
import Derived.Test.YtfjdhhheofcanaaAluAwake
namespace Go.Proofs.Ytfjdhhheofcanaa
open Go.RowKit Num Dec Cpu
set_option linter.unusedVariables false
set_option linter.unusedSimpArgs false
set_option maxRecDepth 100000

def vL (x y f : Nat) : Nat → Nat := fun j => if j = 2 then x else if j = 9 then y else if j = 15 then f else 0
theorem ok_vL {x y f : Nat} (hx : x < 256) (hy : y < 256) (hf : f < 256) : OkV (vL x y f) := fun j _ => by unfold vL; split <;> (try split) <;> (try split) <;> omega
def iL (op : Int) : Ins := ⟨op, (2 : Nat), (9 : Nat), 0, (0 : Nat), 0, 0⟩
def wantF (q : Pr) (f : Nat) : Nat := if q.lr = true then 0 else f
theorem logic_at (x y f : Nat) (op : Int) (q : Pr) (h : op = 11 ∨ op = 12 ∨ op = 13) (r : Nat) (hr : ∀ s nn, aluR op x y s nn = r) :
    aluV (vL x y f) (iL op) q 2 = r ∧ aluV (vL x y f) (iL op) q 15 = wantF q f := by
  have hi : aluIs op = true := by rcases h with rfl | rfl | rfl <;> rfl
  have e : aluV (vL x y f) (iL op) q = if q.lr = true then upd (upd (vL x y f) 2 r) 15 0 else upd (vL x y f) 2 r := by
    unfold aluV iL
    simp only [hi, if_true]
    have hF : ∀ s, aluF op x y s q.lr = if q.lr = true then some 0 else none := fun s => by unfold aluF; rw [if_pos h]
    have e2 : vL x y f (Int.toNat ((2 : Nat) : Int)) = x := rfl
    have e9 : vL x y f (Int.toNat ((9 : Nat) : Int)) = y := rfl
    rw [e2, e9, hF, hr]
    cases q.lr <;> rfl
  rw [e]
  unfold wantF
  cases q.lr <;> simp [upd, vL]
theorem or_and (x y : Nat) : (x ||| y) + (x &&& y) = x + y := by
  induction x using Nat.strongRecOn generalizing y with
  | ind x ih =>
    by_cases h : x = 0
    · subst h; simp
    · have h0 := ih (x / 2) (by omega) (y / 2)
      have a0 : (x ||| y) / 2 = x / 2 ||| y / 2 := Nat.or_div_two
      have m0 : (x ||| y) % 2 = (x % 2) ||| (y % 2) := by have := @Nat.or_mod_two_pow x y 1; simpa using this
      have a1 : (x &&& y) / 2 = x / 2 &&& y / 2 := Nat.and_div_two
      have m1 : (x &&& y) % 2 = (x % 2) &&& (y % 2) := by have := @Nat.and_mod_two_pow x y 1; simpa using this
      rw [← a0, ← a1] at h0
      clear ih a0 a1
      generalize (x ||| y) = r0 at *
      generalize (x &&& y) = r1 at *
      rcases Nat.mod_two_eq_zero_or_one x with hx | hx <;> rcases Nat.mod_two_eq_zero_or_one y with hy | hy <;> rw [hx, hy] at m0 m1 <;> simp at m0 m1 <;> omega
theorem xor_and (x y : Nat) : (x ^^^ y) + (x &&& y) = x ||| y := by
  induction x using Nat.strongRecOn generalizing y with
  | ind x ih =>
    by_cases h : x = 0
    · subst h; simp
    · have h0 := ih (x / 2) (by omega) (y / 2)
      have a0 : (x ^^^ y) / 2 = x / 2 ^^^ y / 2 := Nat.xor_div_two
      have m0 : (x ^^^ y) % 2 = (x % 2) ^^^ (y % 2) := by have := @Nat.xor_mod_two_pow x y 1; simpa using this
      have a1 : (x &&& y) / 2 = x / 2 &&& y / 2 := Nat.and_div_two
      have m1 : (x &&& y) % 2 = (x % 2) &&& (y % 2) := by have := @Nat.and_mod_two_pow x y 1; simpa using this
      have a2 : (x ||| y) / 2 = x / 2 ||| y / 2 := Nat.or_div_two
      have m2 : (x ||| y) % 2 = (x % 2) ||| (y % 2) := by have := @Nat.or_mod_two_pow x y 1; simpa using this
      rw [← a0, ← a1, ← a2] at h0
      clear ih a0 a1 a2
      generalize (x ^^^ y) = r0 at *
      generalize (x &&& y) = r1 at *
      generalize (x ||| y) = r2 at *
      rcases Nat.mod_two_eq_zero_or_one x with hx | hx <;> rcases Nat.mod_two_eq_zero_or_one y with hy | hy <;> rw [hx, hy] at m0 m1 m2 <;> simp at m0 m1 m2 <;> omega
theorem logic_all (x y f : Nat) (hx : x < 256) (hy : y < 256) (hf : f < 256) (q : Pr) : (((aluV (vL x y f) (iL 11) q 2 : Int) + (aluV (vL x y f) (iL 12) q 2 : Int) = x + y ∧ (aluV (vL x y f) (iL 13) q 2 : Int) = (aluV (vL x y f) (iL 11) q 2 : Int) - (aluV (vL x y f) (iL 12) q 2 : Int)) ∧ (aluV (vL x y f) (iL 11) q 2 < 256 ∧ aluV (vL x y f) (iL 12) q 2 < 256 ∧ aluV (vL x y f) (iL 13) q 2 < 256)) ∧
    aluV (vL x y f) (iL 11) q 15 = wantF q f ∧ aluV (vL x y f) (iL 12) q 15 = wantF q f ∧ aluV (vL x y f) (iL 13) q 15 = wantF q f := by
  obtain ⟨a, a'⟩ := logic_at x y f 11 q (by simp) (x ||| y) (fun _ _ => rfl)
  obtain ⟨b, b'⟩ := logic_at x y f 12 q (by simp) (x &&& y) (fun _ _ => rfl)
  obtain ⟨c, c'⟩ := logic_at x y f 13 q (by simp) (x ^^^ y) (fun _ _ => rfl)
  rw [a, b, c]
  have h1 := or_and x y
  have h2 := xor_and x y
  have := or_lt hx hy
  have := and_lt hx hy
  have := xor_lt hx hy
  exact ⟨⟨⟨by omega, by omega⟩, by omega, by omega, by omega⟩, a', b', c'⟩
end Go.Proofs.Ytfjdhhheofcanaa
