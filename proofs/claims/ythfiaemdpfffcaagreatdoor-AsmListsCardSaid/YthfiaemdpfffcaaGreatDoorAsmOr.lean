/- Which operands the text of an Op has. Nothing of the program. -/
import Derived.Test.YthfiaemdpfffcaaGreatDoorAsmTxt
namespace Go.Proofs.YthfiaemdpfffcaaGreatDoor.Dec
open Num
set_option linter.unusedVariables false

def TX : List Int := [5, 6, 7, 8, 9, 10, 11, 12, 13, 14, 15, 16, 17, 18, 19, 22, 23, 24, 25, 26, 27, 28, 29, 30, 31, 32, 33, 34, 41, 42, 43, 44, 46, 47, 51]
def TY : List Int := [7, 10, 11, 12, 13, 14, 15, 16, 17, 18, 19, 23, 41, 46, 47]
def TN : List Int := [23, 35, 45, 49]
def TNN : List Int := [5, 6, 8, 9, 22]
def TA : List Int := [3, 4, 20, 21]
def hTX (p : Pk) : Bool := match p with | .pX | .pXY | .pXYN | .pXNN => true | _ => false
def hTY (p : Pk) : Bool := match p with | .pXY | .pXYN => true | _ => false
def hTN (p : Pk) : Bool := match p with | .pN | .pXYN | .pPlanes => true | _ => false
def hTNN (p : Pk) : Bool := match p with | .pXNN => true | _ => false
def hTA (p : Pk) : Bool := match p with | .pAddr | .pXAddr => true | _ => false
def TextOk (r : Rl) : Prop := inB r.op TX = hTX r.pk ∧ inB r.op TY = hTY r.pk ∧ inB r.op TN = hTN r.pk ∧ inB r.op TNN = hTNN r.pk ∧ inB r.op TA = hTA r.pk ∧ ((r.op : Int) == 48) = hL r.pk
instance (r : Rl) : Decidable (TextOk r) := by unfold TextOk; infer_instance
theorem text_top (n : Nat) : TextOk (top n) := of_decide_eq_true (top_all (fun r => decide (TextOk r)) (by decide +kernel) (by decide +kernel) n)
theorem rule_text {r : Rl} (h : ruleOf r.op = r) : TextOk r := by
  have e : ∀ L : List Rl, (L.all fun q => decide (TextOk q)) = true → ∀ op, TextOk (ruleOfL op L) := by
    intro L
    induction L with
    | nil => intro _ op; exact of_decide_eq_true (show decide (TextOk noRl) = true by decide +kernel)
    | cons q qs ih =>
      intro hL op
      rw [List.all_cons, Bool.and_eq_true] at hL
      unfold ruleOfL
      cases Nat.beq q.op op
      · exact ih hL.2 op
      · exact of_decide_eq_true hL.1
  rw [← h]
  exact e rls (by decide +kernel) r.op
end Go.Proofs.YthfiaemdpfffcaaGreatDoor.Dec
/- The opcode of a legal instruction is the code of its rule and its fields, joined. Nothing of the program. -/
namespace Go.Proofs.YthfiaemdpfffcaaGreatDoor.Dec
open Num
set_option linter.unusedVariables false
set_option linter.unusedSimpArgs false

def orB (r : Rl) : Bool := match r.pk with
  | .pNone => true
  | .pX => allb 16 fun x => Nat.beq (Nat.lor r.code (Nat.mul x 256)) (Nat.add r.code (Nat.mul x 256))
  | .pN => allb 16 fun n => Nat.beq (Nat.lor r.code n) (Nat.add r.code n)
  | .pXY => allb 16 fun x => allb 16 fun y => Nat.beq (Nat.lor r.code (Nat.lor (Nat.mul x 256) (Nat.mul y 16))) (Nat.add (Nat.add r.code (Nat.mul x 256)) (Nat.mul y 16))
  | .pXYN => allb 16 fun x => allb 16 fun y => allb 16 fun n => Nat.beq (Nat.lor r.code (Nat.lor (Nat.lor (Nat.mul x 256) (Nat.mul y 16)) n)) (Nat.add (Nat.add (Nat.add r.code (Nat.mul x 256)) (Nat.mul y 16)) n)
  | .pXNN => allb 16 fun x => allb 256 fun l => Nat.beq (Nat.lor r.code (Nat.lor (Nat.mul x 256) l)) (Nat.add (Nat.add r.code (Nat.mul x 256)) l)
  | .pAddr => allb 16 fun x => allb 256 fun l => Nat.beq (Nat.lor r.code (Nat.add (Nat.mul x 256) l)) (Nat.add r.code (Nat.add (Nat.mul x 256) l))
  | .pXAddr => allb 16 fun x => allb 256 fun l => Nat.beq (Nat.lor r.code (Nat.lor (Nat.mul x 256) (Nat.add (Nat.mul x 256) l))) (Nat.add r.code (Nat.add (Nat.mul x 256) l))
  | .pPlanes => allb 16 fun n => Nat.beq (Nat.lor r.code (Nat.mul n 256)) (Nat.add r.code (Nat.mul n 256))
  | .pNext => true
set_option maxRecDepth 100000 in
theorem or_all : rls.all orB = true := by decide +kernel
theorem ruleOfL_mem (op : Nat) (ho : op ≠ 0) : ∀ l : List Rl, (ruleOfL op l).op = op → ruleOfL op l ∈ l
  | [], h => absurd h.symm ho
  | r :: rs, h => by
    unfold ruleOfL at h ⊢
    cases hb : Nat.beq r.op op
    · rw [hb] at h
      exact List.mem_cons_of_mem _ (ruleOfL_mem op ho rs h)
    · exact List.mem_cons_self
theorem Made.or_ok {i : Ins} {r : Rl} {x y n nn a : Nat} (m : Made i r x y n nn a) : orB r = true := by
  have h := ruleOfL_mem r.op m.op rls (by rw [show ruleOfL r.op rls = r from m.rule])
  rw [show ruleOfL r.op rls = r from m.rule] at h
  exact List.all_eq_true.1 or_all r h
/-- The opcode, as package asm makes it. -/
def joinN (code x y n nn a : Nat) : Nat := code ||| ((((x * 256 ||| y * 16) ||| n) ||| nn) ||| a)
theorem Made.lens {i : Ins} {r : Rl} {x y n nn a : Nat} (m : Made i r x y n nn a) : i.len.toNat = if r.op = 48 then 4 else 2 := by
  rw [m.is]
  simp only
  split <;> rfl
theorem Made.kinds {i : Ins} {r : Rl} {x y n nn a : Nat} (m : Made i r x y n nn a) : (r.op = 48 ↔ r.pk = .pNext) ∧ (r.pk = .pPlanes → r.op = 49) ∧ (r.op = 49 → r.pk = .pPlanes) := by
  refine ⟨op_long m.kind, op_planes m.kind, ?_⟩
  obtain ⟨_, _, _, _, _, h, _⟩ := m.kind
  intro e
  rw [e] at h
  generalize r.pk = p at *
  cases p <;> first | rfl | cases h
theorem Made.join {i : Ins} {r : Rl} {x y n nn a : Nat} (m : Made i r x y n nn a) (h48 : r.op ≠ 48) (h49 : r.op ≠ 49) : joinN r.code i.x.toNat i.y.toNat i.n.toNat i.nn.toNat i.addr.toNat = encN i := by
  have ho := m.or_ok
  have hk := m.kinds
  unfold encN
  rw [m.opN, m.rule]
  have e := m.is
  have hx := m.x16
  have hy := m.y16
  have hn := m.n16
  have hnn := m.nn256
  clear m
  subst e
  obtain ⟨mk, c, o, lv, p⟩ := r
  simp only at hk h48 h49 ⊢
  unfold joinN
  cases p <;> simp only [orB] at ho <;> simp only [encR, pX, pY, pN, pNN, pA, Int.toNat_natCast, Int.toNat_zero, Nat.zero_mul, Nat.or_zero, Nat.zero_or]
  · exact Nat.eq_of_beq_eq_true (allb_at 16 _ ho x hx)
  · exact Nat.eq_of_beq_eq_true (allb_at 16 _ ho n hn)
  · exact Nat.eq_of_beq_eq_true (allb_at 16 _ (allb_at 16 _ ho x hx) y hy)
  · exact Nat.eq_of_beq_eq_true (allb_at 16 _ (allb_at 16 _ (allb_at 16 _ ho x hx) y hy) n hn)
  · exact Nat.eq_of_beq_eq_true (allb_at 256 _ (allb_at 16 _ ho x hx) nn hnn)
  · exact Nat.eq_of_beq_eq_true (allb_at 256 _ (allb_at 16 _ ho x hx) nn hnn)
  · exact Nat.eq_of_beq_eq_true (allb_at 256 _ (allb_at 16 _ ho x hx) nn hnn)
  · exact absurd (hk.2.1 rfl) h49
  · exact absurd (hk.1.2 rfl) h48
theorem Made.join49 {i : Ins} {r : Rl} {x y n nn a : Nat} (m : Made i r x y n nn a) (h49 : r.op = 49) : r.code ||| i.n.toNat * 256 = encN i := by
  have ho := m.or_ok
  have hk := m.kinds.2.2 h49
  unfold encN
  rw [m.opN, m.rule]
  have e := m.is
  have hx := m.x16
  clear m
  subst e
  obtain ⟨mk, c, o, lv, p⟩ := r
  simp only at hk
  subst hk
  simp only [orB] at ho
  simp only [encR, pX, pY, pN, pNN, pA, Int.toNat_natCast]
  exact Nat.eq_of_beq_eq_true (allb_at 16 _ ho x hx)
theorem Made.join48 {i : Ins} {r : Rl} {x y n nn a : Nat} (m : Made i r x y n nn a) (h48 : r.op = 48) : r.code = encN i := by
  have hk := m.kinds.1.1 h48
  unfold encN
  rw [m.opN, m.rule]
  obtain ⟨mk, c, o, lv, p⟩ := r
  simp only at hk
  subst hk
  rfl
end Go.Proofs.YthfiaemdpfffcaaGreatDoor.Dec
