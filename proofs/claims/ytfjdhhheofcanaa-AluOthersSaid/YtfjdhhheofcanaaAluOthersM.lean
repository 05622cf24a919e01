/- Stage 18: What an operation changes. -/
import Derived.Test.YtfjdhhheofcanaaAluNum
namespace Go.Proofs.Ytfjdhhheofcanaa
open Go.RowKit Num Dec Cpu
set_option linter.unusedVariables false
set_option linter.unusedSimpArgs false
set_option maxRecDepth 100000

def hasB (op : Int) (lr : Bool) : Bool := (decide (14 ≤ op) && decide (op ≤ 18)) || ((decide (op = 11) || (decide (op = 12) || decide (op = 13))) && lr)
theorem aluF_has (op : Int) (x y s : Nat) (lr : Bool) : aluF op x y s lr = none ∨ hasB op lr = true := by
  unfold aluF hasB
  split
  · rename_i h
    cases lr
    · left; simp
    · right; rcases h with rfl | rfl | rfl <;> simp
  · repeat' split
    all_goals first | (right; simp [*]; done) | (left; rfl)
theorem aluF_some (op : Int) (x y s : Nat) (lr : Bool) (hs : s < 256) (h : hasB op lr = true) : ∃ f, aluF op x y s lr = some f ∧ f ≤ 1 ∧ ((op = 11 ∨ op = 12 ∨ op = 13) → f = 0) := by
  have hl := fun f => @aluF_lt op x y s f lr hs
  have hc : (op = 11 ∨ op = 12 ∨ op = 13) ∧ lr = true ∨ (op = 14 ∨ op = 15 ∨ op = 16 ∨ op = 17 ∨ op = 18) := by
    unfold hasB at h
    simp at h
    rcases h with h | h
    · right; omega
    · left; exact ⟨by simpa [or_assoc] using h.1, h.2⟩
  rcases hc with ⟨h1, rfl⟩ | h1
  · exact ⟨0, by unfold aluF; rw [if_pos h1]; rfl, by omega, fun _ => rfl⟩
  · rcases h1 with rfl | rfl | rfl | rfl | rfl
    all_goals exact ⟨_, rfl, hl _ rfl, fun h => by omega⟩
theorem others_none (v : Nat → Nat) (i : Ins) (q : Pr) (h : aluIs i.op = false) : aluV v i q = v := by unfold aluV; simp [h]
theorem others_keep (v : Nat → Nat) (i : Ins) (q : Pr) (k : Nat) (hk : k ≠ i.x.toNat) (h : k ≠ 15 ∨ hasB i.op q.lr = false) : aluV v i q k = v k := by
  unfold aluV
  split
  · rcases aluF_has i.op (v i.x.toNat) (v i.y.toNat) (shX v i q) q.lr with e | e
    · rw [e]; simp [upd, hk]
    · have h15 : k ≠ 15 := by rcases h with h | h; exact h; rw [e] at h; cases h
      cases aluF i.op (v i.x.toNat) (v i.y.toNat) (shX v i q) q.lr <;> simp [upd, hk, h15]
  · rfl
theorem others_flag (v : Nat → Nat) (i : Ins) (q : Pr) (hs : shX v i q < 256) (hi : aluIs i.op = true) (h : hasB i.op q.lr = true) : aluV v i q 15 ≤ 1 ∧ ((i.op = 11 ∨ i.op = 12 ∨ i.op = 13) → aluV v i q 15 = 0) := by
  obtain ⟨f, e, f1, f2⟩ := aluF_some i.op (v i.x.toNat) (v i.y.toNat) (shX v i q) q.lr hs h
  unfold aluV
  rw [if_pos hi, e]
  simp only [upd]
  exact ⟨f1, f2⟩
end Go.Proofs.Ytfjdhhheofcanaa
