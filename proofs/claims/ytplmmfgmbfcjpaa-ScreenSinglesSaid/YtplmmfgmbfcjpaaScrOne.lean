/- Drawing on several planes is drawing on one after the other: mathematics. -/
import Derived.Test.YtplmmfgmbfcjpaaScrLawD
namespace Go.Proofs.Ytplmmfgmbfcjpaa
open Go.RowKit Num
set_option linter.unusedVariables false
set_option linter.unusedSimpArgs false

theorem onB_pow (j i : Nat) (hj : j < 4) (hi : i < 4) : onB (2 ^ j) i = decide (i = j) := by
  have e : ∀ j i : Fin 4, onB (2 ^ j.val) i.val = decide (i.val = j.val) := by decide
  exact e ⟨j, hj⟩ ⟨i, hi⟩
theorem sel_pow (j : Nat) (hj : j < 4) : selTo (2 ^ j) j = [] ∧ selTo (2 ^ j) 4 = [⟨j, hj⟩] := by
  have e : ∀ j : Fin 4, selTo (2 ^ j.val) j.val = [] ∧ selTo (2 ^ j.val) 4 = [j] := by decide +kernel
  exact e ⟨j, hj⟩
theorem need_pow (j n : Nat) (big : Bool) (hj : j < 4) : need (2 ^ j) n big 4 = per n big := by
  rw [need_len _ _ _ _ (by omega), (sel_pow j hj).2]
  simp
section
variable (F : Nat → Nat) (S : Sc) (m n : Nat) (big clip : Bool) (x y : Nat)
/-- The planes behind the first j. -/
def uTo (j : Nat) : Nat → Pl := fun i => if i < j ∧ onB m i = true then drawn (S.P i) (spZ F S m n big clip x y (selTo m i).length) else S.P i
def anyT (j : Nat) : Bool := (mkD F S m n big clip x y 0 0).coll 0 ((selTo m j).map fun i => S.P i.val)
theorem sp_one (U : Sc) (hU : U.hi = S.hi) (j : Nat) (hj : j < 4) : spZ (fun k => F (need m n big j + k)) (U.mask (2 ^ j : Nat)) (2 ^ j) n big clip x y 0 = spZ F S m n big clip x y (selTo m j).length := by
  have hn : need m n big j = (selTo m j).length * ((if big then 16 else n) * (if big then 2 else 1)) := by rw [need_len _ _ _ _ (by omega), per_shape]
  show spr (nth (rowsL (fun k => F (need m n big j + k)) (if big then 16 else n) (if big then 2 else 1) (0 * _))) (if big then 16 else n) ((if big then 2 else 1) * 8) (x % wid U.hi) (y % hei U.hi) (wid U.hi) (hei U.hi) clip
    = spr (nth (rowsL F (if big then 16 else n) (if big then 2 else 1) ((selTo m j).length * ((if big then 16 else n) * (if big then 2 else 1))))) (if big then 16 else n) ((if big then 2 else 1) * 8) (x % wid S.hi) (y % hei S.hi) (wid S.hi) (hei S.hi) clip
  rw [hU, ← hn]
  congr 2
  unfold rowsL
  simp only [Nat.zero_mul, Nat.zero_add]
theorem one_step (j : Nat) (hj : j < 4) (hon : onB m j = true) (U : Sc) (hU : ∀ i, i < 4 → U.P i = uTo F S m n big clip x y j i) (hhi : U.hi = S.hi) :
    (∀ i, i < 4 → (drZ (fun k => F (need m n big j + k)) (U.mask (2 ^ j : Nat)) (2 ^ j) n big clip x y).P i = uTo F S m n big clip x y (j + 1) i) ∧
      (anyT F S m n big clip x y j || coZ (fun k => F (need m n big j + k)) (U.mask (2 ^ j : Nat)) (2 ^ j) n big clip x y) = anyT F S m n big clip x y (j + 1) := by
  have hUj : U.P j = S.P j := by rw [hU j hj]; unfold uTo; rw [if_neg (by omega)]
  constructor
  · intro i hi
    rw [drZ_P, onB_pow j i hj hi]
    by_cases e : i = j
    · subst e
      rw [decide_eq_true rfl, if_pos rfl, (sel_pow i hi).1, List.length_nil, sp_one F S m n big clip x y U hhi i hi]
      show drawn (U.P i) _ = _
      rw [hUj]
      unfold uTo
      rw [if_pos ⟨by omega, hon⟩]
    · rw [decide_eq_false e, if_neg (by simp)]
      show U.P i = _
      rw [hU i hi]
      unfold uTo
      by_cases h : onB m i = true
      · by_cases hl : i < j
        · rw [if_pos ⟨hl, h⟩, if_pos ⟨by omega, h⟩]
        · rw [if_neg (fun q => hl q.1), if_neg (fun q => by omega)]
      · rw [if_neg (fun q => h q.2), if_neg (fun q => h q.2)]
  · have hc : coZ (fun k => F (need m n big j + k)) (U.mask (2 ^ j : Nat)) (2 ^ j) n big clip x y = hitB (S.P j) (spZ F S m n big clip x y (selTo m j).length) := by
      unfold coZ coS
      rw [(sel_pow j hj).2]
      show (hitB (U.P j) (spZ (fun k => F (need m n big j + k)) (U.mask (2 ^ j : Nat)) (2 ^ j) n big clip x y 0) || false) = _
      rw [sp_one F S m n big clip x y U hhi j hj, hUj, Bool.or_false]
    rw [hc]
    unfold anyT
    rw [selTo_succ m j hj, if_pos hon, List.map_append, List.map_cons, List.map_nil, coll_snoc, List.length_map, Nat.zero_add]
    rfl
theorem one_skip (j : Nat) (hj : j < 4) (hoff : onB m j = false) : (∀ i, i < 4 → uTo F S m n big clip x y (j + 1) i = uTo F S m n big clip x y j i) ∧ anyT F S m n big clip x y (j + 1) = anyT F S m n big clip x y j := by
  constructor
  · intro i hi
    unfold uTo
    by_cases h : onB m i = true
    · have hij : i ≠ j := fun e => by rw [e, hoff] at h; cases h
      by_cases hl : i < j
      · rw [if_pos ⟨by omega, h⟩, if_pos ⟨hl, h⟩]
      · rw [if_neg (fun q => by have := q.1; omega), if_neg (fun q => hl q.1)]
    · rw [if_neg (fun q => h q.2), if_neg (fun q => h q.2)]
  · unfold anyT
    rw [selTo_succ m j hj, if_neg (by rw [hoff]; simp), List.append_nil]
theorem one_first : (∀ i, i < 4 → S.P i = uTo F S m n big clip x y 0 i) ∧ anyT F S m n big clip x y 0 = false := by
  constructor
  · intro i hi
    unfold uTo
    rw [if_neg (by omega)]
  · unfold anyT
    rw [selTo_zero]
    rfl
theorem one_last (U : Sc) (hU : ∀ i, i < 4 → U.P i = uTo F S m n big clip x y 4 i) (hhi : U.hi = S.hi) (hM : S.M = (m : Int)) : sameSc (U.mask m) (drZ F S m n big clip x y) = true ∧ anyT F S m n big clip x y 4 = coZ F S m n big clip x y := by
  refine ⟨(sameSc_iff _ _).2 ⟨fun i hi j hj => ?_, hhi, hM.symm⟩, rfl⟩
  show U.P i j = _
  rw [hU i hi, drZ_P]
  unfold uTo
  by_cases h : onB m i = true
  · rw [if_pos ⟨hi, h⟩, if_pos h]
  · rw [if_neg (fun q => h q.2), if_neg h]
end
theorem need_mono (m n : Nat) (big : Bool) {k k' : Nat} (h : k ≤ k') : need m n big k ≤ need m n big k' := by
  induction k' with
  | zero => rw [show k = 0 by omega]; exact Nat.le_refl _
  | succ i ih =>
    rcases Nat.lt_or_ge i k with e | e
    · rw [show k = i + 1 by omega]; exact Nat.le_refl _
    · exact Nat.le_trans (ih e) (by rw [need]; omega)
theorem need_next (m n : Nat) (big : Bool) (j : Nat) (hon : onB m j = true) : need m n big (j + 1) = need m n big j + per n big := by rw [need, if_pos hon]
theorem need_stay (m n : Nat) (big : Bool) (j : Nat) (hoff : onB m j = false) : need m n big (j + 1) = need m n big j := by rw [need, hoff]; simp
/-- Block g holds n bytes of F. -/
structure Dat (g n : Nat) (F : Nat → Nat) (w : World) : Prop where
  lt : g < w.heap.size
  at_ : ∀ j, j < n → w.cell? ⟨g, j, none⟩ = some (.int .u8 (F j : Int))
theorem Dat.step {g n : Nat} {F : Nat → Nat} {w w' : World} (h : Dat g n F w) (hb : Below w.heap.size w w') : Dat g n F w' := ⟨Nat.lt_of_lt_of_le h.lt hb.size, fun j hj => (hb.cell (p := ⟨g, j, none⟩) h.lt).trans (h.at_ j hj)⟩
theorem Dat.otherRow {g n : Nat} {F : Nat → Nat} {w : World} (h : Dat g n F w) {b : Nat} (hb : g ≠ b) (cs : Array Value) : Dat g n F (w.setRow b cs) :=
  ⟨by have := h.lt; simpa [World.setRow] using this, fun j hj => by
    have e := setRow_other w b g cs hb
    have := h.at_ j hj
    unfold World.cell? at *
    simp only at *
    rw [e]
    exact this⟩
theorem Dat.all {g n : Nat} {F : Nat → Nat} {w : World} (h : Dat g n F w) : DatA g 0 F n (some ⟨g, 0, none⟩) w := fun _ => ⟨rfl, h.lt, fun j hj => by rw [Nat.zero_add]; exact h.at_ j hj⟩
/-- Where a part of it lies. -/
def cutA (g n fr : Nat) : Option Addr := if n = fr then some ⟨g, 0, none⟩ else some ⟨g, fr, none⟩
theorem Dat.cut {g n : Nat} {F : Nat → Nat} {w : World} (h : Dat g n F w) {fr k : Nat} (hk : fr + k ≤ n) : DatA g fr (fun j => F (fr + j)) k (cutA g n fr) w := fun h0 => by
  unfold cutA
  rw [if_neg (by omega)]
  exact ⟨rfl, h.lt, fun j hj => h.at_ _ (by omega)⟩
theorem exec_cut {o : Oper} {ρ : Operand → Value} {g n fr tt k : Nat} (x l r : Operand) (ho : o.op = .slice 39 x (some l) (some r) none) (hx : ρ x = .slice (some ⟨g, 0, none⟩) n n) (hl : ρ l = .int .i64 (fr : Int)) (hr : ρ r = .int .i64 (tt : Int)) (h1 : tt = fr + k) (h2 : tt ≤ n) (w : World) :
    (execOp ρ o).run Try.prog w = .ok (.value (.slice (cutA g n fr) k (n - fr))) w := by
  have hs : (Try.prog.info? 5).map (·.size) = some 1 := by kernel_rfl
  subst h1
  unfold execOp
  simp only [ho, hx, hl, hr, Option.map_some, Option.map_none]
  cases hq : Try.prog.info? 5 with
  | none => rw [hq] at hs; cases hs
  | some i =>
    have hs : i.size = 1 := by simpa [hq] using hs
    unfold cutA
    by_cases hn : n = fr
    · subst hn
      simp [Instr.sliceAt, Instr.slice, Instr.sliceBounds, run_underlying Try.underlying39, Sem.run_bind, sizeOf, typeInfo, hq, hs, go_sem]
      rw [if_pos (by omega), if_pos (by omega), show ((n : Int) + (k : Int)).toNat - n = k by omega]
    · simp [Instr.sliceAt, Instr.slice, Instr.sliceBounds, run_underlying Try.underlying39, Sem.run_bind, sizeOf, typeInfo, hq, hs, go_sem, hn, Addr.add_mid]
      rw [if_pos (by omega), if_pos (by omega), show ((fr : Int) + (k : Int)).toNat - fr = k by omega]
end Go.Proofs.Ytplmmfgmbfcjpaa
