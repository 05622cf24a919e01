/- A drawing as the laws of layer 8 make it. -/
import Derived.Test.YtplmmfgmbfcjpaaScrDo
namespace Go.Proofs.Ytplmmfgmbfcjpaa
open Go.RowKit Go.Shelf Num
set_option linter.unusedVariables false
set_option linter.unusedSimpArgs false

def drZ (F : Nat → Nat) (S : Sc) (M n : Nat) (big clip : Bool) (x y : Nat) : Sc := drS (mkD F S M n big clip x y 0 0) M
def coZ (F : Nat → Nat) (S : Sc) (M n : Nat) (big clip : Bool) (x y : Nat) : Bool := coS (mkD F S M n big clip x y 0 0) M
theorem drawM (S : Sc) (M n : Nat) (hM : S.M = (M : Int)) (M1 : M ≤ 15) (n1 : n ≤ 15) (big clip : Bool) (x y : Nat) (x1 : x ≤ 255) (y1 : y ≤ 255) (F : Nat → Nat) (hF : ∀ j, F j ≤ 255) (g o nd : Nat) (A : Option Addr) (c : Nat) (hnd : need M n big 4 = nd) (hc : nd ≤ c) (c1 : c ≤ 1000) (w : World) (hD : DatA g o F nd A w) :
    Calls Try.prog 20 #[.agg (scells S), .int .i64 (x : Int), .int .i64 (y : Int), .int .i64 (n : Int), .bool big, .bool clip, .slice A nd c] w fun e w' =>
      e = .returned (.tuple #[.agg (scells (drZ F S M n big clip x y)), .bool (coZ F S M n big clip x y)]) ∧ Below w.heap.size w w' := by
  have hl : (selTo M 4).length * ((if big then 16 else n) * (if big then 2 else 1)) = nd := by rw [← hnd, need_len M n big 4 (by omega), per_shape]
  have h := draw8_any (mkD F S M n big clip x y g o) (mkD_ok _ hF S M n (by omega) big clip x y g o (by omega) (by omega)) M n big hM (by omega) rfl rfl rfl A nd c hl hc c1 w hD
  refine h.mono fun e w' ⟨he, hb⟩ => ⟨he.trans ?_, hb⟩
  have e2 := coS_any F S M n big clip x y g o 0 0
  unfold coS at e2
  unfold drZ coZ drS coS
  rw [e2]
  rfl
theorem drZ_hi (F : Nat → Nat) (S : Sc) (M n : Nat) (big clip : Bool) (x y : Nat) : (drZ F S M n big clip x y).hi = S.hi := rfl
theorem drZ_M (F : Nat → Nat) (S : Sc) (M n : Nat) (big clip : Bool) (x y : Nat) : (drZ F S M n big clip x y).M = S.M := rfl
theorem xor_back (a b : BitVec 128) : (a ^^^ b) ^^^ b = a := by rw [BitVec.xor_assoc, BitVec.xor_self, BitVec.xor_zero]
/-- What is drawn on the k-th plane. -/
def spZ (F : Nat → Nat) (S : Sc) (M n : Nat) (big clip : Bool) (x y k : Nat) : Pl := (mkD F S M n big clip x y 0 0).sp k
theorem drZ_P (F : Nat → Nat) (S : Sc) (M n : Nat) (big clip : Bool) (x y i : Nat) : (drZ F S M n big clip x y).P i = if onB M i then drawn (S.P i) (spZ F S M n big clip x y (selTo M i).length) else S.P i := rfl
theorem spZ_again (F : Nat → Nat) (S : Sc) (M n : Nat) (big clip : Bool) (x y k : Nat) : spZ F (drZ F S M n big clip x y) M n big clip x y k = spZ F S M n big clip x y k := rfl
/-- Drawn twice is not drawn. -/
theorem drZ_twice (F : Nat → Nat) (S : Sc) (M n : Nat) (big clip : Bool) (x y : Nat) : sameSc (drZ F (drZ F S M n big clip x y) M n big clip x y) S = true := by
  refine (sameSc_iff _ _).2 ⟨fun i hi j hj => ?_, rfl, rfl⟩
  rw [drZ_P, spZ_again, drZ_P]
  by_cases h : onB M i = true
  · rw [if_pos h, if_pos h]
    exact xor_back _ _
  · rw [if_neg h, if_neg h]
theorem onB_zero (i : Nat) : onB 0 i = false := by simp [onB]
theorem need_zero (n : Nat) (big : Bool) : need 0 n big 4 = 0 := by simp [need, onB]
/-- Without planes nothing is drawn. -/
theorem drZ_none (F : Nat → Nat) (S : Sc) (n : Nat) (big clip : Bool) (x y : Nat) : sameSc (drZ F S 0 n big clip x y) S = true ∧ coZ F S 0 n big clip x y = false := by
  refine ⟨(sameSc_iff _ _).2 ⟨fun i hi j hj => ?_, rfl, rfl⟩, ?_⟩
  · rw [drZ_P, onB_zero]
    rfl
  · unfold coZ coS
    rw [show selTo 0 4 = [] by simp [selTo, onB_zero]]
    rfl
end Go.Proofs.Ytplmmfgmbfcjpaa
