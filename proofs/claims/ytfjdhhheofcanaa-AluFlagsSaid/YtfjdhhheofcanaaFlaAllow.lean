/- Contracts of flags.Allowed and of the reference's. -/
import Derived.Test.YtfjdhhheofcanaaArr
import Derived.Lib.MinMax
import Derived.Maps.OwnSet
import Derived.Maps.Views
import Derived.Carry
import Derived.KernelRfl
import Derived.IntWalk
import Derived.Handy
import Derived.Deep.Cut
namespace Go.Proofs.Ytfjdhhheofcanaa
open Go.RowKit Num Go.Maps
set_option linter.unusedVariables false
set_option linter.unusedSimpArgs false

/-- A key of a map's literal. -/
theorem wpList_insert_own {H : Type} {P : Program} (w : World) {ops : Array Oper} {rest : List Oper} {o : Oper} {a : Act} {Q : Exit → Act → World → Prop}
    (hg : o.guard = none) (m x v : Operand) (t : TypeId) (hop : o.op = Op.insert t m x v)
    (k e : TypeId) (K : Keyed P k) (ht : P.underlying t = some (.map k e)) (R : Value → Option (DataW H × List MemPlace)) (b n : Nat) (D : DataW H)
    (hm : a.eval m = .map (some b)) (hown : w.ownsMap P k R b n D) (hn : n < maxLen) (key val : Value) (kl : Lit) (hx : a.eval x = key) (hv : a.eval v = val) (hkey : keyOf P k key = some kl)
    (d : DataW H) (ps : List MemPlace) (hval : R val = some (d, ps))
    (hK : ∀ w', w'.ownsMap P k R b (n + 1) (D.put kl d) → w.grownBy w' (some b) → wpList P ops Q rest (a.put o.dst undef) w') :
    wpList P ops Q (o :: rest) a w := by
  refine wpList_plain hg fun K' hK' => ?_
  obtain ⟨w', hrun, r1, r2⟩ := hown.update K ht hn hkey hval
  unfold Oper.wp
  simp [execOp, hop, hm, hx, hv, hrun, Result.andThen]
  exact hK' _ _ (hK w' r1 r2)

/-- What the level allows. -/
def allow (l x : Int) : Bool := decide ((l = 2 ∧ 0 ≤ x ∧ x ≤ 7) ∨ (l = 3 ∧ 0 ≤ x ∧ x ≤ 15))
theorem intKeyed : Keyed Try.prog 3 := int_keyed Try.underlying3
theorem int_key (l : Int) (h : (Lit.int .i64 l).wf = true) : keyOf Try.prog 3 (.int .i64 l) = some (.int .i64 l) := keyOf_int_mk Try.underlying3 h
theorem zeroInt (w : World) : (zeroValue 3).run Try.prog w = .ok (.int .i64 0) w := by kernel_rfl
/-- The greatest numbers. -/
def lastsW : DataW Unit := ((DataW.map []).put (.int .i64 2) (.lit (.int .i64 7))).put (.int .i64 3) (.lit (.int .i64 15))
theorem isKey (l : Int) : WideAt.IsKeyLit (.int .i64 l) := by first | trivial | simp [WideAt.IsKeyLit]
theorem isMap0 : IsMap (DataW.map [] : DataW Unit) := ⟨_, rfl⟩
theorem lasts_has (l : Int) : has lastsW (.int .i64 l) = (decide (l = 2) || decide (l = 3)) := by
  unfold lastsW
  by_cases h3 : l = 3
  · subst h3
    rw [has_put_same (isMap0.put _ _) (isKey 3)]
    rfl
  · rw [has_put_other (by intro c; injection c with _ c; exact h3 c), decide_eq_false h3, Bool.or_false]
    by_cases h2 : l = 2
    · subst h2
      rw [has_put_same isMap0 (isKey 2)]
      rfl
    · rw [has_put_other (by intro c; injection c with _ c; exact h2 c), decide_eq_false h2]
      rfl
theorem lasts_at (l : Int) (z : DataW Unit) : lastsW.atKey (.int .i64 l) z = if l = 3 then .lit (.int .i64 15) else if l = 2 then .lit (.int .i64 7) else z := by
  unfold lastsW
  by_cases h3 : l = 3
  · subst h3
    rw [if_pos rfl, atKey_put_same (isMap0.put _ _) (isKey 3)]
  · rw [if_neg h3, atKey_put_other (by intro c; injection c with _ c; exact h3 c)]
    by_cases h2 : l = 2
    · subst h2
      rw [if_pos rfl, atKey_put_same isMap0 (isKey 2)]
    · rw [if_neg h2, atKey_put_other (by intro c; injection c with _ c; exact h2 c)]
      rfl


































































































































end Go.Proofs.Ytfjdhhheofcanaa
