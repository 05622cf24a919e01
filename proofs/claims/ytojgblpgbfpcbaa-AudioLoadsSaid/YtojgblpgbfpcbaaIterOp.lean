/- An operation by a law of one's own in a plain region of an iterator, or of a round of a loop over one. Nothing of the program. -/
import Derived.Test.YtojgblpgbfpcbaaBlk
import Derived.RangeFuncBox
import Derived.RangeFuncLeaves
import Derived.RangeFuncNested
import Derived.RangeFuncBound
import Derived.RangeFuncCalls
import Derived.RangeFuncFrom
import Derived.Shelf.Abstract
import Derived.Shelf.RegionOpen
import Derived.OwnWalkIn
import Derived.TacticsInMore
import Derived.LoopNIn
import Derived.LoopIn
import Derived.Sort.CutIn
namespace Go.Proofs.Ytojgblpgbfpcbaa
open Go.RowKit
set_option linter.unusedVariables false

section
variable {P : Program} {ops : Array Oper} {Q : Exit → Act → World → Prop} {n : Nat} {rest : List Oper} {o : Oper} {a : Act} {w : World}
theorem listIn_run (hg : o.guard = none) (hd : ∀ c, o.op ≠ .defer c) (v : Value) (h1 : (execOp a.eval o).run P w = .ok (.value v) w) (h : wpListIn Fence.wide n P ops Q rest (a.put o.dst v) w) :
    wpListIn Fence.wide n P ops Q (o :: rest) a w :=
  wpListIn_plain hg fun K hK => by
    unfold Oper.wpIn
    refine ⟨fun _ _ => trivial, ?_⟩
    rw [Oper.semAt_eq _ _ _ hd, h1]
    exact hK _ _ h
theorem listIn_run_round {l : Nat} (hg : o.guard = none) (hd : ∀ c, o.op ≠ .defer c) (v : Value) (h1 : (execOp a.eval o).run P w = .ok (.value v) w) (h : wpListIn (Fence.wide.inRound l) n P ops Q rest (a.put o.dst v) w) :
    wpListIn (Fence.wide.inRound l) n P ops Q (o :: rest) a w :=
  wpListIn_plain hg fun K hK => by
    unfold Oper.wpIn
    refine ⟨fun _ _ => trivial, ?_⟩
    rw [Oper.semAt_eq _ _ _ hd, h1]
    exact hK _ _ h
end
theorem grown_of_below {W W' : World} (h : Below W.heap.size W W') : W.grownBy W' none := ⟨h.os, h.tape, h.output, h.size, fun k hk _ => h.block k hk⟩
/-- What lies in a block of cells is kept where only what is no cells turns. -/
theorem boxed_turn {B : Nat} {t : TypeId} {v : Value} {W W' : World} {row : Option Nat} (H : Boxed W B t v) (hg : W.grownBy W' row) (hr : ∀ r, row = some r → ∃ o : Obj, W.heap[r]? = some o ∧ o.isCells = false) : Boxed W' B t v :=
  (hg.block B H.lt fun e => by obtain ⟨o, ho, hc⟩ := hr B e.symm; rw [show W.heap[B]? = _ from H] at ho; cases ho; cases hc).trans H
end Go.Proofs.Ytojgblpgbfpcbaa
