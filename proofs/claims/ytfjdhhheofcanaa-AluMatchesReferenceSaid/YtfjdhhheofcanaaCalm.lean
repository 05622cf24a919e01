/- A region that draws its order, whose operations read and whose callees read or make memory: one walk in the order of the text. -/
import Derived.Test.YtfjdhhheofcanaaRows
import Derived.WalkKit
import Derived.BigQuiet
import Derived.Deep.QuietTactic
import Derived.Lib.Hide
namespace Go.Proofs.Ytfjdhhheofcanaa
open Go.RowKit
set_option linter.unusedVariables false

/-- A world that is as W was, below the end of W's memory. -/
def Calm (W : World) : Type := { w' : World // Below W.heap.size W w' }
/-- The world itself. -/
def Calm.w {W : World} (x : Calm W) : World := x.1
theorem Calm.below {W : World} (x : Calm W) : Below W.heap.size W x.w := x.2
instance (W : World) : Nonempty (Calm W) := ⟨⟨W, Below.refl _ _⟩⟩
theorem Calm.cell {W : World} {b o : Nat} {v : Value} (h : W.cell? ⟨b, o, none⟩ = some v) (hb : b < W.heap.size) (x : Calm W) : x.w.cell? ⟨b, o, none⟩ = some v :=
  (x.below.cell (p := ⟨b, o, none⟩) hb).trans h

theorem calm_region {P : Program} {id : Nat} {l : List Oper} {Q : Exit → Act → World → Prop} {a : Act} {W : World} (hm : P.follows .mixedOrders = true) (hB : Region.lexB .any l.toArray = true)
    (h : wpQuiet P l.toArray (fun w' => ∃ x : Calm W, w' = x.w) (fun a' => ∀ w', (∃ x : Calm W, w' = x.w) → Q .normal a' w') l a) : (Code.region id l.toArray true).wp P Q a W :=
  wp_region_quiet (C := fun w' => ∃ x : Calm W, w' = x.w) hm hB ⟨⟨W.drew, (Below.refl _ _).drew⟩, rfl⟩ (by simpa using h)

/-- A callee that makes memory and leaves all that was there. -/
theorem calm_call {P : Program} {f : FuncId} {args : Array Value} {v : Value} {W : World} {x : Calm W} (h : Calls P f args x.w fun e w' => e = .returned v ∧ Below x.w.heap.size x.w w') :
    Calls P f args x.w fun e w'' => e = .returned v ∧ ∃ y : Calm W, w'' = y.w :=
  h.mono fun _ w' ⟨he, hb⟩ => ⟨he, ⟨w', x.below.trans (hb.mono x.below.size)⟩, rfl⟩
theorem calm_same {P : Program} {f : FuncId} {args : Array Value} {v : Value} {W : World} {x : Calm W} (h : Calls P f args x.w fun e w' => e = .returned v ∧ x.w = w') :
    Calls P f args x.w fun e w'' => e = .returned v ∧ ∃ y : Calm W, w'' = y.w :=
  h.mono fun _ _ ⟨he, hb⟩ => ⟨he, x, hb.symm⟩
end Go.Proofs.Ytfjdhhheofcanaa
