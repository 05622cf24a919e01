/- A region that draws its order: what reads and what leaves the world alone comes first, in the order of the text; then a tail. Nothing of the program. -/
import Derived.WalkKit
import Derived.BigQuiet
import Derived.StillTailTactics
import Derived.Lib.Hide
namespace Go.Proofs.Ytfjdhhheofcanaa
open Go.RowKit
set_option linter.unusedVariables false

theorem tail_region {P : Program} {id : Nat} {Q : Exit → Act → World → Prop} {a : Act} {w : World} {l : List Oper} (n : Nat) (hm : P.follows .mixedOrders = true) (hB : Region.lexTailB .any l.toArray n = true)
    (h : ∀ wd, wd = w.drew → wpStill P l.toArray wd (fun a' => wpList P l.toArray Q (l.drop n) a' wd) (l.take n) a) : (Code.region id l.toArray true).wp P Q a w :=
  wp_region_still_tail n hm hB (h w.drew rfl)
end Go.Proofs.Ytfjdhhheofcanaa
