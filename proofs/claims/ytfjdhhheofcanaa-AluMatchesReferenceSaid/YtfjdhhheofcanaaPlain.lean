/- A plain region, or the rest of one, as one calm walk: reads, and calls that make memory. Nothing of the program. -/
import Derived.Test.YtfjdhhheofcanaaCalm
namespace Go.Proofs.Ytfjdhhheofcanaa
open Go.RowKit
set_option linter.unusedVariables false

section
variable {P : Program} {ops : Array Oper} {C : World → Prop}
theorem list_of_quiet {Q : Exit → Act → World → Prop} : ∀ (l : List Oper) (a : Act) (w : World), C w → wpQuiet P ops C (fun a' => ∀ w', C w' → Q .normal a' w') l a → wpList P ops Q l a w
  | [], a, w, hC, h => h w hC
  | o :: l, a, w, hC, h => by
    refine wpList_step fun K hK => ?_
    simp only [wpQuiet] at h
    split
    · rename_i hw
      rw [if_pos hw] at h
      exact Oper.wp_of_quiet hC (fun a' w' hC' h' => hK a' w' (list_of_quiet l a' w' hC' h')) h
    · rename_i hw
      rw [if_neg hw] at h
      exact hK _ _ (list_of_quiet l _ w hC h)
/-- A plain region of reads and of calls that make memory. -/
theorem calm_plain {id : Nat} {l : List Oper} {Q : Exit → Act → World → Prop} {a : Act} {W : World}
    (h : wpQuiet P l.toArray (fun w' => ∃ x : Calm W, w' = x.w) (fun a' => ∀ w', (∃ x : Calm W, w' = x.w) → Q .normal a' w') l a) : (Code.region id l.toArray false).wp P Q a W :=
  wp_region_lit (list_of_quiet l a W ⟨⟨W, Below.refl _ _⟩, rfl⟩ h)
end
end Go.Proofs.Ytfjdhhheofcanaa
