/- Slices that read as lists: nothing of the program. -/
import Derived.Test.YtfjdhhheofcanaaProg
import Derived.WalkKit
import Derived.Below
import Derived.Laws.OwnMore
import Derived.Deep.AppendLies
namespace Go.Proofs.Ytfjdhhheofcanaa
set_option linter.unusedVariables false
open Go.RowKit

/-- The slice whose array begins at A holds the list L; of an empty one nothing is asked. -/
def Row {α : Type} (enc : α → Value) (w : World) (A : Option Addr) (L : List α) : Prop :=
  L ≠ [] → ∃ b o, A = some ⟨b, o, none⟩ ∧ b < w.heap.size ∧ ∀ j (h : j < L.length), w.cell? ⟨b, o + j, none⟩ = some (enc L[j])

section
variable {α : Type} {enc : α → Value} {w w' : World} {A : Option Addr} {L : List α}
theorem Row.nil : Row enc w A [] := fun h => absurd rfl h
theorem Row.at_ (h : Row enc w A L) {k : Nat} (hk : k < L.length) : ∃ b o, A = some ⟨b, o, none⟩ ∧ b < w.heap.size ∧ w.cell? ⟨b, o + k, none⟩ = some (enc L[k]) := by
  obtain ⟨b, o, hA, hb, hc⟩ := h (by rintro rfl; simp at hk)
  exact ⟨b, o, hA, hb, hc k hk⟩
theorem Row.below (h : Row enc w A L) (hb : Below w.heap.size w w') : Row enc w' A L := fun hne => by
  obtain ⟨b, o, hA, hlt, hc⟩ := h hne
  exact ⟨b, o, hA, Nat.lt_of_lt_of_le hlt hb.size, fun j hj => (hb.cell (p := ⟨b, o + j, none⟩) hlt).trans (hc j hj)⟩
theorem Row.of_own {base : Nat} {e : TypeId} {n c : Nat} (h : w.ownsRow base e 1 (.slice A n c) n (L.map enc)) : Row enc w A L := fun hne => by
  have hl : L.length = n := by have := h.1; simpa using this
  have hpos : 0 < n := by rw [← hl]; exact List.length_pos_iff.2 hne
  obtain ⟨g, cap, hv, _, hlt⟩ := h.form hpos
  have hA : A = some ⟨g, 0, none⟩ := by injection hv
  subst hA
  refine ⟨g, 0, rfl, hlt, fun j hj => ?_⟩
  have := h.cellAt (g := g) j (by omega)
  rw [Nat.zero_add, this]
  simp [hj]
/-- Two rows of one list: the same value at each place. -/
theorem Row.size_pos (h : Row enc w A L) (hne : L ≠ []) : A.isSome = true := by
  obtain ⟨b, o, rfl, _⟩ := h hne
  rfl
end

/-- A slice value that owns a row is a slice of as many elements. -/
theorem own_form {w : World} {base n : Nat} {e : TypeId} {v : Value} {xs : List Value} (h : w.ownsRow base e 1 v n xs) : ∃ A cap, v = .slice A n cap := by
  rcases h.2 with ⟨rfl, rfl⟩ | ⟨g, cap, cur, rfl, _⟩
  · exact ⟨none, 0, rfl⟩
  · exact ⟨_, cap, rfl⟩
theorem own_mono {w : World} {base base' size n : Nat} {e : TypeId} {v : Value} {xs : List Value} (h : w.ownsRow base e size v n xs) (hb : base' ≤ base) : w.ownsRow base' e size v n xs := by
  refine ⟨h.1, h.2.imp id ?_⟩
  rintro ⟨g, cap, cur, hv, hg, r⟩
  exact ⟨g, cap, cur, hv, Nat.le_trans hb hg, r⟩
end Go.Proofs.Ytfjdhhheofcanaa
