/- A table of bytes that the rows list (an array of arrays of bytes), as cells: nothing of the program. -/
import Derived.Test.YtllfakimcgbppaaDoorRows
import Derived.WalkKit
import Derived.ProofKit
import Derived.LaidMore
import Derived.OpenShut
import Derived.ChangeOld
import Derived.Below
namespace Go.Proofs.YtllfakimcgbppaaDoor
open Go.ChangeShapes Go.WideShapes Go.ChangeAt Go.RowKit
set_option linter.unusedVariables false

/-- What a list of bytes, and a list of such lists, reads as. -/
def dRow {H : Type} (L : List Int) : DataW H := .agg (L.map fun n => .lit (.int .u8 n))
def dTab {H : Type} (Ls : List (List Int)) : DataW H := .agg (Ls.map dRow)

section
variable {H : Type} {enc : TypeId × Value → H} {P : Program} {w : World} {base : Nat} {sp : Nat → Bool} {held : Bool}
theorem row_cells {t e : TypeId} {K fuel : Nat} {cs : List Value} {x : DataW H × List MemPlace} (ht : P.underlying t = some (.array K e)) (he : P.underlying e = some (.int .u8)) (h1 : P.cellsOf e = 1)
    (h : DataW.trod enc P w base sp held fuel t cs = some x) {L : List Int} (hx : x.1 = dRow L) : L.length = K ∧ ∀ j (hj : j < L.length), cs[j]? = some (.int .u8 L[j]) := by
  obtain ⟨xs, m, _, rfl, _, hn, hel⟩ := DataW.trod_array ht h
  have hm : xs.map (·.1) = L.map fun n => DataW.lit (.int .u8 n) := by simpa [dRow] using hx
  have hl : xs.length = L.length := by have := congrArg List.length hm; simpa using this
  refine ⟨by omega, fun j hj => ?_⟩
  have hjx : j < xs.length := by omega
  have h2 := hel j (by omega)
  rw [h1, List.getElem?_eq_getElem hjx, Nat.mul_one] at h2
  obtain ⟨n, e1, e2, _⟩ := DataW.trod_int he h2
  have e3 : (xs.map (·.1))[j]? = some (.lit (.int .u8 L[j])) := by rw [hm]; simp [hj]
  rw [List.getElem?_map, List.getElem?_eq_getElem hjx, e2] at e3
  simp at e3
  subst e3
  have e4 : ((cs.drop j).take 1)[0]? = some (.int .u8 L[j]) := by rw [e1]; rfl
  simpa using e4
theorem tab_cells {tt t e : TypeId} {N K fuel : Nat} {cs : List Value} {x : DataW H × List MemPlace} (htt : P.underlying tt = some (.array N t)) (ht : P.underlying t = some (.array K e)) (he : P.underlying e = some (.int .u8)) (h1 : P.cellsOf e = 1) (hK : P.cellsOf t = K)
    (h : DataW.trod enc P w base sp held fuel tt cs = some x) {Ls : List (List Int)} (hx : x.1 = dTab Ls) : Ls.length = N ∧ ∀ i (hi : i < Ls.length), Ls[i].length = K ∧ ∀ j (hj : j < Ls[i].length), cs[i * K + j]? = some (.int .u8 Ls[i][j]) := by
  obtain ⟨xs, m, _, rfl, _, hn, hel⟩ := DataW.trod_array htt h
  have hm : xs.map (·.1) = Ls.map dRow := by simpa [dTab] using hx
  have hl : xs.length = Ls.length := by have := congrArg List.length hm; simpa using this
  refine ⟨by omega, fun i hi => ?_⟩
  have hix : i < xs.length := by omega
  have h2 := hel i (by omega)
  rw [hK, List.getElem?_eq_getElem hix] at h2
  have e3 : (xs.map (·.1))[i]? = some (dRow Ls[i]) := by rw [hm]; simp [hi]
  rw [List.getElem?_map, List.getElem?_eq_getElem hix] at e3
  simp at e3
  obtain ⟨hk, hc⟩ := row_cells ht he h1 h2 e3
  refine ⟨hk, fun j hj => ?_⟩
  have h4 := hc j hj
  rw [List.getElem?_take, if_pos (by omega), List.getElem?_drop] at h4
  exact h4
end
end Go.Proofs.YtllfakimcgbppaaDoor
