/- What the laws of layer 13 share: a row of the call's own whose bytes are counted up one after the other. -/
import Derived.Test.YtiebbbfhbggmaaaRanAwake
import Derived.Test.YtiebbbfhbggmaaaBytOpen
namespace Go.Proofs.Ytiebbbfhbggmaaa
open Go.RowKit Num
set_option linter.unusedVariables false
set_option linter.unusedSimpArgs false

/-- A row of n bytes of the call's own, which are those of L from the place k on. -/
def RowD (base : Nat) (v : Value) (n : Nat) (L : List Int) (k : Nat) (w : World) : Prop := ∃ T : List Int, T.length = n ∧ (∀ j, k ≤ j → T[j]? = L[j]?) ∧ w.ownsRow base 5 1 v n (T.map (Value.int .u8))
section
variable {base n c g k p : Nat} {X : Option Addr} {L : List Int} {w w' : World} {v : Value}
theorem RowD.start (ho : w.ownsRow base 5 1 v n (L.map (Value.int .u8))) (hn : L.length = n) : RowD base v n L 0 w := ⟨L, hn, fun _ _ => rfl, ho⟩
theorem RowD.opened (h : RowD base (.slice X n c) n L k w) (hk : k < n) (hl : k < L.length) :
    ∃ g, X = some ⟨g, 0, none⟩ ∧ base ≤ g ∧ w.cell? ⟨g, k, none⟩ = some (.int .u8 L[k]) ∧ w.frozen? ⟨g, k, none⟩ = false := by
  obtain ⟨T, hT, hj, ho⟩ := h
  obtain ⟨g, cap, he, hg, hlt⟩ := ho.form (by omega)
  injection he with eA _ ec
  subst eA
  subst ec
  refine ⟨g, rfl, hg, ?_, ho.frozenAt k⟩
  rw [ho.cellAt k (by omega), List.getElem?_map, hj k (Nat.le_refl _), List.getElem?_eq_getElem hl]
  rfl
theorem RowD.stored (h : RowD base (.slice (some ⟨g, 0, none⟩) n c) n L k w) (x : Int) : RowD base (.slice (some ⟨g, 0, none⟩) n c) n L (k + 1) (w.setCell ⟨g, k, none⟩ (.int .u8 x)) := by
  obtain ⟨T, hT, hj, ho⟩ := h
  refine ⟨T.set k x, by rw [List.length_set]; exact hT, fun j hk => ?_, ?_⟩
  · rw [List.getElem?_set_ne (by omega)]
    exact hj j (by omega)
  · rw [List.map_set]
    exact (ho.stored k _).1
theorem RowD.step (h : RowD base v n L k w) (hb : Below w.heap.size w w') : RowD base v n L k w' := by
  obtain ⟨T, hT, hj, ho⟩ := h
  exact ⟨T, hT, hj, own_apart (p := w.heap.size) (g := none) ho (Apart.of_below hb) (fun e => by have := (ho.lt _ e).2; omega) (fun k hk => by cases hk)⟩
end
end Go.Proofs.Ytiebbbfhbggmaaa
