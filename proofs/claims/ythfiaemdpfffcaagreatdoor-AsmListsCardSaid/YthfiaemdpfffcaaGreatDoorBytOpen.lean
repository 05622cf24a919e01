/- Arguments of the laws opened: slices of bytes. -/
import Derived.Test.YthfiaemdpfffcaaGreatDoorByt
import Derived.Test.YthfiaemdpfffcaaGreatDoorRows
import Derived.ProofKit
import Derived.OpenShut
import Derived.ChangeSlices
import Derived.Deep.SlicePairs
import Derived.Carry
import Derived.ChangeOld
namespace Go.Proofs.YthfiaemdpfffcaaGreatDoor
open Go.RowKit Go.ChangeShapes Go.WideShapes
set_option linter.unusedVariables false

/-- A slice of bytes that came in. -/
structure ArgB (w : World) (A : Option Addr) (n c : Nat) (L : List Int) : Prop where
  rd : Rd w A L
  len : L.length = n
  cap : n ≤ c
  max : c ≤ maxLen
  bd : ∀ x ∈ L, 0 ≤ x ∧ x ≤ 255
theorem ArgB.below {w w' : World} {A : Option Addr} {n c : Nat} {L : List Int} (h : ArgB w A n c L) (hb : Below w.heap.size w w') : ArgB w' A n c L := ⟨h.rd.below hb, h.len, h.cap, h.max, h.bd⟩
theorem laidOutB8 : laidOutB Tryz.prog = true := by kernel_rfl
section
variable {H : Type} {enc : TypeId × Value → H} {W : World} {r : Reach} {base : Nat}
theorem bytesB_of {fuel : Nat} {A : Option Addr} {n c : Nat} {x : DataW H × List MemPlace} (h : DataW.trod enc Tryz.prog W 0 (fun _ => true) true fuel 22 [.slice A n c] = some x) : ∃ L, ArgB W A n c L := by
  rcases open_ints Tryz.underlying22 Tryz.underlying5 (by kernel_rfl) h with ⟨hcs, _⟩ | ⟨a, len, cap, zs, hcs, hb, hl, hm, hz, _, hcell, hw⟩
  · injection hcs with hcs
    injection hcs with e1 e2 e3
    subst e1; subst e2; subst e3
    exact ⟨[], Rd.nil, rfl, Nat.le_refl _, Nat.zero_le _, fun x hx => by cases hx⟩
  · injection hcs with hcs
    injection hcs with e1 e2 e3
    subst e1; subst e2; subst e3
    simp only [if_true] at hz
    refine ⟨zs.take n, fun hne => ?_, by rw [List.length_take]; omega, hl, hm, fun x hx => Num.bd_u8 (hw x (List.mem_of_mem_take hx))⟩
    have h0 : 0 < n := by
      rcases Nat.eq_zero_or_pos n with e | e
      · subst e; exact absurd (List.take_zero) hne
      · exact e
    have hlt := World.block_lt_of_cell? W _ (hcell 0 (by omega))
    rw [add_block] at hlt
    refine ⟨a, rfl, hlt, fun j hj => ?_⟩
    rw [List.length_take] at hj
    rw [hcell j (by omega), List.getElem_take, List.getD_eq_getElem?_getD, List.getElem?_eq_getElem (by omega)]
    rfl
set_option maxRecDepth 100000 in
theorem open_bytesB {v : Value} {d : DataW H} {p : List MemPlace} (hv : Value.okWide Tryz.prog W r base 22 v) (h : DataW.Trod enc Tryz.prog W 0 (fun _ => true) true 22 v d p) : ∃ A n c L, v = .slice A n c ∧ ArgB W A n c L := by
  obtain ⟨A, n, c, rfl⟩ := okWide_slice Tryz.underlying22 hv
  obtain ⟨fuel, hf⟩ := h
  obtain ⟨L, hL⟩ := bytesB_of hf
  exact ⟨A, n, c, L, rfl, hL⟩
end
end Go.Proofs.YthfiaemdpfffcaaGreatDoor
