/- Arguments of the laws opened: slices of ints. Of the program: the types of ints only. -/
import Derived.Test.YtbgdkhbembjjlaaRow
import Derived.Test.YtbgdkhbembjjlaaNum
import Derived.Below
import Derived.ChangeSlices
import Derived.Deep.SlicePairs
import Derived.Carry
import Derived.ChangeOld
import Derived.OpenShut
import Derived.ShutString
import Derived.Deep.MidRow
import Derived.KernelRfl
namespace Go.Proofs.Ytbgdkhbembjjlaa
open Go.RowKit Go.ChangeShapes Go.WideShapes Num
set_option linter.unusedVariables false
set_option linter.constructorNameAsVariable false
set_option maxRecDepth 100000

/-- A slice of ints that came in. -/
structure ArgI (w : World) (A : Option Addr) (n c : Nat) (L : List Int) : Prop where
  row : Row (Value.int .i64) w A L
  len : L.length = n
  le : ∀ x ∈ L, -9223372036854775808 ≤ x ∧ x ≤ 9223372036854775807
  cap : n ≤ c
  max : c ≤ maxLen
theorem ArgI.step {w w' : World} {A : Option Addr} {n c : Nat} {L : List Int} (h : ArgI w A n c L) (hb : Below w.heap.size w w') : ArgI w' A n c L := ⟨h.row.below hb, h.len, h.le, h.cap, h.max⟩
section
variable {H : Type} {enc : TypeId × Value → H} {W : World} {r : Reach} {base : Nat}
theorem open_intsA {v : Value} {d : DataW H} {p : List MemPlace} (hv : Value.okWide Try.prog W r base 22 v) (h : DataW.Trod enc Try.prog W 0 (fun _ => true) true 22 v d p) : ∃ A n c L, v = .slice A n c ∧ ArgI W A n c L := by
  obtain ⟨A, n, c, rfl⟩ := okWide_slice Try.underlying22 hv
  obtain ⟨fuel, hf⟩ := h
  refine ⟨A, n, c, ?_⟩
  rcases open_ints Try.underlying22 Try.underlying3 (by kernel_rfl) hf with ⟨hcs, _⟩ | ⟨a, len, cap, zs, hcs, hb, hl, hm, hz, _, hcell, hw⟩
  · injection hcs with hcs
    injection hcs with e1 e2 e3
    subst e1; subst e2; subst e3
    exact ⟨[], rfl, Row.nil, rfl, by simp, Nat.le_refl _, Nat.zero_le _⟩
  · injection hcs with hcs
    injection hcs with e1 e2 e3
    subst e1; subst e2; subst e3
    simp only [if_true] at hz
    refine ⟨zs.take n, rfl, fun hne => ?_, by rw [List.length_take]; omega, fun x hx => Num.bd_i64 (hw x (List.mem_of_mem_take hx)), by omega, by omega⟩
    have h0 : 0 < n := by
      rcases Nat.eq_zero_or_pos n with e | e
      · subst e; exact absurd rfl hne
      · exact e
    have c0 := hcell 0 (by omega)
    have hlt := World.block_lt_of_cell? W _ c0
    have hsp : a.spot = none := by
      cases hq : a.spot with
      | none => rfl
      | some z =>
        rw [show a.add 0 = a from rfl] at c0
        unfold World.cell? at c0
        rw [hq] at c0
        split at c0 <;> simp at c0
    obtain ⟨b, o, s⟩ := a
    simp only at hsp
    subst hsp
    refine ⟨b, o, rfl, hlt, fun j hj => ?_⟩
    rw [List.length_take] at hj
    have hj2 : j < zs.length := by omega
    have hc := hcell j hj2
    rw [Addr.add_mid] at hc
    rw [hc, List.getElem_take, List.getD_eq_getElem?_getD, List.getElem?_eq_getElem hj2]
    rfl
end
end Go.Proofs.Ytbgdkhbembjjlaa
