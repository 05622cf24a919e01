/- Arguments of the laws of layer 7 opened: slices of 16-bit numbers, seeds of planes. -/
import Derived.Test.YtfijkbckokcbnaaPlaneBits
import Derived.ChangeSlices
import Derived.Deep.SlicePairs
import Derived.Carry
import Derived.ChangeOld
import Derived.OpenShut
import Derived.ShutString
namespace Go.Proofs.Ytfijkbckokcbnaa
open Go.RowKit Go.ChangeShapes Go.WideShapes
set_option linter.unusedVariables false

/-- A slice of numbers that came in. -/
structure Arg16 (w : World) (A : Option Addr) (n : Nat) (L : List Nat) : Prop where
  rd : Rd16 w A L
  le : ∀ x ∈ L, x ≤ 65535
  len : L.length = n
section
variable {H : Type} {enc : TypeId × Value → H} {W : World} {r : Reach} {base : Nat}
theorem open_words {v : Value} {d : DataW H} {p : List MemPlace} (hv : Value.okWide Try.prog W r base 25 v) (h : DataW.Trod enc Try.prog W 0 (fun _ => true) true 25 v d p) : ∃ A n c L, v = .slice A n c ∧ Arg16 W A n L := by
  obtain ⟨A, n, c, rfl⟩ := okWide_slice Try.underlying25 hv
  obtain ⟨fuel, hf⟩ := h
  refine ⟨A, n, c, ?_⟩
  rcases open_ints Try.underlying25 Try.underlying54 (by kernel_rfl) hf with ⟨hcs, _⟩ | ⟨a, len, cap, zs, hcs, hb, hl, hm, hz, _, hcell, hw⟩
  · injection hcs with hcs
    injection hcs with e1 e2 e3
    subst e1; subst e2; subst e3
    exact ⟨[], rfl, Rd16.nil, by simp, rfl⟩
  · injection hcs with hcs
    injection hcs with e1 e2 e3
    subst e1; subst e2; subst e3
    simp only [if_true] at hz
    have hget : ∀ i, i < zs.length → 0 ≤ zs.getD i 0 ∧ zs.getD i 0 ≤ 65535 := fun i hi => by
      rw [List.getD_eq_getElem?_getD, List.getElem?_eq_getElem hi]
      exact Num.bd_u16 (hw _ (List.getElem_mem hi))
    refine ⟨(zs.take n).map Int.toNat, rfl, fun hne => ?_, fun x hx => ?_, by rw [List.length_map, List.length_take]; omega⟩
    · have h0 : 0 < n := by
        rcases Nat.eq_zero_or_pos n with e | e
        · subst e; exact absurd rfl hne
        · exact e
      have hlt := World.block_lt_of_cell? W _ (hcell 0 (by omega))
      rw [add_block16] at hlt
      refine ⟨a, rfl, hlt, fun j hj => ?_⟩
      rw [List.length_map, List.length_take] at hj
      have hj2 : j < zs.length := by omega
      rw [hcell j hj2, List.getElem_map, List.getElem_take]
      have hb := (hget j hj2).1
      rw [List.getD_eq_getElem?_getD, List.getElem?_eq_getElem hj2] at hb ⊢
      simp only [Option.getD_some] at hb ⊢
      rw [Int.toNat_of_nonneg hb]
    · obtain ⟨z, hz1, rfl⟩ := List.mem_map.1 hx
      have := Num.bd_u16 (hw z (List.mem_of_mem_take hz1))
      omega
end
set_option linter.unusedSimpArgs false in
theorem open_seed {H : Type} {enc : TypeId × Value → H} {w : World} {base : Nat} {sp : Nat → Bool} {held : Bool} {r : Reach} {b0' : Nat} {v : Value} {d : DataW H} {p : List MemPlace} (hv : Value.okWide Try.prog w r b0' 23 v) (h : DataW.Trod enc Try.prog w base sp held 23 v d p) :
    ∃ (a0 : Int) (a1 : Int) (a2 : Int), v = .agg #[.int .i64 a0, .int .i64 a1, .int .i64 a2] ∧ d = .agg [.lit (.int .i64 a0), .lit (.int .i64 a1), .lit (.int .i64 a2)] ∧ p = [] ∧ (Lit.int .i64 a0).wf = true ∧ (Lit.int .i64 a1).wf = true ∧ (Lit.int .i64 a2).wf = true := by
  have hc : Try.prog.cellsOf 23 = 3 := by kernel_rfl
  have hc0 : Try.prog.cellsOf 3 = 1 := by kernel_rfl
  obtain ⟨cs, rfl, hsz⟩ := okWide_struct Try.underlying23 hv
  obtain ⟨l⟩ := cs
  match l, hsz.trans hc with
  | [c0, c1, c2], _ =>
    obtain ⟨fuel, hf⟩ := h
    obtain ⟨xs, n, _, hx, _, hlen, hg⟩ := DataW.trod_struct Try.underlying23 hf
    match xs, hlen with
    | [y0, y1, y2], _ =>
      have g0 := hg 0 _ rfl
      have g1 := hg 1 _ rfl
      have g2 := hg 2 _ rfl
      simp [Value.cells, hc, hc0] at g0 g1 g2
      obtain ⟨a0, e0, rfl, s_a0⟩ := Go.DataW.trod_int Try.underlying3 g0
      obtain ⟨a1, e1, rfl, s_a1⟩ := Go.DataW.trod_int Try.underlying3 g1
      obtain ⟨a2, e2, rfl, s_a2⟩ := Go.DataW.trod_int Try.underlying3 g2
      simp at e0 e1 e2
      subst e0 e1 e2
      simp only [Prod.mk.injEq] at hx
      exact ⟨a0, a1, a2, rfl, by simpa using hx.1, by simpa using hx.2, s_a0, s_a1, s_a2⟩
set_option linter.unusedSimpArgs false in
theorem shut_seed {H : Type} {enc : TypeId × Value → H} {w : World} {base : Nat} {sp : Nat → Bool} {held : Bool} (a0 : Int) (a1 : Int) (a2 : Int) (s_a0 : (Lit.int .i64 a0).wf = true) (s_a1 : (Lit.int .i64 a1).wf = true) (s_a2 : (Lit.int .i64 a2).wf = true) : DataW.Trod enc Try.prog w base sp held 23 (.agg #[.int .i64 a0, .int .i64 a1, .int .i64 a2]) (.agg [.lit (.int .i64 a0), .lit (.int .i64 a1), .lit (.int .i64 a2)]) [] := by
  have hc : Try.prog.cellsOf 23 = 3 := by kernel_rfl
  have hc0 : Try.prog.cellsOf 3 = 1 := by kernel_rfl
  refine ⟨3, ?_⟩
  simp [DataW.trod, Value.cells, Try.underlying23, Try.underlying3, hc, hc0, s_a0, s_a1, s_a2, List.range, List.range.loop]

end Go.Proofs.Ytfijkbckokcbnaa
