/- A parameter of type [4]byte, opened and shut. -/
import Derived.Test.YthfiaemdpfffcaaDoorNum
import Derived.Test.YthfiaemdpfffcaaDoorRows
import Derived.OpenShut
import Derived.KernelRfl
import Derived.WalkKit
namespace Go.Proofs.YthfiaemdpfffcaaDoor
open Go.RowKit Num Go.ChangeShapes Go.WideShapes
set_option linter.unusedVariables false
def b4V (b0 b1 b2 b3 : Nat) : Value := .agg #[.int .u8 (b0 : Int), .int .u8 (b1 : Int), .int .u8 (b2 : Int), .int .u8 (b3 : Int)]
def b4D {H : Type} (b0 b1 b2 b3 : Nat) : DataW H := .agg [.lit (.int .u8 (b0 : Int)), .lit (.int .u8 (b1 : Int)), .lit (.int .u8 (b2 : Int)), .lit (.int .u8 (b3 : Int))]
set_option linter.unusedSimpArgs false
set_option maxRecDepth 100000 in
theorem open_b4 {H : Type} {enc : TypeId × Value → H} {w : World} {base : Nat} {sp : Nat → Bool} {held : Bool} {r : Reach} {b0' : Nat} {v : Value} {d : DataW H} {p : List MemPlace} (hv : Value.okWide Tryd.prog w r b0' 22 v) (h : DataW.Trod enc Tryd.prog w base sp held 22 v d p) :
    ∃ b0 b1 b2 b3 : Nat, v = b4V b0 b1 b2 b3 ∧ d = b4D b0 b1 b2 b3 ∧ p = [] ∧ b0 < 256 ∧ b1 < 256 ∧ b2 < 256 ∧ b3 < 256 := by
  have hc : Tryd.prog.cellsOf 22 = 4 := by kernel_rfl
  have hc0 : Tryd.prog.cellsOf 5 = 1 := by kernel_rfl
  simp only [Value.okWide, Tryd.underlying22] at hv
  obtain ⟨cs, rfl, hsz, _⟩ := hv
  obtain ⟨l⟩ := cs
  match l, hsz.trans hc with
  | [c0, c1, c2, c3], _ =>
    obtain ⟨fuel, hf⟩ := h
    obtain ⟨xs, n, _, hx, _, hlen, hg⟩ := DataW.trod_array Tryd.underlying22 hf
    match xs, hlen with
    | [y0, y1, y2, y3], _ =>
      have g0 := hg 0 (by omega)
      have g1 := hg 1 (by omega)
      have g2 := hg 2 (by omega)
      have g3 := hg 3 (by omega)
      simp [Value.cells, hc, hc0] at g0 g1 g2 g3
      obtain ⟨a0, e0, rfl, s0⟩ := Go.DataW.trod_int Tryd.underlying5 g0
      obtain ⟨a1, e1, rfl, s1⟩ := Go.DataW.trod_int Tryd.underlying5 g1
      obtain ⟨a2, e2, rfl, s2⟩ := Go.DataW.trod_int Tryd.underlying5 g2
      obtain ⟨a3, e3, rfl, s3⟩ := Go.DataW.trod_int Tryd.underlying5 g3
      simp at e0 e1 e2 e3
      subst e0 e1 e2 e3
      simp only [Prod.mk.injEq] at hx
      have t0 := bd_u8 s0
      have t1 := bd_u8 s1
      have t2 := bd_u8 s2
      have t3 := bd_u8 s3
      obtain ⟨b0, rfl⟩ := Int.eq_ofNat_of_zero_le t0.1
      obtain ⟨b1, rfl⟩ := Int.eq_ofNat_of_zero_le t1.1
      obtain ⟨b2, rfl⟩ := Int.eq_ofNat_of_zero_le t2.1
      obtain ⟨b3, rfl⟩ := Int.eq_ofNat_of_zero_le t3.1
      exact ⟨b0, b1, b2, b3, rfl, by simpa [b4D] using hx.1, by simpa using hx.2, by omega, by omega, by omega, by omega⟩
set_option linter.unusedSimpArgs false
set_option maxRecDepth 100000 in
theorem shut_b4 {H : Type} {enc : TypeId × Value → H} {w : World} {base : Nat} {sp : Nat → Bool} {held : Bool} (b0 b1 b2 b3 : Nat) (h0 : b0 < 256) (h1 : b1 < 256) (h2 : b2 < 256) (h3 : b3 < 256) : DataW.Trod enc Tryd.prog w base sp held 22 (b4V b0 b1 b2 b3) (b4D b0 b1 b2 b3) [] := by
  have hc : Tryd.prog.cellsOf 22 = 4 := by kernel_rfl
  have hc0 : Tryd.prog.cellsOf 5 = 1 := by kernel_rfl
  have s : ∀ b : Nat, b < 256 → (Lit.int .u8 (b : Int)).wf = true := fun b h => by
    simp [Lit.wf, IntKind.min, IntKind.max, IntKind.signed, IntKind.bits]
    omega
  refine ⟨3, ?_⟩
  unfold b4V b4D
  simp [DataW.trod, Value.cells, Tryd.underlying22, Tryd.underlying5, hc, hc0, s b0 h0, s b1 h1, s b2 h2, s b3 h3, List.range, List.range.loop]
end Go.Proofs.YthfiaemdpfffcaaDoor
