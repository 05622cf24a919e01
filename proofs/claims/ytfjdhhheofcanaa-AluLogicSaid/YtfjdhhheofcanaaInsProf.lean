/- Instructions and profiles as arguments, opened and shut. -/
import Derived.Test.YtfjdhhheofcanaaRows
import Derived.WalkKit
import Derived.ProofKit
import Derived.OpenShut
import Derived.ShutString
import Derived.ChangeOld
import Derived.Below
import Derived.KernelRfl
namespace Go.Proofs.Ytfjdhhheofcanaa
open Go.ChangeShapes Go.WideShapes Go.ChangeAt Go.RowKit
set_option linter.unusedVariables false
set_option linter.unusedSimpArgs false

set_option maxRecDepth 100000 in
theorem open_instr {H : Type} {enc : TypeId × Value → H} {w : World} {base : Nat} {sp : Nat → Bool} {held : Bool} {r : Reach} {b0' : Nat} {v : Value} {d : DataW H} {p : List MemPlace} (hv : Value.okWide Try.prog w r b0' 24 v) (h : DataW.Trod enc Try.prog w base sp held 24 v d p) :
    ∃ (o : Int) (x : Int) (y : Int) (n : Int) (nn : Int) (a : Int) (len : Int), v = .agg #[.int .i64 o, .int .i64 x, .int .i64 y, .int .i64 n, .int .i64 nn, .int .i64 a, .int .i64 len] ∧ d = .agg [.lit (.int .i64 o), .lit (.int .i64 x), .lit (.int .i64 y), .lit (.int .i64 n), .lit (.int .i64 nn), .lit (.int .i64 a), .lit (.int .i64 len)] ∧ p = [] ∧ (Lit.int .i64 o).wf = true ∧ (Lit.int .i64 x).wf = true ∧ (Lit.int .i64 y).wf = true ∧ (Lit.int .i64 n).wf = true ∧ (Lit.int .i64 nn).wf = true ∧ (Lit.int .i64 a).wf = true ∧ (Lit.int .i64 len).wf = true := by
  have hc : Try.prog.cellsOf 24 = 7 := by kernel_rfl
  have hc0 : Try.prog.cellsOf 3 = 1 := by kernel_rfl
  obtain ⟨cs, rfl, hsz⟩ := okWide_struct Try.underlying24 hv
  obtain ⟨l⟩ := cs
  match l, hsz.trans hc with
  | [c0, c1, c2, c3, c4, c5, c6], _ =>
    obtain ⟨fuel, hf⟩ := h
    obtain ⟨xs, n, _, hx, _, hlen, hg⟩ := DataW.trod_struct Try.underlying24 hf
    match xs, hlen with
    | [y0, y1, y2, y3, y4, y5, y6], _ =>
      have g0 := hg 0 _ rfl
      have g1 := hg 1 _ rfl
      have g2 := hg 2 _ rfl
      have g3 := hg 3 _ rfl
      have g4 := hg 4 _ rfl
      have g5 := hg 5 _ rfl
      have g6 := hg 6 _ rfl
      simp [Value.cells, hc, hc0] at g0 g1 g2 g3 g4 g5 g6
      obtain ⟨o, e0, rfl, s_o⟩ := Go.DataW.trod_int Try.underlying3 g0
      obtain ⟨x, e1, rfl, s_x⟩ := Go.DataW.trod_int Try.underlying3 g1
      obtain ⟨y, e2, rfl, s_y⟩ := Go.DataW.trod_int Try.underlying3 g2
      obtain ⟨n, e3, rfl, s_n⟩ := Go.DataW.trod_int Try.underlying3 g3
      obtain ⟨nn, e4, rfl, s_nn⟩ := Go.DataW.trod_int Try.underlying3 g4
      obtain ⟨a, e5, rfl, s_a⟩ := Go.DataW.trod_int Try.underlying3 g5
      obtain ⟨len, e6, rfl, s_len⟩ := Go.DataW.trod_int Try.underlying3 g6
      simp at e0 e1 e2 e3 e4 e5 e6
      subst e0 e1 e2 e3 e4 e5 e6
      simp only [Prod.mk.injEq] at hx
      exact ⟨o, x, y, n, nn, a, len, rfl, by simpa using hx.1, by simpa using hx.2, s_o, s_x, s_y, s_n, s_nn, s_a, s_len⟩

set_option maxRecDepth 100000 in
theorem shut_instr {H : Type} {enc : TypeId × Value → H} {w : World} {base : Nat} {sp : Nat → Bool} {held : Bool} (o : Int) (x : Int) (y : Int) (n : Int) (nn : Int) (a : Int) (len : Int) (s_o : (Lit.int .i64 o).wf = true) (s_x : (Lit.int .i64 x).wf = true) (s_y : (Lit.int .i64 y).wf = true) (s_n : (Lit.int .i64 n).wf = true) (s_nn : (Lit.int .i64 nn).wf = true) (s_a : (Lit.int .i64 a).wf = true) (s_len : (Lit.int .i64 len).wf = true) : DataW.Trod enc Try.prog w base sp held 24 (.agg #[.int .i64 o, .int .i64 x, .int .i64 y, .int .i64 n, .int .i64 nn, .int .i64 a, .int .i64 len]) (.agg [.lit (.int .i64 o), .lit (.int .i64 x), .lit (.int .i64 y), .lit (.int .i64 n), .lit (.int .i64 nn), .lit (.int .i64 a), .lit (.int .i64 len)]) [] := by
  have hc : Try.prog.cellsOf 24 = 7 := by kernel_rfl
  have hc0 : Try.prog.cellsOf 3 = 1 := by kernel_rfl
  refine ⟨3, ?_⟩
  simp [DataW.trod, Value.cells, Try.underlying24, Try.underlying3, hc, hc0, s_o, s_x, s_y, s_n, s_nn, s_a, s_len, List.range, List.range.loop]
set_option linter.unusedSimpArgs false in
theorem open_prof {H : Type} {enc : TypeId × Value → H} {w : World} {base : Nat} {sp : Nat → Bool} {held : Bool} {r : Reach} {b0' : Nat} {v : Value} {d : DataW H} {p : List MemPlace} (hv : Value.okWide Try.prog w r b0' 26 v) (h : DataW.Trod enc Try.prog w base sp held 26 v d p) :
    ∃ (l : Int) (b0 : Bool) (b1 : Bool) (b2 : Bool) (b3 : Bool) (b4 : Bool) (b5 : Bool) (b6 : Bool), v = .agg #[.int .i64 l, .bool b0, .bool b1, .bool b2, .bool b3, .bool b4, .bool b5, .bool b6] ∧ d = .agg [.lit (.int .i64 l), .lit (.bool b0), .lit (.bool b1), .lit (.bool b2), .lit (.bool b3), .lit (.bool b4), .lit (.bool b5), .lit (.bool b6)] ∧ p = [] ∧ (Lit.int .i64 l).wf = true := by
  have hc : Try.prog.cellsOf 26 = 8 := by kernel_rfl
  have hc0 : Try.prog.cellsOf 4 = 1 := by kernel_rfl
  have hc1 : Try.prog.cellsOf 3 = 1 := by kernel_rfl
  obtain ⟨cs, rfl, hsz⟩ := okWide_struct Try.underlying26 hv
  obtain ⟨l⟩ := cs
  match l, hsz.trans hc with
  | [c0, c1, c2, c3, c4, c5, c6, c7], _ =>
    obtain ⟨fuel, hf⟩ := h
    obtain ⟨xs, n, _, hx, _, hlen, hg⟩ := DataW.trod_struct Try.underlying26 hf
    match xs, hlen with
    | [y0, y1, y2, y3, y4, y5, y6, y7], _ =>
      have g0 := hg 0 _ rfl
      have g1 := hg 1 _ rfl
      have g2 := hg 2 _ rfl
      have g3 := hg 3 _ rfl
      have g4 := hg 4 _ rfl
      have g5 := hg 5 _ rfl
      have g6 := hg 6 _ rfl
      have g7 := hg 7 _ rfl
      simp [Value.cells, hc, hc0, hc1] at g0 g1 g2 g3 g4 g5 g6 g7
      obtain ⟨l, e0, rfl, s_l⟩ := Go.DataW.trod_int Try.underlying3 g0
      obtain ⟨b0, e1, rfl⟩ := Go.DataW.trod_bool Try.underlying4 g1
      obtain ⟨b1, e2, rfl⟩ := Go.DataW.trod_bool Try.underlying4 g2
      obtain ⟨b2, e3, rfl⟩ := Go.DataW.trod_bool Try.underlying4 g3
      obtain ⟨b3, e4, rfl⟩ := Go.DataW.trod_bool Try.underlying4 g4
      obtain ⟨b4, e5, rfl⟩ := Go.DataW.trod_bool Try.underlying4 g5
      obtain ⟨b5, e6, rfl⟩ := Go.DataW.trod_bool Try.underlying4 g6
      obtain ⟨b6, e7, rfl⟩ := Go.DataW.trod_bool Try.underlying4 g7
      simp at e0 e1 e2 e3 e4 e5 e6 e7
      subst e0 e1 e2 e3 e4 e5 e6 e7
      simp only [Prod.mk.injEq] at hx
      exact ⟨l, b0, b1, b2, b3, b4, b5, b6, rfl, by simpa using hx.1, by simpa using hx.2, s_l⟩
set_option linter.unusedSimpArgs false in
theorem shut_prof {H : Type} {enc : TypeId × Value → H} {w : World} {base : Nat} {sp : Nat → Bool} {held : Bool} (l : Int) (b0 : Bool) (b1 : Bool) (b2 : Bool) (b3 : Bool) (b4 : Bool) (b5 : Bool) (b6 : Bool) (s_l : (Lit.int .i64 l).wf = true) : DataW.Trod enc Try.prog w base sp held 26 (.agg #[.int .i64 l, .bool b0, .bool b1, .bool b2, .bool b3, .bool b4, .bool b5, .bool b6]) (.agg [.lit (.int .i64 l), .lit (.bool b0), .lit (.bool b1), .lit (.bool b2), .lit (.bool b3), .lit (.bool b4), .lit (.bool b5), .lit (.bool b6)]) [] := by
  have hc : Try.prog.cellsOf 26 = 8 := by kernel_rfl
  have hc0 : Try.prog.cellsOf 4 = 1 := by kernel_rfl
  have hc1 : Try.prog.cellsOf 3 = 1 := by kernel_rfl
  refine ⟨3, ?_⟩
  simp [DataW.trod, Value.cells, Try.underlying26, Try.underlying4, Try.underlying3, hc, hc0, hc1, s_l, List.range, List.range.loop]
end Go.Proofs.Ytfjdhhheofcanaa
