/- A parameter of type [16]byte, opened. -/
import Derived.Test.YtfjdhhheofcanaaNum
import Derived.Test.YtfjdhhheofcanaaRegs
import Derived.Test.YtfjdhhheofcanaaRows
import Derived.OpenShut
import Derived.KernelRfl
import Derived.WalkKit
namespace Go.Proofs.Ytfjdhhheofcanaa
open Go.RowKit Num Cpu Go.ChangeShapes Go.WideShapes
set_option linter.unusedVariables false
set_option linter.unusedSimpArgs false
def at16 (l : List Nat) (j : Nat) : Nat := l.getD j 0
theorem at16_ok {l : List Nat} (h : ∀ b ∈ l, b < 256) : OkV (at16 l) := fun j _ => by
  unfold at16
  rw [List.getD_eq_getElem?_getD]
  cases hj : l[j]? with
  | none => simp
  | some b => simpa using h b (List.mem_of_getElem? hj)
set_option maxRecDepth 100000 in
set_option maxHeartbeats 4000000 in
theorem open_b16 {H : Type} {enc : TypeId × Value → H} {w : World} {base : Nat} {sp : Nat → Bool} {held : Bool} {r : Reach} {b0' : Nat} {v : Value} {d : DataW H} {p : List MemPlace} (hv : Value.okWide Try.prog w r b0' 22 v) (h : DataW.Trod enc Try.prog w base sp held 22 v d p) :
    ∃ f : Nat → Nat, v = .agg (rg f) ∧ p = [] ∧ OkV f := by
  have hc : Try.prog.cellsOf 22 = 16 := by kernel_rfl
  have hc0 : Try.prog.cellsOf 5 = 1 := by kernel_rfl
  simp only [Value.okWide, Try.underlying22] at hv
  obtain ⟨cs, rfl, hsz, _⟩ := hv
  obtain ⟨l⟩ := cs
  match l, hsz.trans hc with
  | [c0, c1, c2, c3, c4, c5, c6, c7, c8, c9, c10, c11, c12, c13, c14, c15], _ =>
    obtain ⟨fuel, hf⟩ := h
    obtain ⟨xs, n, _, hx, _, hlen, hg⟩ := DataW.trod_array Try.underlying22 hf
    match xs, hlen with
    | [y0, y1, y2, y3, y4, y5, y6, y7, y8, y9, y10, y11, y12, y13, y14, y15], _ =>
      have g0 := hg 0 (by omega)
      have g1 := hg 1 (by omega)
      have g2 := hg 2 (by omega)
      have g3 := hg 3 (by omega)
      have g4 := hg 4 (by omega)
      have g5 := hg 5 (by omega)
      have g6 := hg 6 (by omega)
      have g7 := hg 7 (by omega)
      have g8 := hg 8 (by omega)
      have g9 := hg 9 (by omega)
      have g10 := hg 10 (by omega)
      have g11 := hg 11 (by omega)
      have g12 := hg 12 (by omega)
      have g13 := hg 13 (by omega)
      have g14 := hg 14 (by omega)
      have g15 := hg 15 (by omega)
      simp [Value.cells, hc, hc0] at g0 g1 g2 g3 g4 g5 g6 g7 g8 g9 g10 g11 g12 g13 g14 g15
      obtain ⟨a0, e0, rfl, s0⟩ := Go.DataW.trod_int Try.underlying5 g0
      obtain ⟨a1, e1, rfl, s1⟩ := Go.DataW.trod_int Try.underlying5 g1
      obtain ⟨a2, e2, rfl, s2⟩ := Go.DataW.trod_int Try.underlying5 g2
      obtain ⟨a3, e3, rfl, s3⟩ := Go.DataW.trod_int Try.underlying5 g3
      obtain ⟨a4, e4, rfl, s4⟩ := Go.DataW.trod_int Try.underlying5 g4
      obtain ⟨a5, e5, rfl, s5⟩ := Go.DataW.trod_int Try.underlying5 g5
      obtain ⟨a6, e6, rfl, s6⟩ := Go.DataW.trod_int Try.underlying5 g6
      obtain ⟨a7, e7, rfl, s7⟩ := Go.DataW.trod_int Try.underlying5 g7
      obtain ⟨a8, e8, rfl, s8⟩ := Go.DataW.trod_int Try.underlying5 g8
      obtain ⟨a9, e9, rfl, s9⟩ := Go.DataW.trod_int Try.underlying5 g9
      obtain ⟨a10, e10, rfl, s10⟩ := Go.DataW.trod_int Try.underlying5 g10
      obtain ⟨a11, e11, rfl, s11⟩ := Go.DataW.trod_int Try.underlying5 g11
      obtain ⟨a12, e12, rfl, s12⟩ := Go.DataW.trod_int Try.underlying5 g12
      obtain ⟨a13, e13, rfl, s13⟩ := Go.DataW.trod_int Try.underlying5 g13
      obtain ⟨a14, e14, rfl, s14⟩ := Go.DataW.trod_int Try.underlying5 g14
      obtain ⟨a15, e15, rfl, s15⟩ := Go.DataW.trod_int Try.underlying5 g15
      simp at e0 e1 e2 e3 e4 e5 e6 e7 e8 e9 e10 e11 e12 e13 e14 e15
      subst e0 e1 e2 e3 e4 e5 e6 e7 e8 e9 e10 e11 e12 e13 e14 e15
      simp only [Prod.mk.injEq] at hx
      have t0 := bd_u8 s0
      obtain ⟨b0, rfl⟩ := Int.eq_ofNat_of_zero_le t0.1
      have t1 := bd_u8 s1
      obtain ⟨b1, rfl⟩ := Int.eq_ofNat_of_zero_le t1.1
      have t2 := bd_u8 s2
      obtain ⟨b2, rfl⟩ := Int.eq_ofNat_of_zero_le t2.1
      have t3 := bd_u8 s3
      obtain ⟨b3, rfl⟩ := Int.eq_ofNat_of_zero_le t3.1
      have t4 := bd_u8 s4
      obtain ⟨b4, rfl⟩ := Int.eq_ofNat_of_zero_le t4.1
      have t5 := bd_u8 s5
      obtain ⟨b5, rfl⟩ := Int.eq_ofNat_of_zero_le t5.1
      have t6 := bd_u8 s6
      obtain ⟨b6, rfl⟩ := Int.eq_ofNat_of_zero_le t6.1
      have t7 := bd_u8 s7
      obtain ⟨b7, rfl⟩ := Int.eq_ofNat_of_zero_le t7.1
      have t8 := bd_u8 s8
      obtain ⟨b8, rfl⟩ := Int.eq_ofNat_of_zero_le t8.1
      have t9 := bd_u8 s9
      obtain ⟨b9, rfl⟩ := Int.eq_ofNat_of_zero_le t9.1
      have t10 := bd_u8 s10
      obtain ⟨b10, rfl⟩ := Int.eq_ofNat_of_zero_le t10.1
      have t11 := bd_u8 s11
      obtain ⟨b11, rfl⟩ := Int.eq_ofNat_of_zero_le t11.1
      have t12 := bd_u8 s12
      obtain ⟨b12, rfl⟩ := Int.eq_ofNat_of_zero_le t12.1
      have t13 := bd_u8 s13
      obtain ⟨b13, rfl⟩ := Int.eq_ofNat_of_zero_le t13.1
      have t14 := bd_u8 s14
      obtain ⟨b14, rfl⟩ := Int.eq_ofNat_of_zero_le t14.1
      have t15 := bd_u8 s15
      obtain ⟨b15, rfl⟩ := Int.eq_ofNat_of_zero_le t15.1
      refine ⟨at16 [b0, b1, b2, b3, b4, b5, b6, b7, b8, b9, b10, b11, b12, b13, b14, b15], rfl, by simpa using hx.2, at16_ok fun b hb => ?_⟩
      simp only [List.mem_cons, List.not_mem_nil, or_false] at hb
      rcases hb with rfl | rfl | rfl | rfl | rfl | rfl | rfl | rfl | rfl | rfl | rfl | rfl | rfl | rfl | rfl | rfl <;> omega
end Go.Proofs.Ytfjdhhheofcanaa
