/- What the frames round the walks of layer 2 need: profiles as arguments, and the table of words that the rows list. -/
import Derived.Test.YtgndlgcgphgilaaDoorRows
import Derived.Test.YtgndlgcgphgilaaDoorProfName
import Derived.WalkKit
import Derived.ProofKit
import Derived.LaidMore
import Derived.OpenShut
import Derived.ShutString
import Derived.ChangeOld
import Derived.Below
import Derived.Stop.Joined
namespace Go.Proofs.YtgndlgcgphgilaaDoor
open Go.ChangeShapes Go.WideShapes Go.ChangeAt Go.RowKit
set_option linter.unusedVariables false

set_option linter.unusedSimpArgs false in
theorem open_prof {H : Type} {enc : TypeId × Value → H} {w : World} {base : Nat} {sp : Nat → Bool} {held : Bool} {r : Reach} {b0' : Nat} {v : Value} {d : DataW H} {p : List MemPlace} (hv : Value.okWide Tryd.prog w r b0' 23 v) (h : DataW.Trod enc Tryd.prog w base sp held 23 v d p) :
    ∃ (l : Int) (b0 : Bool) (b1 : Bool) (b2 : Bool) (b3 : Bool) (b4 : Bool) (b5 : Bool) (b6 : Bool), v = .agg #[.int .i64 l, .bool b0, .bool b1, .bool b2, .bool b3, .bool b4, .bool b5, .bool b6] ∧ d = .agg [.lit (.int .i64 l), .lit (.bool b0), .lit (.bool b1), .lit (.bool b2), .lit (.bool b3), .lit (.bool b4), .lit (.bool b5), .lit (.bool b6)] ∧ p = [] ∧ (Lit.int .i64 l).wf = true := by
  have hc : Tryd.prog.cellsOf 23 = 8 := by kernel_rfl
  have hc0 : Tryd.prog.cellsOf 4 = 1 := by kernel_rfl
  have hc1 : Tryd.prog.cellsOf 3 = 1 := by kernel_rfl
  obtain ⟨cs, rfl, hsz⟩ := okWide_struct Tryd.underlying23 hv
  obtain ⟨l⟩ := cs
  match l, hsz.trans hc with
  | [c0, c1, c2, c3, c4, c5, c6, c7], _ =>
    obtain ⟨fuel, hf⟩ := h
    obtain ⟨xs, n, _, hx, _, hlen, hg⟩ := DataW.trod_struct Tryd.underlying23 hf
    match xs, hlen with
    | [y0, y1, y2, y3, y4, y5, y6, y7], _ =>
      have g0 := hg 0 _ rfl
      have g1 := hg 1 _ rfl
      have g2 := hg 2 _ rfl
      have g3 := hg 3 _ rfl
      have g4 := hg 4 _ rfl
      have g5 := hg 5 _ rfl
      have g6 := hg 6 _ rfl
      have g7 := hg 7 _ rfl
      simp [Value.cells, hc, hc0, hc1] at g0 g1 g2 g3 g4 g5 g6 g7
      obtain ⟨l, e0, rfl, s_l⟩ := Go.DataW.trod_int Tryd.underlying3 g0
      obtain ⟨b0, e1, rfl⟩ := Go.DataW.trod_bool Tryd.underlying4 g1
      obtain ⟨b1, e2, rfl⟩ := Go.DataW.trod_bool Tryd.underlying4 g2
      obtain ⟨b2, e3, rfl⟩ := Go.DataW.trod_bool Tryd.underlying4 g3
      obtain ⟨b3, e4, rfl⟩ := Go.DataW.trod_bool Tryd.underlying4 g4
      obtain ⟨b4, e5, rfl⟩ := Go.DataW.trod_bool Tryd.underlying4 g5
      obtain ⟨b5, e6, rfl⟩ := Go.DataW.trod_bool Tryd.underlying4 g6
      obtain ⟨b6, e7, rfl⟩ := Go.DataW.trod_bool Tryd.underlying4 g7
      simp at e0 e1 e2 e3 e4 e5 e6 e7
      subst e0 e1 e2 e3 e4 e5 e6 e7
      simp only [Prod.mk.injEq] at hx
      exact ⟨l, b0, b1, b2, b3, b4, b5, b6, rfl, by simpa using hx.1, by simpa using hx.2, s_l⟩
set_option linter.unusedSimpArgs false in
theorem shut_prof {H : Type} {enc : TypeId × Value → H} {w : World} {base : Nat} {sp : Nat → Bool} {held : Bool} (l : Int) (b0 : Bool) (b1 : Bool) (b2 : Bool) (b3 : Bool) (b4 : Bool) (b5 : Bool) (b6 : Bool) (s_l : (Lit.int .i64 l).wf = true) : DataW.Trod enc Tryd.prog w base sp held 23 (.agg #[.int .i64 l, .bool b0, .bool b1, .bool b2, .bool b3, .bool b4, .bool b5, .bool b6]) (.agg [.lit (.int .i64 l), .lit (.bool b0), .lit (.bool b1), .lit (.bool b2), .lit (.bool b3), .lit (.bool b4), .lit (.bool b5), .lit (.bool b6)]) [] := by
  have hc : Tryd.prog.cellsOf 23 = 8 := by kernel_rfl
  have hc0 : Tryd.prog.cellsOf 4 = 1 := by kernel_rfl
  have hc1 : Tryd.prog.cellsOf 3 = 1 := by kernel_rfl
  refine ⟨3, ?_⟩
  simp [DataW.trod, Value.cells, Tryd.underlying23, Tryd.underlying4, Tryd.underlying3, hc, hc0, hc1, s_l, List.range, List.range.loop]

theorem gWords : Tryd.prog.globalNamed "cosmac/profile.levelWords" = some 0 := by kernel_rfl
theorem tWords : (Tryd.prog.globals[0]?).map (·.type) = some 50 := by kernel_rfl
def laidL : List (String × DataW Unit) := [("cosmac/profile.levelWords", Rows.laid_cosmac_profile_levelWords)]
theorem door_met (os : Os) (args : Array Value) : laidMetH Tryd.prog laidL ((World.doorLaid Tryd.prog 400 os).forCall (fun _ _ => 0) ⟨#[], args, []⟩).memory :=
  laidMetH_of_parts3 (fuel := 8) (laidMet_of_run' 8 (by kernel_rfl) (by kernel_rfl)) (by kernel_rfl) (by kernel_rfl)
theorem of_laid {W : World} (h : laidMetH Tryd.prog laidL W) : Laid W := by
  rw [MakeChecks.laidMetH_plain _ _ _ (by kernel_rfl)] at h
  obtain ⟨ps, ⟨g0, t0, cs0, f0, p0, q0, hg0, ht0, hv0, hd0, _⟩, _, _⟩ := h
  obtain rfl := Option.some.inj (gWords.symm.trans hg0)
  obtain rfl := Option.some.inj (tWords.symm.trans ht0)
  obtain ⟨xs, m1, e1, hx1, hlen, hn3, hel⟩ := DataW.trod_array Tryd.underlying50 hd0
  have c3 : Tryd.prog.cellsOf 50 = 3 := by kernel_rfl
  have c1 : Tryd.prog.cellsOf 9 = 1 := by kernel_rfl
  have h0 := hel 0 (by decide)
  have h1 := hel 1 (by decide)
  have h2 := hel 2 (by decide)
  rw [c3] at hlen
  rw [c1] at h0 h1 h2
  have hcell := fun j => World.var?_cell hg0 hv0 j
  obtain ⟨cl⟩ := cs0
  match cl, hlen, xs, hn3, h0, h1, h2, hx1, hcell with
  | [x0, x1, x2], _, [y0, y1, y2], _, h0, h1, h2, hx1, hcell =>
    simp only [Prod.mk.injEq] at hx1
    obtain ⟨s0, r0, rfl, _⟩ := DataW.trod_string Tryd.underlying9 (show DataW.trod _ Tryd.prog W 0 _ false m1 9 [x0] = some y0 from h0)
    obtain ⟨s1, r1, rfl, _⟩ := DataW.trod_string Tryd.underlying9 (show DataW.trod _ Tryd.prog W 0 _ false m1 9 [x1] = some y1 from h1)
    obtain ⟨s2, r2, rfl, _⟩ := DataW.trod_string Tryd.underlying9 (show DataW.trod _ Tryd.prog W 0 _ false m1 9 [x2] = some y2 from h2)
    simp at r0 r1 r2
    subst r0 r1 r2
    have e := hx1.1
    simp [Rows.laid_cosmac_profile_levelWords] at e
    obtain ⟨e0, e1, e2⟩ := e
    have k0 := hcell 0
    have k1 := hcell 1
    have k2 := hcell 2
    simp at k0 k1 k2
    have q0 : s0 = ⟨#[99, 104, 105, 112, 56]⟩ := Go.WideShapes.bytes_inj (by simpa using e0.symm)
    rw [q0] at k0
    have q1 : s1 = ⟨#[115, 99, 104, 105, 112]⟩ := Go.WideShapes.bytes_inj (by simpa using e1.symm)
    rw [q1] at k1
    have q2 : s2 = ⟨#[120, 111, 99, 104, 105, 112]⟩ := Go.WideShapes.bytes_inj (by simpa using e2.symm)
    rw [q2] at k2
    exact ⟨World.block_lt_of_cell? W _ k0, k0, k1, k2⟩
end Go.Proofs.YtgndlgcgphgilaaDoor
