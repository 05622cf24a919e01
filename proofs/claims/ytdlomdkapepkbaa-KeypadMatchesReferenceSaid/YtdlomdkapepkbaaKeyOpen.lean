/- Arguments of the laws of layer 9 opened: events and slices of events. -/
import Derived.Test.YtdlomdkapepkbaaKeyBox
import Derived.Test.YtdlomdkapepkbaaRows
import Derived.ProofKit
import Derived.OpenShut
import Derived.ChangeSlices
import Derived.Deep.SlicePairs
import Derived.Carry
import Derived.ChangeOld
namespace Go.Proofs.Ytdlomdkapepkbaa
open Go.RowKit Go.ChangeShapes Go.WideShapes
set_option linter.unusedVariables false
set_option linter.unusedSimpArgs false
set_option linter.constructorNameAsVariable false
set_option maxRecDepth 100000

/-- A slice of events that came in. -/
structure ArgE (w : World) (A : Option Addr) (n c : Nat) (l : List Ev) : Prop where
  ev : Evs w A n l
  cap : n ≤ c
  max : c ≤ maxLen
theorem ArgE.step {w w' : World} {A : Option Addr} {n c : Nat} {l : List Ev} (h : ArgE w A n c l) (hb : Below w.heap.size w w') : ArgE w' A n c l := ⟨h.ev.step hb, h.cap, h.max⟩
theorem laidOut9 : laidOutB Try.prog = true := by kernel_rfl
section
variable {H : Type} {enc : TypeId × Value → H} {W : World} {r : Reach} {base : Nat}
theorem event_of {fuel : Nat} {cs : List Value} {x : DataW H × List MemPlace} (h : DataW.trod enc Try.prog W 0 (fun _ => true) true fuel 30 cs = some x) : ∃ e : Ev, cs = (ec e).toList ∧ e.ok := by
  have hc : Try.prog.cellsOf 30 = 2 := by kernel_rfl
  have hi : Try.prog.cellsOf 3 = 1 := by kernel_rfl
  have hb : Try.prog.cellsOf 4 = 1 := by kernel_rfl
  obtain ⟨xs, n, _, hx, hcl, hlen, hg⟩ := DataW.trod_struct Try.underlying30 h
  match cs, hcl.trans hc, xs, hlen with
  | [c0, c1], _, [y0, y1], _ =>
    have g0 := hg 0 _ rfl
    have g1 := hg 1 _ rfl
    simp [hi, hb] at g0 g1
    obtain ⟨a0, e0, _, s0⟩ := Go.DataW.trod_int Try.underlying3 g0
    obtain ⟨a1, e1, _⟩ := Go.DataW.trod_bool Try.underlying4 g1
    simp only [List.cons.injEq, and_true] at e0 e1
    subst e0 e1
    exact ⟨⟨a0, a1⟩, rfl, Num.bd_i64 s0⟩
theorem open_event {v : Value} {d : DataW H} {p : List MemPlace} (hv : Value.okWide Try.prog W r base 30 v) (h : DataW.Trod enc Try.prog W 0 (fun _ => true) true 30 v d p) : ∃ e : Ev, v = .agg (ec e) ∧ e.ok := by
  obtain ⟨cs, rfl, hsz⟩ := okWide_struct Try.underlying30 hv
  obtain ⟨fuel, hf⟩ := h
  obtain ⟨e, he, ok⟩ := event_of hf
  exact ⟨e, by rw [← Array.toArray_toList (xs := ec e), ← he]; rfl, ok⟩
theorem open_events {v : Value} {d : DataW H} {p : List MemPlace} (hv : Value.okWide Try.prog W r base 22 v) (h : DataW.Trod enc Try.prog W 0 (fun _ => true) true 22 v d p) : ∃ A n c l, v = .slice A n c ∧ ArgE W A n c l := by
  obtain ⟨A, n, c, rfl⟩ := okWide_slice Try.underlying22 hv
  obtain ⟨fuel, hf⟩ := h
  have ce : Try.prog.cellsOf 30 = 2 := by kernel_rfl
  rcases Go.Deep.open_slice Try.underlying22 hf with ⟨hcs, _⟩ | ⟨a, len, cap, m, k, D, Pl, hcs, hb, hl, hm, hmm, _, hi⟩
  · injection hcs with hcs
    injection hcs with e1 e2 e3
    subst e1; subst e2; subst e3
    exact ⟨none, 0, 0, [], rfl, ⟨rfl, Nat.zero_le _, fun i hi => absurd hi (Nat.not_lt_zero i)⟩, Nat.le_refl _, Nat.zero_le _⟩
  · injection hcs with hcs
    injection hcs with e1 e2 e3
    subst e1; subst e2; subst e3
    simp only [if_true] at hmm
    have each : ∀ i, i < n → ∃ e : Ev, (∀ j v, (ec e).toList[j]? = some v → W.cell? ((a.add (i * 2)).add j) = some v) ∧ e.ok := by
      intro i hin
      obtain ⟨cs', h1, h2⟩ := hi i (by omega)
      rw [ce] at h1
      obtain ⟨_, hlen, hcell⟩ := World.cells?_some h1
      obtain ⟨e, he, ok⟩ := event_of h2
      refine ⟨e, fun j v hv => ?_, ok⟩
      have hj : j < 2 := by
        have := (List.getElem?_eq_some_iff.1 hv).1
        simpa [ec] using this
      rw [hcell j hj, he]; exact hv
    obtain ⟨f, hf⟩ := Go.Deep.choose_lt each
    refine ⟨some a, n, c, (List.range n).map f, rfl, ⟨by simp, by omega, fun i hin => ?_⟩, hl, hm⟩
    simp only [List.length_map, List.length_range] at hin
    simp only [List.getElem_map, List.getElem_range]
    obtain ⟨hc, ok⟩ := hf i hin
    have h0 := (hf 0 (by omega)).1 0 _ rfl
    rw [show (a.add (0 * 2)).add 0 = a from rfl] at h0
    have hlt := World.block_lt_of_cell? W _ h0
    have hsp : a.spot = none := by
      cases hq : a.spot with
      | none => rfl
      | some z =>
        unfold World.cell? at h0
        rw [hq] at h0
        split at h0 <;> simp at h0
    obtain ⟨b, o, s⟩ := a
    simp only at hsp
    subst hsp
    have c0 := hc 0 _ rfl
    have c1 := hc 1 _ rfl
    rw [Addr.add_mid, Addr.add_mid] at c0 c1
    exact ⟨b, o, rfl, hlt, c0, c1, ok⟩
end
end Go.Proofs.Ytdlomdkapepkbaa
