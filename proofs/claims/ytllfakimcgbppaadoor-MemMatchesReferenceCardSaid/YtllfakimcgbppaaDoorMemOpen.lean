/- Arguments of the laws of layer 5 opened: slices of bytes, slices of writes. -/
import Derived.Test.YtllfakimcgbppaaDoorMemLaw
import Derived.Deep.SlicePairs
import Derived.Carry
import Derived.ChangeOld
namespace Go.Proofs.YtllfakimcgbppaaDoor
open Go.RowKit Go.ChangeShapes Go.WideShapes
set_option linter.unusedVariables false

theorem laidOut : laidOutB Tryd.prog = true := by kernel_rfl

section
variable {H : Type} {enc : TypeId × Value → H} {W : World} {r : Reach} {base : Nat}
theorem bytes_of {fuel : Nat} {A : Option Addr} {n c : Nat} {x : DataW H × List MemPlace} (h : DataW.trod enc Tryd.prog W 0 (fun _ => true) true fuel 22 [.slice A n c] = some x) : ∃ L, Arg W A n c L := by
  rcases open_ints Tryd.underlying22 Tryd.underlying5 (by kernel_rfl) h with ⟨hcs, _⟩ | ⟨a, len, cap, zs, hcs, hb, hl, hm, hz, _, hcell, hw⟩
  · injection hcs with hcs
    injection hcs with e1 e2 e3
    subst e1; subst e2; subst e3
    exact ⟨[], Rd.nil, rfl, Nat.le_refl _, Nat.zero_le _⟩
  · injection hcs with hcs
    injection hcs with e1 e2 e3
    subst e1; subst e2; subst e3
    simp only [if_true] at hz
    refine ⟨zs.take n, fun hne => ?_, by rw [List.length_take]; omega, hl, hm⟩
    have h0 : 0 < n := by
      rcases Nat.eq_zero_or_pos n with e | e
      · subst e; exact absurd (List.take_zero) hne
      · exact e
    have hlt := World.block_lt_of_cell? W _ (hcell 0 (by omega))
    rw [add_block] at hlt
    refine ⟨a, rfl, hlt, fun j hj => ?_⟩
    rw [List.length_take] at hj
    rw [hcell j (by omega), List.getElem_take, List.getD_eq_getElem?_getD, List.getElem?_eq_getElem (by omega)]
    rfl
theorem open_bytes {v : Value} {d : DataW H} {p : List MemPlace} (hv : Value.okWide Tryd.prog W r base 22 v) (h : DataW.Trod enc Tryd.prog W 0 (fun _ => true) true 22 v d p) : ∃ A n c L, v = .slice A n c ∧ Arg W A n c L := by
  obtain ⟨A, n, c, rfl⟩ := okWide_slice Tryd.underlying22 hv
  obtain ⟨fuel, hf⟩ := h
  obtain ⟨L, hL⟩ := bytes_of hf
  exact ⟨A, n, c, L, rfl, hL⟩

instance : Inhabited Wr := ⟨⟨0, none, 0, 0, []⟩⟩
/-- A slice of writes that came in. -/
structure ArgW (w : World) (A : Option Addr) (n c : Nat) (l : List Wr) : Prop where
  rd : Wrs w A l
  len : l.length = n
  cap : n ≤ c
  max : c ≤ maxLen
theorem ArgW.below {w w' : World} {A : Option Addr} {n c : Nat} {l : List Wr} (h : ArgW w A n c l) (hb : Below w.heap.size w w') : ArgW w' A n c l := ⟨h.rd.below hb, h.len, h.cap, h.max⟩
theorem open_writes {v : Value} {d : DataW H} {p : List MemPlace} (hv : Value.okWide Tryd.prog W r base 23 v) (h : DataW.Trod enc Tryd.prog W 0 (fun _ => true) true 23 v d p) : ∃ A n c l, v = .slice A n c ∧ ArgW W A n c l := by
  obtain ⟨A, n, c, rfl⟩ := okWide_slice Tryd.underlying23 hv
  obtain ⟨fuel, hf⟩ := h
  rcases Go.Deep.open_slice_pairs Tryd.underlying23 Tryd.underlying37 (by kernel_rfl) rfl rfl (by kernel_rfl) (by kernel_rfl) hf with ⟨hcs, _⟩ | ⟨a, len, cap, m, k, V0, V1, D0, D1, P0, P1, hcs, hb, hl, hm, hmm, _, hi⟩
  · injection hcs with hcs
    injection hcs with e1 e2 e3
    subst e1; subst e2; subst e3
    exact ⟨none, 0, 0, [], rfl, fun hne => absurd rfl hne, rfl, Nat.le_refl _, Nat.zero_le _⟩
  · injection hcs with hcs
    injection hcs with e1 e2 e3
    subst e1; subst e2; subst e3
    simp only [if_true] at hmm
    have each : ∀ i, i < n → ∃ x : Wr, W.cell? (a.add (i * 2)) = some (.int .i64 x.a) ∧ W.cell? (a.add (i * 2 + 1)) = some (.slice x.A x.n x.c) ∧ x.ok W := by
      intro i hin
      obtain ⟨h0, h1, t0, t1⟩ := hi i (by omega)
      obtain ⟨z, e0, _, w0⟩ := DataW.trod_int Tryd.underlying3 t0
      have hs : ∃ A' n' c', V1 i = .slice A' n' c' := by
        rcases open_ints Tryd.underlying22 Tryd.underlying5 (by kernel_rfl) t1 with ⟨hcs, _⟩ | ⟨a', len', cap', zs, hcs, _⟩
        · injection hcs with hcs; exact ⟨_, _, _, hcs⟩
        · injection hcs with hcs; exact ⟨_, _, _, hcs⟩
      obtain ⟨A', n', c', e1⟩ := hs
      rw [e1] at t1 h1
      obtain ⟨L, hL⟩ := bytes_of t1
      injection e0 with e0
      rw [e0] at h0
      have hz := Num.bd_i64 w0
      exact ⟨⟨z, A', n', c', L⟩, h0, h1, hL.len, hL.rd, hL.cap, hL.max, hz.1, hz.2⟩
    obtain ⟨f, hf⟩ : ∃ f : Nat → Wr, ∀ i, i < n → W.cell? (a.add (i * 2)) = some (.int .i64 (f i).a) ∧ W.cell? (a.add (i * 2 + 1)) = some (.slice (f i).A (f i).n (f i).c) ∧ (f i).ok W :=
      ⟨fun i => if h : i < n then (each i h).choose else default, fun i hin => by
        simp only [hin, dif_pos]
        exact (each i hin).choose_spec⟩
    refine ⟨some a, n, c, (List.range n).map f, rfl, fun hne => ?_, by simp, hl, hm⟩
    have h0 : 0 < n := by
      rcases Nat.eq_zero_or_pos n with e | e
      · subst e; exact absurd rfl hne
      · exact e
    have hlt := World.block_lt_of_cell? W _ (hf 0 h0).1
    rw [add_block] at hlt
    refine ⟨a, rfl, hlt, fun i hin => ?_⟩
    simp only [List.length_map, List.length_range] at hin
    simp only [List.getElem_map, List.getElem_range]
    exact hf i hin
end
end Go.Proofs.YtllfakimcgbppaaDoor
