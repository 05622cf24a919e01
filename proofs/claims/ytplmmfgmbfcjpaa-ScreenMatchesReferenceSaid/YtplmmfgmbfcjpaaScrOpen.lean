/- Arguments of the laws of layer 8 opened: steps and slices of steps. -/
import Derived.Test.YtplmmfgmbfcjpaaScrDo
import Derived.Test.YtplmmfgmbfcjpaaLate
import Derived.ChangeSlices
import Derived.Deep.SlicePairs
import Derived.Carry
import Derived.ChangeOld
namespace Go.Proofs.Ytplmmfgmbfcjpaa
open Go.RowKit Go.ChangeShapes Go.WideShapes
set_option linter.unusedVariables false
set_option linter.unusedSimpArgs false
set_option linter.constructorNameAsVariable false
set_option maxRecDepth 100000

instance : Inhabited Stp := ⟨⟨0, 0, false, 0, 0, 0, false, false, none, 0, 0⟩⟩
/-- A slice of steps that came in. -/
structure Stps (w : World) (A : Option Addr) (n : Nat) (l : List (Stp × List Nat)) : Prop where
  len : l.length = n
  max : n ≤ maxLen
  at_ : ∀ i (h : i < l.length), ∃ b o, A = some ⟨b, o, none⟩ ∧ b < w.heap.size ∧ w.rangeAt b (o + i * 9) (stc (l[i].1)).toList ∧ StpOk l[i].1 l[i].2 w
theorem Stps.step {w w' : World} {A : Option Addr} {n : Nat} {l : List (Stp × List Nat)} (h : Stps w A n l) (hb : Below w.heap.size w w') : Stps w' A n l :=
  ⟨h.len, h.max, fun i hi => by
    obtain ⟨b, o, e, lt, r, k⟩ := h.at_ i hi
    exact ⟨b, o, e, Nat.lt_of_lt_of_le lt hb.size, fun j v hv => (hb.cell (p := ⟨b, o + i * 9 + j, none⟩) lt).trans (r j v hv), k.step hb⟩⟩
section
variable {P : Program} {ops : Array Oper} {C : World → Prop} {ty : TypeId} {b o n : Nat} {cs : Array Value} {w : World} {Q : Exit → Act → World → Prop}
theorem exec_load_at {op : Oper} {ρ : Operand → Value} (A : AggT P ty n) (H : w.rangeAt b o cs.toList) (hn : cs.size = n) (x : Operand) (ho : op.op = .load ty x) (hx : ρ x = .pointer (some ⟨b, o, none⟩)) : (execOp ρ op).run P w = .ok (.value (.agg cs)) w := by
  obtain ⟨d, hu, hd⟩ := A.u
  have h := run_loadVar_mid (P := P) w b o ty cs.toList d H hu hd (by rw [A.i]; simp; omega)
  rw [Array.toArray_toList] at h
  unfold execOp
  simp only [ho, hx, Instr.loadAt, Instr.sureAddr, Sem.run_bind, Sem.run_pure, Result.andThen_ok, h]
theorem quiet_load_at {Q : Act → Prop} {op : Oper} {rest : List Oper} {a : Act} (A : AggT P ty n) (H : ∀ w, C w → w.rangeAt b o cs.toList) (hn : cs.size = n) (hw : Region.wanted op (yielded ops a.tmps) = true) (x : Operand) (ho : op.op = .load ty x) (hx : a.eval x = .pointer (some ⟨b, o, none⟩))
    (h : wpQuiet P ops C Q rest (a.put op.dst (.agg cs))) : wpQuiet P ops C Q (op :: rest) a :=
  quiet_run hw _ (fun w hC => exec_load_at A (H w hC) hn x ho hx) h
theorem list_load_at {rest : List Oper} {op : Oper} {a : Act} (A : AggT P ty n) (H : w.rangeAt b o cs.toList) (hn : cs.size = n) (hgd : op.guard = none) (x : Operand) (ho : op.op = .load ty x) (hx : a.eval x = .pointer (some ⟨b, o, none⟩))
    (h : wpList P ops Q rest (a.put op.dst (.agg cs)) w) : wpList P ops Q (op :: rest) a w :=
  wpList_plain hgd fun K hK => by unfold Oper.wp; rw [exec_load_at A H hn x ho hx]; exact hK _ _ h
end

theorem laidOut8 : laidOutB Try.prog = true := by kernel_rfl
section
variable {H : Type} {enc : TypeId × Value → H} {W : World} {r : Reach} {base : Nat}
theorem bytes8_of {fuel : Nat} {cs : List Value} {x : DataW H × List MemPlace} (h : DataW.trod enc Try.prog W 0 (fun _ => true) true fuel 39 cs = some x) : ∃ A n c L, cs = [.slice A n c] ∧ Rd8 W A L ∧ L.length = n ∧ n ≤ maxLen ∧ ∀ b ∈ L, b ≤ 255 := by
  rcases open_ints Try.underlying39 Try.underlying5 (by kernel_rfl) h with ⟨hcs, _⟩ | ⟨a, len, cap, zs, hcs, hb, hl, hm, hz, _, hcell, hw⟩
  · exact ⟨none, 0, 0, [], hcs, Rd8.nil, rfl, Nat.zero_le _, by simp⟩
  · simp only [if_true] at hz
    have hget : ∀ i, i < zs.length → 0 ≤ zs.getD i 0 ∧ zs.getD i 0 ≤ 255 := fun i hi => by
      rw [List.getD_eq_getElem?_getD, List.getElem?_eq_getElem hi]
      exact Num.bd_u8 (hw _ (List.getElem_mem hi))
    refine ⟨some a, len, cap, (zs.take len).map Int.toNat, hcs, fun hne => ?_, by rw [List.length_map, List.length_take]; omega, by omega, fun x hx => ?_⟩
    · have h0 : 0 < len := by
        rcases Nat.eq_zero_or_pos len with e | e
        · subst e; exact absurd rfl hne
        · exact e
      have hlt := World.block_lt_of_cell? W _ (hcell 0 (by omega))
      rw [add_block8] at hlt
      refine ⟨a, rfl, hlt, fun j hj => ?_⟩
      rw [List.length_map, List.length_take] at hj
      have hj2 : j < zs.length := by omega
      rw [hcell j hj2, List.getElem_map, List.getElem_take]
      have hb := (hget j hj2).1
      rw [List.getD_eq_getElem?_getD, List.getElem?_eq_getElem hj2] at hb ⊢
      simp only [Option.getD_some] at hb ⊢
      rw [Int.toNat_of_nonneg hb]
    · obtain ⟨z, hz1, rfl⟩ := List.mem_map.1 hx
      have := Num.bd_u8 (hw z (List.mem_of_mem_take hz1))
      omega
theorem step_of {fuel : Nat} {cs : List Value} {x : DataW H × List MemPlace} (h : DataW.trod enc Try.prog W 0 (fun _ => true) true fuel 41 cs = some x) : ∃ q L, cs = (stc q).toList ∧ StpOk q L W := by
  have hc : Try.prog.cellsOf 41 = 9 := by kernel_rfl
  have hi : Try.prog.cellsOf 3 = 1 := by kernel_rfl
  have hb : Try.prog.cellsOf 4 = 1 := by kernel_rfl
  have hs : Try.prog.cellsOf 39 = 1 := by kernel_rfl
  obtain ⟨xs, n, _, hx, hcl, hlen, hg⟩ := DataW.trod_struct Try.underlying41 h
  match cs, hcl.trans hc, xs, hlen with
  | [c0, c1, c2, c3, c4, c5, c6, c7, c8], _, [y0, y1, y2, y3, y4, y5, y6, y7, y8], _ =>
    have g0 := hg 0 _ rfl
    have g1 := hg 1 _ rfl
    have g2 := hg 2 _ rfl
    have g3 := hg 3 _ rfl
    have g4 := hg 4 _ rfl
    have g5 := hg 5 _ rfl
    have g6 := hg 6 _ rfl
    have g7 := hg 7 _ rfl
    have g8 := hg 8 _ rfl
    simp [hi, hb, hs] at g0 g1 g2 g3 g4 g5 g6 g7 g8
    obtain ⟨a0, e0, _, s0⟩ := Go.DataW.trod_int Try.underlying3 g0
    obtain ⟨a1, e1, _, s1⟩ := Go.DataW.trod_int Try.underlying3 g1
    obtain ⟨a2, e2, _⟩ := Go.DataW.trod_bool Try.underlying4 g2
    obtain ⟨a3, e3, _, s3⟩ := Go.DataW.trod_int Try.underlying3 g3
    obtain ⟨a4, e4, _, s4⟩ := Go.DataW.trod_int Try.underlying3 g4
    obtain ⟨a5, e5, _, s5⟩ := Go.DataW.trod_int Try.underlying3 g5
    obtain ⟨a6, e6, _⟩ := Go.DataW.trod_bool Try.underlying4 g6
    obtain ⟨a7, e7, _⟩ := Go.DataW.trod_bool Try.underlying4 g7
    obtain ⟨A, m, c, L, e8, hr, hl, hm, hle⟩ := bytes8_of g8
    simp only [List.cons.injEq, and_true] at e0 e1 e2 e3 e4 e5 e6 e7 e8
    subst e0 e1 e2 e3 e4 e5 e6 e7 e8
    exact ⟨⟨a0, a1, a2, a3, a4, a5, a6, a7, A, m, c⟩, L, rfl, Num.bd_i64 s0, Num.bd_i64 s1, Num.bd_i64 s3, Num.bd_i64 s4, Num.bd_i64 s5, hr, hl, hm, hle⟩
theorem open_step {v : Value} {d : DataW H} {p : List MemPlace} (hv : Value.okWide Try.prog W r base 41 v) (h : DataW.Trod enc Try.prog W 0 (fun _ => true) true 41 v d p) : ∃ q L, v = .agg (stc q) ∧ StpOk q L W := by
  obtain ⟨cs, rfl, hsz⟩ := okWide_struct Try.underlying41 hv
  obtain ⟨fuel, hf⟩ := h
  obtain ⟨q, L, e, ok⟩ := step_of hf
  exact ⟨q, L, by rw [← Array.toArray_toList (xs := stc q), ← e]; rfl, ok⟩
theorem open_steps {v : Value} {d : DataW H} {p : List MemPlace} (hv : Value.okWide Try.prog W r base 22 v) (h : DataW.Trod enc Try.prog W 0 (fun _ => true) true 22 v d p) : ∃ A n c l, v = .slice A n c ∧ Stps W A n l := by
  obtain ⟨A, n, c, rfl⟩ := okWide_slice Try.underlying22 hv
  obtain ⟨fuel, hf⟩ := h
  have ce : Try.prog.cellsOf 41 = 9 := by kernel_rfl
  rcases Go.Deep.open_slice Try.underlying22 hf with ⟨hcs, _⟩ | ⟨a, len, cap, m, k, D, Pl, hcs, hb, hl, hm, hmm, _, hi⟩
  · injection hcs with hcs
    injection hcs with e1 e2 e3
    subst e1; subst e2; subst e3
    exact ⟨none, 0, 0, [], rfl, rfl, Nat.zero_le _, fun i hi => absurd hi (Nat.not_lt_zero i)⟩
  · injection hcs with hcs
    injection hcs with e1 e2 e3
    subst e1; subst e2; subst e3
    simp only [if_true] at hmm
    have each : ∀ i, i < n → ∃ q : Stp × List Nat, (∀ j v, (stc q.1).toList[j]? = some v → W.cell? ((a.add (i * 9)).add j) = some v) ∧ StpOk q.1 q.2 W := by
      intro i hin
      obtain ⟨cs', h1, h2⟩ := hi i (by omega)
      rw [ce] at h1
      obtain ⟨_, hlen, hcell⟩ := World.cells?_some h1
      obtain ⟨q, L, e, ok⟩ := step_of h2
      refine ⟨(q, L), fun j v hv => ?_, ok⟩
      have hj : j < 9 := by
        have := (List.getElem?_eq_some_iff.1 hv).1
        simpa [stc] using this
      rw [hcell j hj, e]; exact hv
    obtain ⟨f, hf⟩ := Go.Deep.choose_lt each
    refine ⟨some a, n, c, (List.range n).map f, rfl, by simp, by omega, fun i hin => ?_⟩
    simp only [List.length_map, List.length_range] at hin
    simp only [List.getElem_map, List.getElem_range]
    obtain ⟨hc, ok⟩ := hf i hin
    have h0 := (hf 0 (by omega)).1 0 _ rfl
    rw [show (a.add (0 * 9)).add 0 = a from rfl] at h0
    have hlt := World.block_lt_of_cell? W _ h0
    have hsp : a.spot = none := by
      cases hq : a.spot with
      | none => rfl
      | some z =>
        unfold World.cell? at h0
        rw [hq] at h0
        split at h0 <;> simp at h0
    obtain ⟨b, o, s⟩ := a
    simp only at hsp
    subst hsp
    refine ⟨b, o, rfl, hlt, fun j v hv => ?_, ok⟩
    have := hc j v hv
    rwa [Addr.add_mid, Addr.add_mid] at this
end
end Go.Proofs.Ytplmmfgmbfcjpaa
