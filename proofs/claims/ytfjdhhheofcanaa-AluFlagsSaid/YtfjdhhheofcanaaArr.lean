/- Arrays of bytes as values, and their loads: nothing of the program. -/
import Derived.Test.YtfjdhhheofcanaaRow
import Derived.Test.YtfjdhhheofcanaaNum
import Derived.Handy
import Derived.Lib.Hide
import Derived.Maps.AppendAt
import Derived.Deep.Cut
namespace Go.Proofs.Ytfjdhhheofcanaa
open Go.RowKit Num
set_option linter.unusedVariables false

/-- The cells of a list of bytes. -/
def arr (L : List Int) : Array Value := (L.map (Value.int .u8)).toArray
theorem arr_size (L : List Int) : (arr L).size = L.length := by simp [arr]
theorem arr_get (L : List Int) (j : Nat) (h : j < L.length) : (arr L)[j]? = some (.int .u8 L[j]) := by simp [arr, h]

/-- The load of a whole array, whose cells lie one after the other from an address on. -/
theorem wpList_load_part {P : Program} {ops : Array Oper} {rest : List Oper} {o : Oper} {a : Act} {w : World} {Q : Exit → Act → World → Prop} (hgd : o.guard = none) (ty : TypeId) (x : Operand) (ho : o.op = .load ty x)
    (ad : Addr) (hx : a.eval x = .pointer (some ad)) (L : List Int) (d : TypeDesc) (hc : ∀ j (h : j < L.length), w.cell? (ad.add j) = some (.int .u8 L[j]))
    (hu : P.underlying ty = some d) (hd : (match d with | .struct _ | .array _ _ => true | _ => false) = true) (hi : (P.info? ty).map (·.size) = some L.length)
    (h : wpList P ops Q rest (a.put o.dst (.agg (arr L))) w) : wpList P ops Q (o :: rest) a w := by
  have hl : (loadCells ad (L.map (Value.int .u8)).length).run P w = .ok (L.map (Value.int .u8)).toArray w :=
    run_loadCells_list (P := P) w ad (L.map (Value.int .u8)) (fun j v hv => by
      rw [List.getElem?_map] at hv
      by_cases hj : j < L.length
      · rw [List.getElem?_eq_getElem hj] at hv
        rw [hc j hj]
        exact hv
      · rw [List.getElem?_eq_none (Nat.le_of_not_lt hj)] at hv
        cases hv)
  rw [List.length_map] at hl
  refine wpList_plain hgd fun K hK => ?_
  have hlv : (loadVar ty ad).run P w = .ok (.agg (arr L)) w := by
    cases hq : P.info? ty with
    | none => simp [hq] at hi
    | some i =>
      have hs : i.size = L.length := by simpa [hq] using hi
      have hagg : (isAgg ty).run P w = .ok true w := by
        unfold isAgg
        rw [Sem.run_bind, run_underlying hu w]
        cases d <;> simp_all
      simp [loadVar, Sem.run_bind, hagg, sizeOf, typeInfo, hq, hs, hl, arr]
  unfold Oper.wp execOp
  simp only [ho, hx, Instr.loadAt, Instr.sureAddr, Sem.run_bind, Sem.run_pure, Result.andThen_ok, hlv]
  exact hK _ _ h

/-- A block of another type is not a row's own block. -/
theorem block_not_row {W : World} {B : Nat} {t e : TypeId} {cs : Array Value} (h : W.heap[B]? = some (.cells cs t (0, 0))) (hte : t ≠ e) {base size k : Nat} {v : Value} {xs : List Value} (hr : W.ownsRow base e size v k xs) : some B ≠ v.ownBlock := by
  rcases hr.2 with ⟨rfl, _⟩ | ⟨g, cap, cur, rfl, _, hg, _⟩
  · intro c; simp [Value.ownBlock] at c
  · intro c
    simp only [Value.ownBlock, Option.some.injEq] at c
    subst c
    rw [hg] at h
    simp only [Option.some.injEq, Obj.cells.injEq] at h
    exact hte h.2.1.symm
theorem block_kept {w w' : World} {B : Nat} {o : Obj} {row : Option Nat} (tmp : Obj) (h : w.heap[B]? = some o) (hg : (w.alloc tmp).grownBy w' row) (hne : some B ≠ row) : w'.heap[B]? = some o := by
  have hlt : B < w.heap.size := (Array.getElem?_eq_some_iff.1 h).1
  rw [hg.block B (by simp; omega) hne, heap_alloc_old w tmp hlt]
  exact h
theorem take_step {X : List Int} {k : Nat} (h : k < X.length) : X.take (k + 1) = X.take k ++ [X[k]] := by simp
/-- A call that hands back a new slice of the bytes L. -/
def Gives (ty : TypeId) (L : List Int) (w : World) (e : Ending) (w' : World) : Prop := ∃ v, e = .returned v ∧ w'.ownsRow w.heap.size ty 1 v L.length (L.map (Value.int .u8)) ∧ Below w.heap.size w w'
end Go.Proofs.Ytfjdhhheofcanaa
