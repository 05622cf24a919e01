/- Structs and arrays by value, known whole: their blocks, parts of them loaded and stored, new variables. Nothing of the program. -/
import Derived.Test.YtfjdhhheofcanaaCalm
import Derived.Test.YtfjdhhheofcanaaMix
import Derived.Below
import Derived.Handy
import Derived.Deep.MidRow
import Derived.Laws.CopyRow
namespace Go.Proofs.Ytfjdhhheofcanaa
open Go.RowKit
set_option linter.unusedVariables false
set_option linter.unusedSimpArgs false

/-- T is a struct or an array of n cells. -/
structure AggT (P : Program) (T : TypeId) (n : Nat) : Prop where
  u : ∃ d, P.underlying T = some d ∧ d.isRow = true
  i : (P.info? T).map (·.size) = some n
/-- The zero value of T. -/
def ZeroT (P : Program) (T : TypeId) (z : Array Value) : Prop := (P.info? T).map (fun i => (i.zero, i.size)) = some (some (.agg z), z.size)
/-- Each of them is one cell. -/
def Ones (cs : Array Value) : Prop := cs.all (·.oneCell') = true
/-- Block b is a variable of type T with these cells. -/
def Blk (b : Nat) (T : TypeId) (cs : Array Value) (w : World) : Prop := w.heap[b]? = some (.cells cs T (0, 0))
theorem belowRow' {B : Nat} {a w : World} (h : Below B a w) {g : Nat} (hg : B ≤ g) (cs : Array Value) : Below B a (w.setRow g cs) :=
  h.trans ⟨rfl, rfl, rfl, by simp [World.setRow], fun k hk => setRow_other w g k cs (by omega)⟩
section
variable {b : Nat} {T : TypeId} {cs ds : Array Value} {w w' : World}
theorem Blk.lt (H : Blk b T cs w) : b < w.heap.size := (Array.getElem?_eq_some_iff.1 H).1
theorem Blk.below (H : Blk b T cs w) {n : Nat} (hb : Below n w w') (hn : b < n) : Blk b T cs w' := (hb.block b hn).trans H
theorem Blk.step (H : Blk b T cs w) (hb : Below w.heap.size w w') : Blk b T cs w' := H.below hb H.lt
theorem Blk.new (w : World) (T : TypeId) (cs : Array Value) : Blk w.heap.size T cs (w.alloc (.cells cs T)) := heap_alloc_new _ _
theorem Blk.alloc (H : Blk b T cs w) (o : Obj) : Blk b T cs (w.alloc o) := H.step ((Below.refl _ _).alloc (Nat.le_refl _) _)
theorem Blk.drew (H : Blk b T cs w) : Blk b T cs w.drew := H
theorem Blk.other (H : Blk b T cs w) {g : Nat} (hg : b ≠ g) (o : Nat) (v : Value) : Blk b T cs (w.setCell ⟨g, o, none⟩ v) := (Below.heap_setCell w ⟨g, o, none⟩ v b hg).trans H
theorem Blk.otherRow (H : Blk b T cs w) {g : Nat} (hg : b ≠ g) (ds : Array Value) : Blk b T cs (w.setRow g ds) := (setRow_other w g b ds hg).trans H
theorem Blk.cell (H : Blk b T cs w) (j : Nat) : w.cell? ⟨b, j, none⟩ = cs[j]? := cell_of_row w b j cs T (0, 0) H
theorem Blk.frozen (H : Blk b T cs w) (j : Nat) : w.frozen? ⟨b, j, none⟩ = false := frozen_of_row w b j cs T H
theorem Blk.store (H : Blk b T cs w) (ds : Array Value) : Blk b T ds (w.setRow b ds) := setRow_heap w b _ _ T (0, 0) H
theorem Blk.put (H : Blk b T cs w) (j : Nat) (v : Value) : Blk b T (cs.setIfInBounds j v) (w.setCell ⟨b, j, none⟩ v) := heap_setCell_same w b j _ _ v H
theorem Blk.eq (H : Blk b T cs w) (e : cs = ds) : Blk b T ds w := e ▸ H
/-- A part of the cells turned. -/
def splice8 (cs : Array Value) (o : Nat) (ds : Array Value) : Array Value := (cs.toList.take o ++ ds.toList ++ cs.toList.drop (o + ds.size)).toArray
end

section
variable {P : Program} {ops : Array Oper} {T ty : TypeId} {b o n : Nat} {cs ds : Array Value} {w : World} {Q : Exit → Act → World → Prop}
theorem run_load_part (A : AggT P ty n) (H : Blk b T cs w) (ho : o + n ≤ cs.size) : (loadVar ty ⟨b, o, none⟩).run P w = .ok (.agg (cs.extract o (o + n))) w := by
  obtain ⟨d, hu, hd⟩ := A.u
  have h := run_loadVar_mid (P := P) w b o ty (cs.extract o (o + n)).toList d (World.rangeAt_of_block H o n) hu hd (by rw [A.i]; simp; omega)
  rwa [Array.toArray_toList] at h
theorem exec_load_part {op : Oper} {ρ : Operand → Value} (A : AggT P ty n) (H : Blk b T cs w) (hn : o + n ≤ cs.size) (x : Operand) (ho : op.op = .load ty x) (hx : ρ x = .pointer (some ⟨b, o, none⟩)) : (execOp ρ op).run P w = .ok (.value (.agg (cs.extract o (o + n)))) w := by
  unfold execOp
  simp only [ho, hx, Instr.loadAt, Instr.sureAddr, Sem.run_bind, Sem.run_pure, Result.andThen_ok, run_load_part A H hn]
theorem exec_load_all {op : Oper} {ρ : Operand → Value} (A : AggT P ty n) (H : Blk b T cs w) (hn : cs.size = n) (x : Operand) (ho : op.op = .load ty x) (hx : ρ x = .pointer (some ⟨b, 0, none⟩)) : (execOp ρ op).run P w = .ok (.value (.agg cs)) w := by
  have h := exec_load_part A H (by omega : 0 + n ≤ cs.size) x ho hx
  rw [h]
  subst hn
  simp
theorem run_store_part (A : AggT P ty n) (H : Blk b T cs w) (hn : ds.size = n) (ho : o + n ≤ cs.size) (h1 : Ones ds) : (storeVar ty ⟨b, o, none⟩ (.agg ds)).run P w = .ok () (w.setRow b (splice8 cs o ds)) := by
  have h := run_storeCells_at P b o T ds.toList 0 cs w H (by simp; omega) (fun v hv => (Array.all_eq_true_iff_forall_mem.1 h1) v (by simpa using hv))
  have hi := A.i
  cases hq : P.info? ty with
  | none => simp [hq] at hi
  | some i =>
    have hs : i.size = n := by simpa [hq] using hi
    simp [storeVar, sizeOf, typeInfo, hq, Value.cells, hs, hn, h, splice8]
theorem wp_store_part {op : Oper} {a : Act} {K : Act → World → Prop} (A : AggT P ty n) (H : Blk b T cs w) (hn : ds.size = n) (hl : o + n ≤ cs.size) (h1 : Ones ds) (x y : Operand) (ho : op.op = .store ty x y) (hx : a.eval x = .pointer (some ⟨b, o, none⟩)) (hy : a.eval y = .agg ds)
    (h : K (a.put op.dst undef) (w.setRow b (splice8 cs o ds))) : op.wp P a w K Q := by
  unfold Oper.wp execOp
  simp only [ho, hx, hy, Instr.storeAt, Instr.sureAddr, Sem.run_bind, Sem.run_pure, Result.andThen_ok, run_store_part A H hn hl h1]
  exact h
theorem splice8_all (h : ds.size = cs.size) : splice8 cs 0 ds = ds := by
  unfold splice8
  rw [Nat.zero_add, h]
  simp [List.drop_eq_nil_of_le]
/-- A whole value is stored. -/
theorem wp_store_all {op : Oper} {a : Act} {K : Act → World → Prop} (A : AggT P ty n) (H : Blk b T cs w) (hc : cs.size = n) (hn : ds.size = n) (h1 : Ones ds) (x y : Operand) (ho : op.op = .store ty x y) (hx : a.eval x = .pointer (some ⟨b, 0, none⟩)) (hy : a.eval y = .agg ds)
    (h : K (a.put op.dst undef) (w.setRow b ds)) : op.wp P a w K Q :=
  wp_store_part A H hn (by omega) h1 x y ho hx hy (by rw [splice8_all (by omega)]; exact h)
variable {rest : List Oper} {op : Oper} {a : Act}
theorem list_run (hgd : op.guard = none) (v : Value) (h1 : (execOp a.eval op).run P w = .ok (.value v) w) (h : wpList P ops Q rest (a.put op.dst v) w) : wpList P ops Q (op :: rest) a w :=
  wpList_plain hgd fun K hK => by unfold Oper.wp; rw [h1]; exact hK _ _ h
theorem list_load_part (A : AggT P ty n) (H : Blk b T cs w) (hn : o + n ≤ cs.size) (hgd : op.guard = none) (x : Operand) (ho : op.op = .load ty x) (hx : a.eval x = .pointer (some ⟨b, o, none⟩))
    (h : wpList P ops Q rest (a.put op.dst (.agg (cs.extract o (o + n)))) w) : wpList P ops Q (op :: rest) a w :=
  wpList_plain hgd fun K hK => by unfold Oper.wp; rw [exec_load_part A H hn x ho hx]; exact hK _ _ h
theorem list_load_all (A : AggT P ty n) (H : Blk b T cs w) (hn : cs.size = n) (hgd : op.guard = none) (x : Operand) (ho : op.op = .load ty x) (hx : a.eval x = .pointer (some ⟨b, 0, none⟩))
    (h : wpList P ops Q rest (a.put op.dst (.agg cs)) w) : wpList P ops Q (op :: rest) a w :=
  wpList_plain hgd fun K hK => by unfold Oper.wp; rw [exec_load_all A H hn x ho hx]; exact hK _ _ h
theorem list_store_all (A : AggT P ty n) (H : Blk b T cs w) (hc : cs.size = n) (hn : ds.size = n) (h1 : Ones ds) (hgd : op.guard = none) (x y : Operand) (ho : op.op = .store ty x y) (hx : a.eval x = .pointer (some ⟨b, 0, none⟩)) (hy : a.eval y = .agg ds)
    (h : wpList P ops Q rest (a.put op.dst undef) (w.setRow b ds)) : wpList P ops Q (op :: rest) a w :=
  wpList_plain hgd fun K hK => wp_store_all A H hc hn h1 x y ho hx hy (hK _ _ h)
theorem list_store_part (A : AggT P ty n) (H : Blk b T cs w) (hn : ds.size = n) (hl : o + n ≤ cs.size) (h1 : Ones ds) (hgd : op.guard = none) (x y : Operand) (ho : op.op = .store ty x y) (hx : a.eval x = .pointer (some ⟨b, o, none⟩)) (hy : a.eval y = .agg ds)
    (h : wpList P ops Q rest (a.put op.dst undef) (w.setRow b (splice8 cs o ds))) : wpList P ops Q (op :: rest) a w :=
  wpList_plain hgd fun K hK => wp_store_part A H hn hl h1 x y ho hx hy (hK _ _ h)
theorem setRow_fresh (W : World) (cs cs' : Array Value) (t : TypeId) : (W.alloc (.cells cs t)).setRow W.heap.size cs' = W.alloc (.cells cs' t) := by
  unfold World.setRow World.alloc
  congr 1
  apply Array.ext_getElem?
  intro i
  simp only [Array.getElem?_modify, Array.getElem?_push]
  by_cases e : W.heap.size = i
  · subst e
    simp
  · rw [if_neg e, if_neg (fun h => e h.symm), if_neg (fun h => e h.symm)]
theorem run_alloc {z : Array Value} (Z : ZeroT P ty z) : (zeroValue ty).run P w = .ok (.agg z) w := by
  unfold ZeroT at Z
  unfold zeroValue typeInfo
  cases hq : P.info? ty with
  | none => simp [hq] at Z
  | some i =>
    simp only [hq, Option.map_some, Option.some.injEq, Prod.mk.injEq] at Z
    simp [Sem.run_bind, hq, Z.1]
theorem wp_alloc {K : Act → World → Prop} {z : Array Value} (Z : ZeroT P ty z) (ho : op.op = .alloc ty) (h : K (a.put op.dst (.pointer (some ⟨w.heap.size, 0, none⟩))) (w.alloc (.cells z ty))) : op.wp P a w K Q := by
  unfold Oper.wp execOp
  simp only [ho, Instr.alloc, newVar, newRow, newObj, Sem.run_bind, run_alloc Z, Result.andThen_ok, Sem.run_pure]
  exact h
/-- 'x := value': a new variable, and the value is stored. -/
theorem list_var_all {o1 o2 : Oper} {z : Array Value} (A : AggT P ty n) (Z : ZeroT P ty z) (hz : z.size = n) (hn : ds.size = n) (h1 : Ones ds) (g1 : o1.guard = none) (ho1 : o1.op = .alloc ty) (g2 : o2.guard = none) (x y : Operand) (ho2 : o2.op = .store ty x y)
    (hx : (a.put o1.dst (.pointer (some ⟨w.heap.size, 0, none⟩))).eval x = .pointer (some ⟨w.heap.size, 0, none⟩)) (hy : (a.put o1.dst (.pointer (some ⟨w.heap.size, 0, none⟩))).eval y = .agg ds)
    (h : wpList P ops Q rest ((a.put o1.dst (.pointer (some ⟨w.heap.size, 0, none⟩))).put o2.dst undef) (w.alloc (.cells ds ty))) : wpList P ops Q (o1 :: o2 :: rest) a w := by
  refine wpList_plain g1 fun K hK => wp_alloc Z ho1 (hK _ _ ?_)
  refine list_store_all A (Blk.new w ty z) hz hn h1 g2 x y ho2 hx hy ?_
  rw [setRow_fresh]
  exact h
theorem list_build_all {cs : Array Value} {parts : Array (Nat × Operand)} (hgd : op.guard = none) (ho : op.op = .build ty parts) (hb : P.built ty (parts.map fun (i, x) => (i, a.eval x)).toList = some cs)
    (h : wpList P ops Q rest (a.put op.dst (.agg cs)) w) : wpList P ops Q (op :: rest) a w :=
  wpList_build hgd ty parts ho (by rw [hb]; rfl) (by rw [hb]; exact h)
end

/-! ### In one walk, the order of the text -/
section
variable {P : Program} {ops : Array Oper} {C : World → Prop} {ty T : TypeId} {b o n : Nat} {cs : Array Value}
theorem quiet_run {Q : Act → Prop} {op : Oper} {rest : List Oper} {a : Act} (hw : Region.wanted op (yielded ops a.tmps) = true) (v : Value) (h1 : ∀ w, C w → (execOp a.eval op).run P w = .ok (.value v) w) (h : wpQuiet P ops C Q rest (a.put op.dst v)) : wpQuiet P ops C Q (op :: rest) a := by
  simp only [wpQuiet, hw, if_true]
  exact ⟨v, fun w hC => by unfold Oper.quietAt; rw [h1 w hC]; exact ⟨rfl, rfl⟩, h⟩
theorem quiet_load_all {Q : Act → Prop} {op : Oper} {rest : List Oper} {a : Act} (A : AggT P ty n) (H : ∀ w, C w → Blk b T cs w) (hn : cs.size = n) (hw : Region.wanted op (yielded ops a.tmps) = true) (x : Operand) (ho : op.op = .load ty x) (hx : a.eval x = .pointer (some ⟨b, 0, none⟩))
    (h : wpQuiet P ops C Q rest (a.put op.dst (.agg cs))) : wpQuiet P ops C Q (op :: rest) a :=
  quiet_run hw _ (fun w hC => exec_load_all A (H w hC) hn x ho hx) h
theorem quiet_load_part {Q : Act → Prop} {op : Oper} {rest : List Oper} {a : Act} (A : AggT P ty n) (H : ∀ w, C w → Blk b T cs w) (hn : o + n ≤ cs.size) (hw : Region.wanted op (yielded ops a.tmps) = true) (x : Operand) (ho : op.op = .load ty x) (hx : a.eval x = .pointer (some ⟨b, o, none⟩))
    (h : wpQuiet P ops C Q rest (a.put op.dst (.agg (cs.extract o (o + n))))) : wpQuiet P ops C Q (op :: rest) a :=
  quiet_run hw _ (fun w hC => exec_load_part A (H w hC) hn x ho hx) h
/-- One cell is loaded. -/
theorem exec_load_one {op : Oper} {ρ : Operand → Value} {w : World} {v : Value} {ad : Addr} (hu : ∃ d, P.underlying ty = some d ∧ d.isRow = false) (hc : w.cell? ad = some v) (x : Operand) (ho : op.op = .load ty x) (hx : ρ x = .pointer (some ad)) : (execOp ρ op).run P w = .ok (.value v) w := by
  obtain ⟨d, hu, hd⟩ := hu
  have hagg : (isAgg ty).run P w = .ok false w := by
    unfold isAgg
    rw [Sem.run_bind, run_underlying hu w]
    cases d <;> simp_all
  unfold execOp
  simp [ho, hx, Instr.loadAt, Instr.sureAddr, loadVar, Sem.run_bind, hagg, hc]
theorem quiet_load_one {Q : Act → Prop} {op : Oper} {rest : List Oper} {a : Act} {v : Value} {ad : Addr} (hu : ∃ d, P.underlying ty = some d ∧ d.isRow = false) (H : ∀ w, C w → w.cell? ad = some v) (hw : Region.wanted op (yielded ops a.tmps) = true) (x : Operand) (ho : op.op = .load ty x) (hx : a.eval x = .pointer (some ad))
    (h : wpQuiet P ops C Q rest (a.put op.dst v)) : wpQuiet P ops C Q (op :: rest) a :=
  quiet_run hw _ (fun w hC => exec_load_one hu (H w hC) x ho hx) h
theorem quiet_build_all {Q : Act → Prop} {op : Oper} {rest : List Oper} {a : Act} {cs : Array Value} {parts : Array (Nat × Operand)} (hw : Region.wanted op (yielded ops a.tmps) = true) (ho : op.op = .build ty parts) (hb : P.built ty (parts.map fun (i, x) => (i, a.eval x)).toList = some cs)
    (h : wpQuiet P ops C Q rest (a.put op.dst (.agg cs))) : wpQuiet P ops C Q (op :: rest) a :=
  quiet_run hw (.agg cs) (fun w _ => by
    unfold execOp
    simp only [ho, Sem.run_bind, run_build w ty _ cs hb, Result.andThen_ok, Sem.run_pure]) h
end
end Go.Proofs.Ytfjdhhheofcanaa
