/- Stacks as values: 17 cells; their blocks, '=='. -/
import Derived.Test.YtbgdkhbembjjlaaBlk
import Derived.Test.YtbgdkhbembjjlaaRow
import Derived.Test.YtbgdkhbembjjlaaPlain
import Derived.Test.YtbgdkhbembjjlaaNum
import Derived.KernelRfl
import Derived.Handy
import Derived.IntWalk
import Derived.Lib.Hide
namespace Go.Proofs.Ytbgdkhbembjjlaa
open Go.RowKit Num
set_option linter.unusedVariables false
set_option linter.unusedSimpArgs false
set_option maxRecDepth 100000

/-- The cells of a stack. -/
def stkA (F : Nat → Int) (d : Int) : Array Value := ((List.range 17).map fun j => Value.int .i64 (if j < 16 then F j else d)).toArray
theorem stkA_size (F : Nat → Int) (d : Int) : (stkA F d).size = 17 := by simp [stkA]
theorem stkA_get_all (F : Nat → Int) (d : Int) (j : Nat) (hj : j < 17) : (stkA F d)[j]? = some (.int .i64 (if j < 16 then F j else d)) := by simp [stkA, hj]
theorem stkA_get (F : Nat → Int) (d : Int) (j : Nat) (hj : j < 16) : (stkA F d)[j]? = some (.int .i64 (F j)) := by rw [stkA_get_all _ _ _ (by omega), if_pos hj]
theorem stkA_last (F : Nat → Int) (d : Int) : (stkA F d)[16]? = some (.int .i64 d) := by simp [stkA]
theorem stkA_one (F : Nat → Int) (d : Int) : Ones (stkA F d) := by
  unfold Ones
  rw [Array.all_eq_true_iff_forall_mem]
  intro v hv
  simp only [stkA, List.mem_toArray, List.mem_map, List.mem_range] at hv
  obtain ⟨j, _, rfl⟩ := hv
  rfl
theorem stkA_congr {F G : Nat → Int} {d e : Int} (h : ∀ j, j < 16 → F j = G j) (he : d = e) : stkA F d = stkA G e := by
  subst he
  apply Array.ext_getElem?
  intro j
  by_cases hj : j < 17
  · rw [stkA_get_all _ _ _ hj, stkA_get_all _ _ _ hj]
    by_cases h2 : j < 16
    · rw [if_pos h2, if_pos h2, h j h2]
    · rw [if_neg h2, if_neg h2]
  · rw [Array.getElem?_eq_none (by rw [stkA_size]; omega), Array.getElem?_eq_none (by rw [stkA_size]; omega)]
theorem stkA_dep (F : Nat → Int) (d e : Int) : (stkA F d).setIfInBounds 16 (.int .i64 e) = stkA F e := by
  apply Array.ext_getElem?
  intro j
  rw [Array.getElem?_setIfInBounds, stkA_size]
  by_cases h1 : 16 = j
  · subst h1
    rw [if_pos rfl, if_pos (by omega), stkA_last]
  · rw [if_neg h1]
    by_cases h2 : j < 17
    · rw [stkA_get_all _ _ _ h2, stkA_get_all _ _ _ h2, if_pos (by omega), if_pos (by omega)]
    · rw [Array.getElem?_eq_none (by rw [stkA_size]; omega), Array.getElem?_eq_none (by rw [stkA_size]; omega)]
theorem stkA_put (F : Nat → Int) (d : Int) (k : Nat) (hk : k < 16) (v : Int) : (stkA F d).setIfInBounds k (.int .i64 v) = stkA (fun j => if j = k then v else F j) d := by
  apply Array.ext_getElem?
  intro j
  rw [Array.getElem?_setIfInBounds, stkA_size]
  by_cases h1 : k = j
  · subst h1
    rw [if_pos rfl, if_pos (by omega), stkA_get _ _ _ hk, if_pos rfl]
  · rw [if_neg h1]
    by_cases h2 : j < 17
    · rw [stkA_get_all _ _ _ h2, stkA_get_all _ _ _ h2]
      by_cases h3 : j < 16
      · rw [if_pos h3, if_pos h3, if_neg (fun e : j = k => h1 e.symm)]
      · rw [if_neg h3, if_neg h3]
    · rw [Array.getElem?_eq_none (by rw [stkA_size]; omega), Array.getElem?_eq_none (by rw [stkA_size]; omega)]
theorem stkA_slots (F : Nat → Int) (d : Int) : (stkA F d).extract 0 (0 + 16) = ((List.range 16).map fun j => Value.int .i64 (F j)).toArray := by
  apply Array.ext_getElem?
  intro j
  rw [Array.getElem?_extract, stkA_size]
  by_cases hj : j < 16
  · rw [if_pos (by omega), Nat.zero_add, stkA_get _ _ _ hj]
    simp [hj]
  · have e : (((List.range 16).map fun j => Value.int .i64 (F j)).toArray)[j]? = none := by simp; omega
    rw [if_neg (by omega), e]

/-- The numbers of a stack by their places, 0 behind the top. -/
def stF (L : List Int) (j : Nat) : Int := L.getD j 0
/-- The stack of the numbers L. -/
def stkL (L : List Int) : Array Value := stkA (stF L) L.length
theorem stF_in (L : List Int) (j : Nat) (h : j < L.length) : stF L j = L[j] := by simp [stF, h]
theorem stF_out (L : List Int) (j : Nat) (h : L.length ≤ j) : stF L j = 0 := by simp [stF, h]
theorem stkL_size (L : List Int) : (stkL L).size = 17 := stkA_size _ _
theorem stkL_one (L : List Int) : Ones (stkL L) := stkA_one _ _
theorem stk_push (L : List Int) (a : Int) (h : L.length < 16) : ((stkL L).setIfInBounds L.length (.int .i64 a)).setIfInBounds 16 (.int .i64 ((L.length : Int) + 1)) = stkL (L ++ [a]) := by
  unfold stkL
  rw [stkA_put _ _ _ h, stkA_dep]
  refine stkA_congr (fun j hj => ?_) (by simp)
  by_cases h1 : j = L.length
  · subst h1
    simp [stF]
  · rw [if_neg h1]
    by_cases h2 : j < L.length
    · rw [stF_in _ _ h2, stF_in _ _ (by simp; omega), List.getElem_append_left h2]
    · rw [stF_out L _ (by omega), stF_out _ _ (by simp; omega)]
theorem stk_pop (L : List Int) (a : Int) (h : L.length < 16) : ((stkL (L ++ [a])).setIfInBounds L.length (.int .i64 0)).setIfInBounds 16 (.int .i64 (L.length : Int)) = stkL L := by
  unfold stkL
  rw [stkA_put _ _ _ h, stkA_dep]
  refine stkA_congr (fun j hj => ?_) rfl
  have hl : (L ++ [a]).length = L.length + 1 := by simp
  by_cases h1 : j = L.length
  · subst h1
    rw [if_pos rfl, stF_out _ _ (Nat.le_refl _)]
  · rw [if_neg h1]
    by_cases h2 : j < L.length
    · rw [stF_in _ _ h2, stF_in _ _ (by omega), List.getElem_append_left h2]
    · rw [stF_out L _ (by omega), stF_out _ _ (by omega)]

theorem aggStk : AggT Try.prog 26 17 := ⟨⟨_, Try.underlying26, rfl⟩, by kernel_rfl⟩
theorem aggSlots : AggT Try.prog 24 16 := ⟨⟨_, Try.underlying24, rfl⟩, by kernel_rfl⟩
theorem zeroStk : ZeroT Try.prog 26 (stkL []) := by
  unfold ZeroT
  rw [stkL_size]
  kernel_rfl
theorem zeroStkV (w : World) : (zeroValue 26).run Try.prog w = .ok (.agg (stkL [])) w := run_alloc zeroStk
theorem built_stk : Try.prog.built 26 [] = some (stkL []) := by kernel_rfl
theorem below_newT (w : World) (o : Obj) : Below w.heap.size w (w.alloc o) := (Below.refl _ _).alloc (Nat.le_refl _) _

/-- Block b is a variable that holds the stack of the numbers L. -/
def TB8 (b : Nat) (L : List Int) (w : World) : Prop := Blk b 26 (stkL L) w
section
variable {b : Nat} {L : List Int} {w w' : World}
theorem TB8.lt (H : TB8 b L w) : b < w.heap.size := Blk.lt H
theorem TB8.step (H : TB8 b L w) (hb : Below w.heap.size w w') : TB8 b L w' := Blk.step H hb
theorem TB8.new (w : World) (L : List Int) : TB8 w.heap.size L (w.alloc (.cells (stkL L) 26)) := Blk.new _ _ _
theorem TB8.alloc (H : TB8 b L w) (o : Obj) : TB8 b L (w.alloc o) := Blk.alloc H o
theorem TB8.other (H : TB8 b L w) {g : Nat} (hg : b ≠ g) (o : Nat) (v : Value) : TB8 b L (w.setCell ⟨g, o, none⟩ v) := Blk.other H hg o v
theorem TB8.otherRow (H : TB8 b L w) {g : Nat} (hg : b ≠ g) (ds : Array Value) : TB8 b L (w.setRow g ds) := Blk.otherRow H hg ds
theorem TB8.cell (H : TB8 b L w) {j : Nat} (hj : j < 16) : w.cell? ⟨b, j, none⟩ = some (.int .i64 (stF L j)) := (Blk.cell H j).trans (stkA_get _ _ _ hj)
theorem TB8.depth (H : TB8 b L w) : w.cell? ⟨b, 16, none⟩ = some (.int .i64 (L.length : Int)) := (Blk.cell H 16).trans (stkA_last _ _)
theorem TB8.fz (H : TB8 b L w) (j : Nat) : w.frozen? ⟨b, j, none⟩ = false := Blk.frozen H j
theorem TB8.store (H : TB8 b L w) (M : List Int) : TB8 b M (w.setRow b (stkL M)) := Blk.store H _
theorem TB8.push (H : TB8 b L w) (h : L.length < 16) (a : Int) : TB8 b (L ++ [a]) ((w.setCell ⟨b, L.length, none⟩ (.int .i64 a)).setCell ⟨b, 16, none⟩ (.int .i64 ((L.length : Int) + 1))) :=
  ((Blk.put H L.length (.int .i64 a)).put 16 _).eq (stk_push L a h)
theorem TB8.pop {a : Int} (H : TB8 b (L ++ [a]) w) (h : L.length < 16) : TB8 b L ((w.setCell ⟨b, L.length, none⟩ (.int .i64 0)).setCell ⟨b, 16, none⟩ (.int .i64 (L.length : Int))) :=
  ((Blk.put H L.length (.int .i64 0)).put 16 _).eq (stk_pop L a h)
theorem TB8.calm {W : World} (H : TB8 b L W) : ∀ w', (∃ u : Calm W, w' = u.w) → TB8 b L w' := fun w' hw => by obtain ⟨u, rfl⟩ := hw; exact H.step u.below
theorem TB8.row (H : TB8 b L w) (h : L.length ≤ 16) : Row (Value.int .i64) w (some ⟨b, 0, none⟩) L := fun _ => ⟨b, 0, rfl, H.lt, fun j hj => by
  rw [Nat.zero_add, H.cell (by omega), stF_in _ _ hj]⟩
end
theorem belowRowT {B : Nat} {a w : World} (h : Below B a w) {g : Nat} (hg : B ≤ g) (cs : Array Value) : Below B a (w.setRow g cs) := belowRow' h hg cs

/-! ### '==' of a stack with itself -/
theorem eq_intT (x y : Int) (d : Nat) (w : World) : (Op.equalIn (d + 1) 3 (.int .i64 x) (.int .i64 y)).run Try.prog w = .ok (x == y) w := by
  simp [Op.equalIn, run_underlying Try.underlying3, go_sem]
theorem part_slot (F : Nat → Int) (j : Nat) (hj : j < 16) (w : World) : (part 3 ((List.range 16).map fun j => Value.int .i64 (F j)).toArray j).run Try.prog w = .ok (.int .i64 (F j)) w := by
  have e : (((List.range 16).map fun j => Value.int .i64 (F j)).toArray)[j]? = some (.int .i64 (F j)) := by simp [hj]
  simp [part, isAgg, Sem.run_bind, run_underlying Try.underlying3, hj]
theorem same_slotsD (F : Nat → Int) (D : Nat) (hD : ∀ (x y : Int) (w : World), (Op.equalIn D 3 (.int .i64 x) (.int .i64 y)).run Try.prog w = .ok (x == y) w) (w : World) :
    (Op.equalIn (D + 1) 24 (.agg ((List.range 16).map fun j => Value.int .i64 (F j)).toArray) (.agg ((List.range 16).map fun j => Value.int .i64 (F j)).toArray)).run Try.prog w = .ok true w := by
  have hi : (Try.prog.info? 3).map (·.size) = some 1 := by kernel_rfl
  have hp := fun j hj => part_slot F j hj w
  generalize ((List.range 16).map fun j => Value.int .i64 (F j)).toArray = C at *
  cases hq : Try.prog.info? 3 with
  | none => simp [hq] at hi
  | some i =>
    have hs : i.size = 1 := by simpa [hq] using hi
    simp only [Op.equalIn, Sem.run_bind, run_underlying Try.underlying24, Result.andThen_ok, sizeOf, typeInfo, hq, hs, Sem.run_pure]
    have go : ∀ l : List Nat, (∀ i ∈ l, i < 16) → (forIn (m := Sem) l ((none : Option Bool), ()) (fun i _ => do
            let a ← part 3 C i
            let b ← part 3 C i
            let r ← Op.equalIn D 3 a b
            if r = false then pure (ForInStep.done (some false, ())) else pure (ForInStep.yield (none, ())))).run Try.prog w = .ok (none, ()) w := by
      intro l
      induction l with
      | nil => intro _; simp
      | cons k l ih =>
        intro hl
        simp only [List.forIn_cons, Sem.run_bind, hp k (hl k (by simp)), Result.andThen_ok, hD]
        simp
        have := ih fun i hi => hl i (by simp [hi])
        simpa using this
    have hgo := go (List.range' 0 16) fun i hi => by have := List.mem_range'_1.1 hi; omega
    simp [Sem.run_bind, hq, hs, Std.Legacy.Range.forIn_eq_forIn_range'] at hgo ⊢
    rw [hgo]
    simp
theorem run_part_aggT {P : Program} (t : TypeId) (d : TypeDesc) (xs : Array Value) (off sz : Nat) (w : World) (hd : (match d with | .struct _ | .array _ _ => true | _ => false) = true) (hu : P.underlying t = some d) (hi : (P.info? t).map (·.size) = some sz) :
    (part t xs off).run P w = .ok (.agg (xs.extract off (off + sz))) w := by
  cases hq : P.info? t with
  | none => simp [hq] at hi
  | some i =>
    have hs : i.size = sz := by simpa [hq] using hi
    have hagg : (isAgg t).run P w = .ok true w := by
      unfold isAgg
      rw [Sem.run_bind, run_underlying hu w]
      cases d <;> simp_all
    simp [part, Sem.run_bind, hagg, sizeOf, typeInfo, hq, hs]
theorem same_stks (F : Nat → Int) (n : Int) (d : Nat) (w : World) : (Op.equalIn (d + 3) 26 (.agg (stkA F n)) (.agg (stkA F n))).run Try.prog w = .ok true w := by
  have ht : Try.prog.underlying 26 = some (.struct (Try.prog.fieldsOf 26)) := by kernel_rfl
  have hp : Try.prog.stoodInHeld 26 = false := by kernel_rfl
  rw [run_equalIn_struct (P := Try.prog) w (d + 2) 26 _ _ ht hp]
  have hx : (part 24 (stkA F n) 0).run Try.prog w = .ok (.agg ((List.range 16).map fun j => Value.int .i64 (F j)).toArray) w := by
    rw [run_part_aggT (P := Try.prog) 24 _ (stkA F n) 0 16 w rfl Try.underlying24 aggSlots.i, stkA_slots]
  have hy : (part 3 (stkA F n) 16).run Try.prog w = .ok (.int .i64 n) w := by
    simp [part, isAgg, Sem.run_bind, run_underlying Try.underlying3, stkA_last F n]
  have he := same_slotsD F (d + 1) (fun x y w => eq_intT x y d w) w
  have he2 := eq_intT n n (d + 1) w
  rw [show (n == n) = true by simp] at he2
  clear ht hp
  generalize stkA F n = C at *
  generalize ((List.range 16).map fun j => Value.int .i64 (F j)).toArray = D at *
  simp only [Program.fieldsOf, Try.underlying26, Op.eqFields]
  rw [if_pos (by decide), Sem.run_bind, hx, Result.andThen_ok, Sem.run_bind, hx, Result.andThen_ok, Sem.run_bind, he, Result.andThen_ok]
  rw [if_neg (by decide), if_pos (by decide), Sem.run_bind, hy, Result.andThen_ok, Sem.run_bind, hy, Result.andThen_ok, Sem.run_bind, he2, Result.andThen_ok]
  rw [if_neg (by decide), Sem.run_pure]
theorem eq_stks (L : List Int) (w : World) : (binOp .eql 26 (.agg (stkL L)) (.agg (stkL L))).run Try.prog w = .ok (.bool true) w := by
  have h := same_stks (stF L) L.length 9997 w
  have e : (10000 : Nat) = 9997 + 3 := by decide
  rw [run_eql_struct, e]
  unfold stkL
  rw [h]
  simp only [Result.andThen_ok]
theorem eqGuardStk : Try.prog.eqGuardType Try.prog.depth 26 = false := by kernel_rfl
theorem exec_eqT {o : Oper} {ρ : Operand → Value} {w : World} (x y : Operand) (z : TypeId) (ho : o.op = .binOp .eql 26 x y z) (L : List Int) (hx : ρ x = .agg (stkL L)) (hy : ρ y = .agg (stkL L)) : (execOp ρ o).run Try.prog w = .ok (.value (.bool true)) w := by
  unfold execOp
  simp only [ho, hx, hy]
  rw [Sem.run_bind, Sem.run_bind, run_eqGuard_agg w .eql 26 x y (stkL L) (stkL L) eqGuardStk, Result.andThen_ok, eq_stks, Result.andThen_ok, Sem.run_pure]
section
variable {ops : Array Oper} {C : World → Prop} {L : List Int}
theorem quiet_eqT {Q : Act → Prop} {o : Oper} {rest : List Oper} {a : Act} (hw : Region.wanted o (yielded ops a.tmps) = true) (x y : Operand) (z : TypeId) (ho : o.op = .binOp .eql 26 x y z) (hx : a.eval x = .agg (stkL L)) (hy : a.eval y = .agg (stkL L))
    (h : wpQuiet Try.prog ops C Q rest (a.put o.dst (.bool true))) : wpQuiet Try.prog ops C Q (o :: rest) a :=
  quiet_run hw (.bool true) (fun w' _ => exec_eqT x y z ho L hx hy) h
theorem quiet_litT {Q : Act → Prop} {o : Oper} {rest : List Oper} {a : Act} (hw : Region.wanted o (yielded ops a.tmps) = true) (ho : o.op = .build 26 #[])
    (h : wpQuiet Try.prog ops C Q rest (a.put o.dst (.agg (stkL [])))) : wpQuiet Try.prog ops C Q (o :: rest) a :=
  quiet_build_all hw ho (by simp; exact built_stk) h
theorem list_eqT {Q : Exit → Act → World → Prop} {rest : List Oper} {op : Oper} {a : Act} {w : World} (hgd : op.guard = none) (x y : Operand) (z : TypeId) (ho : op.op = .binOp .eql 26 x y z) (hx : a.eval x = .agg (stkL L)) (hy : a.eval y = .agg (stkL L))
    (h : wpList Try.prog ops Q rest (a.put op.dst (.bool true)) w) : wpList Try.prog ops Q (op :: rest) a w :=
  list_run hgd (.bool true) (exec_eqT x y z ho L hx hy) h
end
end Go.Proofs.Ytbgdkhbembjjlaa
