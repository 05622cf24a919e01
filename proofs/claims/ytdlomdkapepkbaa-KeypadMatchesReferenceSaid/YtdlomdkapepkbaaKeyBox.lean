/- Keypads as values: 16 cells; their blocks; '==' of one with itself; events and slices of events. -/
import Derived.Test.YtdlomdkapepkbaaBlk
import Derived.Test.YtdlomdkapepkbaaKeyNum
import Derived.KernelRfl
import Derived.RangeFuncBox
import Derived.Below
import Derived.Outline
import Derived.WalkSpells
import Derived.Deep.Cut
import Derived.BigQuiet
import Derived.Deep.QuietTactic
import Derived.Handy
import Derived.IntWalk
import Derived.Lib.Hide
import Derived.Test.YtdlomdkapepkbaaNum
namespace Go.Proofs.Ytdlomdkapepkbaa
open Go.RowKit Num
set_option linter.unusedVariables false
set_option linter.unusedSimpArgs false

/-- The cells of a keypad. -/
def kc (K : Nat → Bool) : Array Value := ((List.range 16).map fun j => Value.bool (K j)).toArray
theorem kc_size (K : Nat → Bool) : (kc K).size = 16 := by simp [kc]
theorem kc_get (K : Nat → Bool) (j : Nat) (hj : j < 16) : (kc K)[j]? = some (.bool (K j)) := by simp [kc, hj]
theorem kc_one (K : Nat → Bool) : Ones (kc K) := by
  unfold Ones
  rw [Array.all_eq_true_iff_forall_mem]
  intro v hv
  simp only [kc, List.mem_toArray, List.mem_map, List.mem_range] at hv
  obtain ⟨j, _, rfl⟩ := hv
  rfl
theorem kc_put (K : Nat → Bool) (n : Nat) (hn : n < 16) (v : Bool) : (kc K).setIfInBounds n (.bool v) = kc fun j => if j = n then v else K j := by
  apply Array.ext_getElem?
  intro j
  rw [Array.getElem?_setIfInBounds, kc_size]
  by_cases h1 : n = j
  · subst h1
    rw [if_pos rfl, if_pos hn, kc_get _ _ hn, if_pos rfl]
  · rw [if_neg h1]
    by_cases h3 : j < 16
    · rw [kc_get _ _ h3, kc_get _ _ h3, if_neg (fun e => h1 e.symm)]
    · rw [Array.getElem?_eq_none (by rw [kc_size]; omega), Array.getElem?_eq_none (by rw [kc_size]; omega)]
theorem kc_extract (K : Nat → Bool) : (kc K).extract 0 (0 + 16) = kc K := by
  apply Array.ext_getElem?
  intro j
  rw [Array.getElem?_extract, kc_size]
  by_cases hj : j < 16
  · rw [if_pos (by omega), Nat.zero_add]
  · rw [if_neg (by omega), Array.getElem?_eq_none (by rw [kc_size]; omega)]
theorem aggPad : AggT Try.prog 26 16 := ⟨⟨_, Try.underlying26, rfl⟩, by kernel_rfl⟩
theorem aggKeys : AggT Try.prog 24 16 := ⟨⟨_, Try.underlying24, rfl⟩, by kernel_rfl⟩
theorem zeroPad : ZeroT Try.prog 26 (kc up) := by
  unfold ZeroT
  rw [kc_size]
  kernel_rfl
theorem zeroKeys (w : World) : (zeroValue 26).run Try.prog w = .ok (.agg (kc up)) w := run_alloc zeroPad
theorem built_pad : Try.prog.built 26 [] = some (kc up) := by kernel_rfl
theorem build_pad (w : World) : (Instr.build 26 #[]).run Try.prog w = .ok (.agg (kc up)) w := run_build w 26 _ _ built_pad

/-- Block b is a variable that holds the keypad K. -/
def KB (b : Nat) (K : Nat → Bool) (w : World) : Prop := Blk b 26 (kc K) w
section
variable {b : Nat} {K L : Nat → Bool} {w w' : World}
theorem KB.lt (H : KB b K w) : b < w.heap.size := Blk.lt H
theorem KB.below (H : KB b K w) {n : Nat} (hb : Below n w w') (hn : b < n) : KB b K w' := Blk.below H hb hn
theorem KB.step (H : KB b K w) (hb : Below w.heap.size w w') : KB b K w' := Blk.step H hb
theorem KB.new (w : World) (K : Nat → Bool) : KB w.heap.size K (w.alloc (.cells (kc K) 26)) := Blk.new _ _ _
theorem KB.alloc (H : KB b K w) (o : Obj) : KB b K (w.alloc o) := Blk.alloc H o
theorem KB.drew (H : KB b K w) : KB b K w.drew := H
theorem KB.other (H : KB b K w) {g : Nat} (hg : b ≠ g) (o : Nat) (v : Value) : KB b K (w.setCell ⟨g, o, none⟩ v) := Blk.other H hg o v
theorem KB.otherRow (H : KB b K w) {g : Nat} (hg : b ≠ g) (ds : Array Value) : KB b K (w.setRow g ds) := Blk.otherRow H hg ds
theorem KB.cell (H : KB b K w) {j : Nat} (hj : j < 16) : w.cell? ⟨b, j, none⟩ = some (.bool (K j)) := by rw [Blk.cell H, kc_get _ _ hj]
theorem KB.fz (H : KB b K w) (j : Nat) : w.frozen? ⟨b, j, none⟩ = false := Blk.frozen H j
theorem KB.store (H : KB b K w) (L : Nat → Bool) : KB b L (w.setRow b (kc L)) := Blk.store H _
theorem KB.put (H : KB b K w) {n : Nat} (hn : n < 16) (v : Bool) : KB b (fun j => if j = n then v else K j) (w.setCell ⟨b, n, none⟩ (.bool v)) := (Blk.put H n _).eq (kc_put K n hn v)
end

/-! ### '==' of a keypad with itself -/
theorem eq_boolK (x y : Bool) (d : Nat) (w : World) : (Op.equalIn (d + 1) 4 (.bool x) (.bool y)).run Try.prog w = .ok (x == y) w := by
  simp [Op.equalIn, run_underlying Try.underlying4, go_sem]
theorem part_key (K : Nat → Bool) (j : Nat) (hj : j < 16) (w : World) : (part 4 (kc K) j).run Try.prog w = .ok (.bool (K j)) w := by
  simp [part, isAgg, Sem.run_bind, run_underlying Try.underlying4, kc_get K j hj]
theorem same_keysD (K : Nat → Bool) (D : Nat) (hD : ∀ (x y : Bool) (w : World), (Op.equalIn D 4 (.bool x) (.bool y)).run Try.prog w = .ok (x == y) w) (w : World) : (Op.equalIn (D + 1) 24 (.agg (kc K)) (.agg (kc K))).run Try.prog w = .ok true w := by
  have hi : (Try.prog.info? 4).map (·.size) = some 1 := by kernel_rfl
  cases hq : Try.prog.info? 4 with
  | none => simp [hq] at hi
  | some i =>
    have hs : i.size = 1 := by simpa [hq] using hi
    simp only [Op.equalIn, Sem.run_bind, run_underlying Try.underlying24, Result.andThen_ok, sizeOf, typeInfo, hq, hs, Sem.run_pure]
    have go : ∀ l : List Nat, (∀ i ∈ l, i < 16) → (forIn (m := Sem) l ((none : Option Bool), ()) (fun i _ => do
            let a ← part 4 (kc K) i
            let b ← part 4 (kc K) i
            let r ← Op.equalIn D 4 a b
            if r = false then pure (ForInStep.done (some false, ())) else pure (ForInStep.yield (none, ())))).run Try.prog w = .ok (none, ()) w := by
      intro l
      induction l with
      | nil => intro _; simp
      | cons k l ih =>
        intro hl
        simp only [List.forIn_cons, Sem.run_bind, part_key K k (hl k (by simp)), Result.andThen_ok, hD]
        simp
        have := ih fun i hi => hl i (by simp [hi])
        simpa using this
    have hgo := go (List.range' 0 16) fun i hi => by have := List.mem_range'_1.1 hi; omega
    simp [Sem.run_bind, hq, hs, Std.Legacy.Range.forIn_eq_forIn_range'] at hgo ⊢
    rw [hgo]
    simp
theorem same_keys (K : Nat → Bool) (d : Nat) (w : World) : (Op.equalIn (d + 2) 24 (.agg (kc K)) (.agg (kc K))).run Try.prog w = .ok true w := same_keysD K (d + 1) (fun x y w => eq_boolK x y d w) w
theorem run_part_aggK {P : Program} (t : TypeId) (d : TypeDesc) (xs : Array Value) (off sz : Nat) (w : World) (hd : (match d with | .struct _ | .array _ _ => true | _ => false) = true) (hu : P.underlying t = some d) (hi : (P.info? t).map (·.size) = some sz) :
    (part t xs off).run P w = .ok (.agg (xs.extract off (off + sz))) w := by
  cases hq : P.info? t with
  | none => simp [hq] at hi
  | some i =>
    have hs : i.size = sz := by simpa [hq] using hi
    have hagg : (isAgg t).run P w = .ok true w := by
      unfold isAgg
      rw [Sem.run_bind, run_underlying hu w]
      cases d <;> simp_all
    simp [part, Sem.run_bind, hagg, sizeOf, typeInfo, hq, hs]
theorem same_pads (K : Nat → Bool) (d : Nat) (w : World) : (Op.equalIn (d + 3) 26 (.agg (kc K)) (.agg (kc K))).run Try.prog w = .ok true w := by
  have ht : Try.prog.underlying 26 = some (.struct (Try.prog.fieldsOf 26)) := by kernel_rfl
  have hp : Try.prog.stoodInHeld 26 = false := by kernel_rfl
  rw [run_equalIn_struct (P := Try.prog) w (d + 2) 26 _ _ ht hp]
  have hx : (part 24 (kc K) 0).run Try.prog w = .ok (.agg (kc K)) w := by
    rw [run_part_aggK (P := Try.prog) 24 _ (kc K) 0 16 w rfl Try.underlying24 aggKeys.i, kc_extract]
  have he := same_keys K d w
  clear ht hp
  generalize kc K = C at *
  simp only [Program.fieldsOf, Try.underlying26, Op.eqFields]
  rw [if_pos (by decide), Sem.run_bind, hx, Result.andThen_ok, Sem.run_bind, hx, Result.andThen_ok, Sem.run_bind, he, Result.andThen_ok]
  rw [if_neg (by decide), Sem.run_pure]
theorem eq_pads (K : Nat → Bool) (w : World) : (binOp .eql 26 (.agg (kc K)) (.agg (kc K))).run Try.prog w = .ok (.bool true) w := by
  have h := same_pads K 9997 w
  have e : (10000 : Nat) = 9997 + 3 := by decide
  rw [run_eql_struct, e, h]
  simp only [Result.andThen_ok]
theorem eqGuardPad : Try.prog.eqGuardType Try.prog.depth 26 = false := by kernel_rfl
theorem exec_eqK {o : Oper} {ρ : Operand → Value} {w : World} (x y : Operand) (z : TypeId) (ho : o.op = .binOp .eql 26 x y z) (K : Nat → Bool) (hx : ρ x = .agg (kc K)) (hy : ρ y = .agg (kc K)) : (execOp ρ o).run Try.prog w = .ok (.value (.bool true)) w := by
  unfold execOp
  simp only [ho, hx, hy]
  rw [Sem.run_bind, Sem.run_bind, run_eqGuard_agg w .eql 26 x y (kc K) (kc K) eqGuardPad, Result.andThen_ok, eq_pads, Result.andThen_ok, Sem.run_pure]
section
variable {ops : Array Oper} {C : World → Prop}
theorem quiet_eqK {Q : Act → Prop} {o : Oper} {rest : List Oper} {a : Act} {K : Nat → Bool} (hw : Region.wanted o (yielded ops a.tmps) = true) (x y : Operand) (z : TypeId) (ho : o.op = .binOp .eql 26 x y z) (hx : a.eval x = .agg (kc K)) (hy : a.eval y = .agg (kc K))
    (h : wpQuiet Try.prog ops C Q rest (a.put o.dst (.bool true))) : wpQuiet Try.prog ops C Q (o :: rest) a :=
  quiet_run hw (.bool true) (fun w' _ => exec_eqK x y z ho K hx hy) h
theorem list_eqK {Q : Exit → Act → World → Prop} {rest : List Oper} {op : Oper} {a : Act} {w : World} {K : Nat → Bool} (hgd : op.guard = none) (x y : Operand) (z : TypeId) (ho : op.op = .binOp .eql 26 x y z) (hx : a.eval x = .agg (kc K)) (hy : a.eval y = .agg (kc K))
    (h : wpList Try.prog ops Q rest (a.put op.dst (.bool true)) w) : wpList Try.prog ops Q (op :: rest) a w :=
  list_run hgd (.bool true) (exec_eqK x y z ho K hx hy) h
end

/-- Two results: a variable that holds a struct, and a slot. -/
theorem results_cell_slot {P : Program} {fn : Func} {p q : Tmp} {ty : TypeId} (h : fn.results = #[.cell p ty, .tmp q]) (tmps : Array Value) (w : World) (g : Nat) (t : TypeId) (cs : Array Value) (fr : Nat × Nat) (d : TypeDesc) (v : Value)
    (hp : tmps.getD p undef = .pointer (some ⟨g, 0, none⟩)) (hq : tmps.getD q undef = v) (hg : w.heap[g]? = some (.cells cs t fr))
    (hu : P.underlying ty = some d) (hd : (match d with | .struct _ | .array _ _ => true | _ => false) = true) (hi : (P.info? ty).map (·.size) = some cs.size) :
    (results fn tmps).run P w = .ok (.tuple #[.agg cs, v]) w := by
  have hp' : tmps[p]?.getD undef = .pointer (some ⟨g, 0, none⟩) := by simpa using hp
  have hq' : tmps[q]?.getD undef = v := by simpa using hq
  simp [results, h, hp', hq', asAddr, run_loadVar_row w g t ty cs fr d hg hu hd hi]
/-- A row of a heap turned, behind its end. -/
theorem belowRowK {B : Nat} {a w : World} (h : Below B a w) {g : Nat} (hg : B ≤ g) (cs : Array Value) : Below B a (w.setRow g cs) := belowRow' h hg cs

theorem below_newK (w : World) (o : Obj) : Below w.heap.size w (w.alloc o) := (Below.refl _ _).alloc (Nat.le_refl _) _

/-! ### Events -/
def ec (e : Ev) : Array Value := #[.int .i64 e.k, .bool e.d]
theorem ec_size (e : Ev) : (ec e).size = 2 := rfl
theorem aggEv : AggT Try.prog 30 2 := ⟨⟨_, Try.underlying30, rfl⟩, by kernel_rfl⟩
/-- An event's number is one of an int. -/
def Ev.ok (e : Ev) : Prop := -9223372036854775808 ≤ e.k ∧ e.k ≤ 9223372036854775807
/-- A slice of events. -/
structure Evs (w : World) (A : Option Addr) (n : Nat) (l : List Ev) : Prop where
  len : l.length = n
  max : n ≤ maxLen
  at_ : ∀ i (h : i < l.length), ∃ b o, A = some ⟨b, o, none⟩ ∧ b < w.heap.size ∧ w.cell? ⟨b, o + i * 2, none⟩ = some (.int .i64 (l[i]).k) ∧ w.cell? ⟨b, o + i * 2 + 1, none⟩ = some (.bool (l[i]).d) ∧ (l[i]).ok
theorem Evs.step {w w' : World} {A : Option Addr} {n : Nat} {l : List Ev} (h : Evs w A n l) (hb : Below w.heap.size w w') : Evs w' A n l :=
  ⟨h.len, h.max, fun i hi => by
    obtain ⟨b, o, e, lt, c1, c2, k⟩ := h.at_ i hi
    exact ⟨b, o, e, Nat.lt_of_lt_of_le lt hb.size, (hb.cell (p := ⟨b, o + i * 2, none⟩) lt).trans c1, (hb.cell (p := ⟨b, o + i * 2 + 1, none⟩) lt).trans c2, k⟩⟩
theorem Evs.take {w : World} {A : Option Addr} {n : Nat} {l : List Ev} (h : Evs w A n l) (k : Nat) (hk : k ≤ n) : Evs w A k (l.take k) :=
  ⟨by rw [List.length_take, h.len]; omega, Nat.le_trans hk h.max, fun i hi => by
    rw [List.length_take] at hi
    rw [List.getElem_take]
    exact h.at_ i (by omega)⟩
theorem Evs.drop {w : World} {A A' : Option Addr} {n : Nat} {l : List Ev} (h : Evs w A n l) (k : Nat) (hk : k ≤ n) (hA : ∀ b o, A = some ⟨b, o, none⟩ → k < n → A' = some ⟨b, o + k * 2, none⟩) : Evs w A' (n - k) (l.drop k) :=
  ⟨by rw [List.length_drop, h.len], Nat.le_trans (Nat.sub_le _ _) h.max, fun i hi => by
    rw [List.length_drop] at hi
    obtain ⟨b, o, e, lt, c1, c2, ok⟩ := h.at_ (k + i) (by omega)
    rw [List.getElem_drop]
    refine ⟨b, o + k * 2, hA b o e (by have := h.len; omega), lt, ?_, ?_, ok⟩
    · rw [show o + k * 2 + i * 2 = o + (k + i) * 2 by omega]; exact c1
    · rw [show o + k * 2 + i * 2 + 1 = o + (k + i) * 2 + 1 by omega]; exact c2⟩
end Go.Proofs.Ytdlomdkapepkbaa
