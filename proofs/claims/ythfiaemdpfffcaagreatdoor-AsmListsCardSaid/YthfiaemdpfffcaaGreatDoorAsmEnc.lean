/- word.Bytes and compose. -/
import Derived.Test.YthfiaemdpfffcaaGreatDoorAsmOr
import Derived.Test.YthfiaemdpfffcaaGreatDoorAsmSyn
import Derived.Test.YthfiaemdpfffcaaGreatDoorDec
import Derived.Test.YthfiaemdpfffcaaGreatDoorArr
import Derived.Test.YthfiaemdpfffcaaGreatDoorByt
import Derived.Test.YthfiaemdpfffcaaGreatDoorAppRd
import Derived.Test.YthfiaemdpfffcaaGreatDoorLate
import Derived.Lib.SliceRun
import Derived.Test.YthfiaemdpfffcaaGreatDoorDecTab
import Derived.Test.YthfiaemdpfffcaaGreatDoorBlk
import Derived.Laws.StructEq
import Derived.Test.YthfiaemdpfffcaaGreatDoorPlain
import Derived.IntWalk
namespace Go.Proofs.YthfiaemdpfffcaaGreatDoor
open Go.RowKit Num Dec
set_option linter.unusedVariables false
set_option linter.unusedSimpArgs false

theorem bytes_any (n : Int) (w : World) : Calls Tryz.prog 47 #[.int .i64 n] w fun e w' => e = .returned (.tuple #[.int .u8 (n / 256 % 256), .int .u8 (n % 256)]) ∧ w = w' := by
  go_enter Tryz.func47, Tryz.ntmps47
  go_wp2
  go_ret2
  exact ⟨rfl, rfl⟩
/-- What compose joins. -/
def joinI (c x y n nn a : Int) : Int := bits .or .i64 c (bits .or .i64 (bits .or .i64 (bits .or .i64 (bits .or .i64 (wrap64 (x * 256)) (wrap64 (y * 16))) n) nn) a)
def bcI (u v : Int) : Array Value := #[.int .u8 (u / 256 % 256), .int .u8 (u % 256), .int .u8 (v / 256 % 256), .int .u8 (v % 256)]

set_option maxRecDepth 100000 in
set_option maxHeartbeats 4000000 in
theorem compose_rest (o : Nat) (x y n nn a len : Int) (c : Int) (h1 : o < 52) (h8 : ¬ o = 48) (h9 : ¬ o = 49) (w : World) (hL : AL w) (hc : ((ruleOf o).code : Int) = c) :
    Calls Tryz.prog 20 #[.agg #[.int .i64 (o : Int), .int .i64 x, .int .i64 y, .int .i64 n, .int .i64 nn, .int .i64 a, .int .i64 len]] w fun e w' => e = .returned (.agg (bcI (joinI c x y n nn a) 0)) ∧ Below w.heap.size w w' := by
  have hg := hL.codes o h1
  rw [hc] at hg
  have hlt := hL.lt.1
  have i8 : ¬ (o : Int) = 48 := by omega
  have i9 : ¬ (o : Int) = 49 := by omega
  have i1 : (o : Int) < 52 := by omega
  clear hL hc h8 h9
  go_enter Tryz.func20, Tryz.ntmps20
  go_wp2_with fail
  refine (bytes_any _ _).mono ?_
  rintro e w1 ⟨rfl, rfl⟩
  go_wp2_with fail
  refine (bytes_any _ _).mono ?_
  rintro e w1 ⟨rfl, rfl⟩
  go_wp2_with fail
  go_returns
  exact ⟨rfl, by go_grown⟩

set_option maxRecDepth 100000 in
set_option maxHeartbeats 4000000 in
theorem compose_48  (x y n nn a len : Int) (c : Int)   (w : World) (hL : AL w) (hc : ((ruleOf 48).code : Int) = c) :
    Calls Tryz.prog 20 #[.agg #[.int .i64 48, .int .i64 x, .int .i64 y, .int .i64 n, .int .i64 nn, .int .i64 a, .int .i64 len]] w fun e w' => e = .returned (.agg (bcI c a)) ∧ Below w.heap.size w w' := by
  have hg := hL.codes 48 (by decide)
  rw [hc] at hg
  have hlt := hL.lt.1


  clear hL hc 
  go_enter Tryz.func20, Tryz.ntmps20
  go_wp2_with fail
  refine (bytes_any _ _).mono ?_
  rintro e w1 ⟨rfl, rfl⟩
  go_wp2_with fail
  refine (bytes_any _ _).mono ?_
  rintro e w1 ⟨rfl, rfl⟩
  go_wp2_with fail
  go_returns
  exact ⟨rfl, by go_grown⟩

set_option maxRecDepth 100000 in
set_option maxHeartbeats 4000000 in
theorem compose_49  (x y n nn a len : Int) (c : Int)   (w : World) (hL : AL w) (hc : ((ruleOf 49).code : Int) = c) :
    Calls Tryz.prog 20 #[.agg #[.int .i64 49, .int .i64 x, .int .i64 y, .int .i64 n, .int .i64 nn, .int .i64 a, .int .i64 len]] w fun e w' => e = .returned (.agg (bcI (bits .or .i64 c (wrap64 (n * 256))) 0)) ∧ Below w.heap.size w w' := by
  have hg := hL.codes 49 (by decide)
  rw [hc] at hg
  have hlt := hL.lt.1


  clear hL hc 
  go_enter Tryz.func20, Tryz.ntmps20
  go_wp2_with fail
  refine (bytes_any _ _).mono ?_
  rintro e w1 ⟨rfl, rfl⟩
  go_wp2_with fail
  refine (bytes_any _ _).mono ?_
  rintro e w1 ⟨rfl, rfl⟩
  go_wp2_with fail
  go_returns
  exact ⟨rfl, by go_grown⟩
end Go.Proofs.YthfiaemdpfffcaaGreatDoor
/- slices.Clone of a slice of bytes. -/
namespace Go.Proofs.YthfiaemdpfffcaaGreatDoor
open Go.RowKit Num
set_option linter.unusedVariables false
set_option linter.unusedSimpArgs false
theorem below_newB (w : World) (o : Obj) : Below w.heap.size w (w.alloc o) := (Below.refl _ _).alloc (Nat.le_refl _) o

set_option maxRecDepth 100000 in
set_option maxHeartbeats 2000000 in
/-- slices.Clone of a slice of bytes, nil or not. -/
theorem bclone_any (A : Option Addr) (n c : Nat) (L : List Int) (w : World) (H : Rd w A L) (hn : L.length = n) (n1 : n ≤ 1000000) :
    Calls Tryz.prog 22 #[.slice A n c] w (Gives 5 L w) := by
  have qN : ∀ (w : World) (a : Option Addr) (n c n' c' : Nat), (binOp .eql 22 (.slice a n c) (.slice none n' c')).run Tryz.prog w = .ok (.bool a.isNone) w := fun w a n c n' c' => Lib.run_eql_slice_nil w _ _ a n c n' c' Tryz.underlying22
  rcases A with _ | ad
  · have e : L = [] := by
      by_cases h : L = []
      · exact h
      · obtain ⟨ad, e, _⟩ := H h
        cases e
    subst e
    clear H
    go_enter Tryz.func22, Tryz.ntmps22
    go_wp2
    go_ret
    exact ⟨_, rfl, World.ownsRow_nil _ _ _ _, Below.refl _ _⟩
  · have HL := Lib.hid (And.intro H (And.intro hn n1))
    clear H hn n1
    go_enter Tryz.func22, Tryz.ntmps22
    have hown0 : (w.alloc (.cells #[] 5)).ownsRow w.heap.size 5 1 (.slice (some ⟨w.heap.size, 0, none⟩) 0 0) 0 (([] : List Int).map (Value.int .u8)) := World.ownsRow_made w #[] 0 (Nat.le_refl _) (by unfold maxLen; omega) rfl
    have Q := Lib.hid (And.intro hown0 (below_newB w (.cells #[] 5)))
    clear hown0
    go_wp2_with (first
      | (at_builtin; refine wpList_append_rd rfl (.tmp 5) (.tmp 6) rfl w.heap.size _ 0 [] rfl Q.out.1 (some ad) n c L rfl (HL.out.1.below Q.out.2) HL.out.2.1 (by have := HL.out.2.2; omega) (by simp) ?_; intro v1 w1 o1 g1; have P1 := Lib.hid (And.intro o1 (Q.out.2.grown g1 (by simp) fun j ej => (Q.out.1.lt j ej).1)); clear o1 g1))
    go_ret
    refine ⟨v1, rfl, ?_, P1.out.2⟩
    have := P1.out.1
    rw [HL.out.2.1]
    simpa using this

end Go.Proofs.YthfiaemdpfffcaaGreatDoor
/- '==' of two instructions. -/
namespace Go.Proofs.YthfiaemdpfffcaaGreatDoor
open Go.RowKit Num Dec
set_option linter.unusedVariables false
set_option linter.unusedSimpArgs false

def insB (i j : Ins) : Bool := decide (i.op = j.op) && (decide (i.x = j.x) && (decide (i.y = j.y) && (decide (i.n = j.n) && (decide (i.nn = j.nn) && (decide (i.addr = j.addr) && decide (i.len = j.len))))))
theorem insB_same (i : Ins) : insB i i = true := by simp [insB]
theorem insB_ne {i j : Ins} (h : ¬ i = j) : insB i j = false := by
  cases hb : insB i j
  · rfl
  · exfalso
    apply h
    unfold insB at hb
    simp only [Bool.and_eq_true, decide_eq_true_eq] at hb
    obtain ⟨h1, h2, h3, h4, h5, h6, h7⟩ := hb
    cases i; cases j
    simp only at h1 h2 h3 h4 h5 h6 h7
    subst h1 h2 h3 h4 h5 h6 h7
    rfl
theorem part_int (cs : Array Value) (k : Nat) (v : Value) (h : cs[k]? = some v) (w : World) : (part 3 cs k).run Tryz.prog w = .ok v w := by
  have hagg : (isAgg 3).run Tryz.prog w = .ok false w := by
    unfold isAgg
    rw [Sem.run_bind, run_underlying Tryz.underlying3 w]
    rfl
  simp [part, Sem.run_bind, hagg, h]
theorem same_int (d : Nat) (a b : Int) (w : World) : (Op.equalIn (d + 1) 3 (.int .i64 a) (.int .i64 b)).run Tryz.prog w = .ok (a == b) w := run_equalIn_int w d 3 .i64 .i64 a b Tryz.underlying3
theorem eq_step (d : Nat) (xs ys : Array Value) (f : Field) (fs : List Field) (a b : Int) (w : World) (hf : f.name ≠ "_") (ht : f.type = 3) (hx : xs[f.offset]? = some (.int .i64 a)) (hy : ys[f.offset]? = some (.int .i64 b)) (r : Bool)
    (hr : (Op.eqFields (d + 1) xs ys fs).run Tryz.prog w = .ok r w) : (Op.eqFields (d + 1) xs ys (f :: fs)).run Tryz.prog w = .ok (decide (a = b) && r) w := by
  unfold Op.eqFields
  rw [if_pos hf, Sem.run_bind, ht, part_int xs _ _ hx, Result.andThen_ok, Sem.run_bind, part_int ys _ _ hy, Result.andThen_ok, Sem.run_bind, same_int, Result.andThen_ok]
  by_cases h : a = b
  · subst h
    simp only [beq_self_eq_true, Bool.not_true, Bool.false_eq_true, if_false, decide_true, Bool.true_and]
    exact hr
  · have hb : (a == b) = false := by simpa using h
    rw [hb, decide_eq_false h]
    simp only [Bool.not_false, if_true, Sem.run_pure, Bool.false_and]
theorem eq_ins (i j : Ins) (w : World) : (Op.equalIn 10000 33 (.agg (icells i)) (.agg (icells j))).run Tryz.prog w = .ok (insB i j) w := by
  have ht : Tryz.prog.underlying 33 = some (.struct (Tryz.prog.fieldsOf 33)) := by kernel_rfl
  have hp : Tryz.prog.stoodInHeld 33 = false := by kernel_rfl
  have e : (10000 : Nat) = 9999 + 1 := by decide
  rw [e, run_equalIn_struct (P := Tryz.prog) w 9999 33 _ _ ht hp]
  clear e ht hp
  have e : (9999 : Nat) = 9998 + 1 := by decide
  rw [e]
  clear e
  generalize (9998 : Nat) = d
  simp only [Program.fieldsOf, Tryz.underlying33]
  unfold insB
  refine eq_step d _ _ _ _ _ _ w (by decide) rfl rfl rfl _ ?_
  refine eq_step d _ _ _ _ _ _ w (by decide) rfl rfl rfl _ ?_
  refine eq_step d _ _ _ _ _ _ w (by decide) rfl rfl rfl _ ?_
  refine eq_step d _ _ _ _ _ _ w (by decide) rfl rfl rfl _ ?_
  refine eq_step d _ _ _ _ _ _ w (by decide) rfl rfl rfl _ ?_
  refine eq_step d _ _ _ _ _ _ w (by decide) rfl rfl rfl _ ?_
  rw [← Bool.and_true (decide (i.len = j.len))]
  refine eq_step d _ _ _ _ _ _ w (by decide) rfl rfl rfl _ ?_
  simp [Op.eqFields]
theorem eql_ins (i j : Ins) (w : World) : (binOp .eql 33 (.agg (icells i)) (.agg (icells j))).run Tryz.prog w = .ok (.bool (insB i j)) w := by
  rw [run_eql_struct, eq_ins]
  simp only [Result.andThen_ok]
theorem neq_ins (i j : Ins) (w : World) : (binOp .neq 33 (.agg (icells i)) (.agg (icells j))).run Tryz.prog w = .ok (.bool (!insB i j)) w := by
  rw [run_neq_struct, eq_ins]
  simp only [Result.andThen_ok]
theorem eqGuardIns : Tryz.prog.eqGuardType Tryz.prog.depth 33 = false := by kernel_rfl
theorem exec_eqI {o : Oper} {ρ : Operand → Value} {w : World} (x y : Operand) (z : TypeId) (ho : o.op = .binOp .eql 33 x y z) (i j : Ins) (hx : ρ x = .agg (icells i)) (hy : ρ y = .agg (icells j)) : (execOp ρ o).run Tryz.prog w = .ok (.value (.bool (insB i j))) w := by
  unfold execOp
  simp only [ho, hx, hy]
  rw [Sem.run_bind, Sem.run_bind, run_eqGuard_agg w .eql 33 x y _ _ eqGuardIns, Result.andThen_ok, eql_ins, Result.andThen_ok, Sem.run_pure]
theorem exec_neI {o : Oper} {ρ : Operand → Value} {w : World} (x y : Operand) (z : TypeId) (ho : o.op = .binOp .neq 33 x y z) (i j : Ins) (hx : ρ x = .agg (icells i)) (hy : ρ y = .agg (icells j)) : (execOp ρ o).run Tryz.prog w = .ok (.value (.bool (!insB i j))) w := by
  unfold execOp
  simp only [ho, hx, hy]
  rw [Sem.run_bind, Sem.run_bind, run_eqGuard_agg w .neq 33 x y _ _ eqGuardIns, Result.andThen_ok, neq_ins, Result.andThen_ok, Sem.run_pure]
section
variable {ops : Array Oper} {C : World → Prop} {i j : Ins}
theorem quiet_eqI {Q : Act → Prop} {o : Oper} {rest : List Oper} {a : Act} (i j : Ins) (hw : Region.wanted o (yielded ops a.tmps) = true) (x y : Operand) (z : TypeId) (ho : o.op = .binOp .eql 33 x y z) (hx : a.eval x = .agg (icells i)) (hy : a.eval y = .agg (icells j))
    (h : wpQuiet Tryz.prog ops C Q rest (a.put o.dst (.bool (insB i j)))) : wpQuiet Tryz.prog ops C Q (o :: rest) a :=
  quiet_run hw _ (fun w' _ => exec_eqI x y z ho i j hx hy) h
theorem quiet_neI {Q : Act → Prop} {o : Oper} {rest : List Oper} {a : Act} (i j : Ins) (hw : Region.wanted o (yielded ops a.tmps) = true) (x y : Operand) (z : TypeId) (ho : o.op = .binOp .neq 33 x y z) (hx : a.eval x = .agg (icells i)) (hy : a.eval y = .agg (icells j))
    (h : wpQuiet Tryz.prog ops C Q rest (a.put o.dst (.bool (!insB i j)))) : wpQuiet Tryz.prog ops C Q (o :: rest) a :=
  quiet_run hw _ (fun w' _ => exec_neI x y z ho i j hx hy) h
end
end Go.Proofs.YthfiaemdpfffcaaGreatDoor
/- Encode. -/
namespace Go.Proofs.YthfiaemdpfffcaaGreatDoor
open Go.RowKit Num Dec
set_option linter.unusedVariables false
set_option linter.unusedSimpArgs false

def bI (c0 c1 c2 c3 : Nat) : Array Value := #[.int .u8 (c0 : Int), .int .u8 (c1 : Int), .int .u8 (c2 : Int), .int .u8 (c3 : Int)]
set_option maxRecDepth 100000 in
set_option maxHeartbeats 4000000 in
/-- An Op out of range. -/
theorem encode_op (i : Ins) (l : Int) (w : World) (h : i.op ≤ 0 ∨ (0 < i.op ∧ 52 ≤ i.op)) :
    Calls Tryz.prog 10 #[.agg (icells i), .int .i64 l] w fun e w' => e = .returned (.tuple #[.slice none 0 0, .int .i64 5]) ∧ Below w.heap.size w w' := by
  obtain ⟨o, x, y, n, nn, a, len⟩ := i
  unfold icells
  simp only at h ⊢
  rcases h with h | ⟨h, h2⟩
  · go_enter Tryz.func10, Tryz.ntmps10
    go_wp2_with fail
    go_returns
    exact ⟨rfl, by go_grown⟩
  · go_enter Tryz.func10, Tryz.ntmps10
    go_wp2_with fail
    go_returns
    exact ⟨rfl, by go_grown⟩
set_option maxRecDepth 100000 in
set_option maxHeartbeats 4000000 in
/-- What the composed bytes are decoded to is another one. -/
theorem encode_no (i j : Ins) (l : Int) (c0 c1 c2 c3 : Nat) (h0 : 0 < i.op) (h1 : i.op < 52) (CM : Hid (∀ w, AL w → Calls Tryz.prog 20 #[.agg (icells i)] w fun e w' => e = .returned (.agg (bI c0 c1 c2 c3)) ∧ Below w.heap.size w w'))
    (DC : Hid (∀ w, Calls Tryz.prog 21 #[.agg (bI c0 c1 c2 c3), .int .i64 l] w fun e w' => e = .returned (.agg (icells j)) ∧ Below w.heap.size w w')) (hne : ¬ j = i) (w : World) (hL : AL w) :
    Calls Tryz.prog 10 #[.agg (icells i), .int .i64 l] w fun e w' => e = .returned (.tuple #[.slice none 0 0, .int .i64 5]) ∧ Below w.heap.size w w' := by
  have HL := Lib.hid hL
  have BV := Lib.hid (below_new' w (.cells (icells i) 33))
  have BX := Lib.hid (Blk.new w 33 (icells i))
  obtain ⟨o, x, y, n, nn, a, len⟩ := i
  obtain ⟨o', x', y', n', nn', a', len'⟩ := j
  unfold icells bI at *
  simp only at *
  clear hL
  go_enter Tryz.func10, Tryz.ntmps10
  go_wp2_with fail
  refine (CM.out _ (HL.out.step BV.out)).mono ?_
  rintro e w1 ⟨rfl, b1⟩
  have B1 := Lib.hid (BV.out.trans (b1.mono (by simp)))
  have X1 := Lib.hid (BX.out.step b1)
  clear b1 BX BV
  have Y2 := Lib.hid (Blk.new w1 49 #[.int .u8 (c0 : Int), .int .u8 (c1 : Int), .int .u8 (c2 : Int), .int .u8 (c3 : Int)])
  have X2 := Lib.hid (X1.out.alloc (.cells #[.int .u8 (c0 : Int), .int .u8 (c1 : Int), .int .u8 (c2 : Int), .int .u8 (c3 : Int)] 49))
  have B2 := Lib.hid (B1.out.trans (below_new' w1 (.cells #[.int .u8 (c0 : Int), .int .u8 (c1 : Int), .int .u8 (c2 : Int), .int .u8 (c3 : Int)] 49) |>.mono B1.out.size))
  go_upto_region 4 with fail
  generalize hV : World.alloc _ _ = V at X2 Y2 B2 ⊢
  clear hV X1 B1
  have k0 := Calm.cell ((Y2.out.cell 0).trans rfl) Y2.out.lt
  have k1 := Calm.cell ((Y2.out.cell 1).trans rfl) Y2.out.lt
  have k2 := Calm.cell ((Y2.out.cell 2).trans rfl) Y2.out.lt
  have k3 := Calm.cell ((Y2.out.cell 3).trans rfl) Y2.out.lt
  have j0 := Calm.cell ((X2.out.cell 0).trans rfl) X2.out.lt
  have j1 := Calm.cell ((X2.out.cell 1).trans rfl) X2.out.lt
  have j2 := Calm.cell ((X2.out.cell 2).trans rfl) X2.out.lt
  have j3 := Calm.cell ((X2.out.cell 3).trans rfl) X2.out.lt
  have j4 := Calm.cell ((X2.out.cell 4).trans rfl) X2.out.lt
  have j5 := Calm.cell ((X2.out.cell 5).trans rfl) X2.out.lt
  have j6 := Calm.cell ((X2.out.cell 6).trans rfl) X2.out.lt
  refine calm_region (by kernel_rfl) (by kernel_rfl) ?_
  iterate 4 (go_big_quiet_step ((go_at_call 21; exact calm_call (DC.out _))))
  refine quiet_neI ⟨o', x', y', n', nn', a', len'⟩ ⟨o, x, y, n, nn, a, len⟩ (by rfl) (.tmp 19) (.tmp 20) 33 rfl rfl rfl ?_
  rw [insB_ne hne]
  simp only [Act.put, List.setIfInBounds_toArray, List.set_cons_zero, List.set_cons_succ]
  refine wpQuiet_nil ?_
  intro _ hw'
  obtain ⟨x, rfl⟩ := hw'
  have B3 := Lib.hid (B2.out.trans (x.below.mono B2.out.size))
  go_wp2_with fail
  go_returns
  exact ⟨rfl, B3.out⟩
/-- A new slice of bytes, and no error. -/
def EncYes (L : List Int) (w : World) (e : Ending) (w' : World) : Prop := ∃ A c, e = .returned (.tuple #[.slice A L.length c, .int .i64 0]) ∧ w'.ownsRow w.heap.size 5 1 (.slice A L.length c) L.length (L.map (Value.int .u8)) ∧ Below w.heap.size w w'
set_option maxRecDepth 100000 in
set_option maxHeartbeats 4000000 in
/-- The composed bytes are decoded to it. -/
theorem encode_yes (i j : Ins) (l : Int) (c0 c1 c2 c3 : Nat) (h0 : 0 < i.op) (h1 : i.op < 52) (CM : Hid (∀ w, AL w → Calls Tryz.prog 20 #[.agg (icells i)] w fun e w' => e = .returned (.agg (bI c0 c1 c2 c3)) ∧ Below w.heap.size w w'))
    (DC : Hid (∀ w, Calls Tryz.prog 21 #[.agg (bI c0 c1 c2 c3), .int .i64 l] w fun e w' => e = .returned (.agg (icells j)) ∧ Below w.heap.size w w')) (hne : j = i) (k : Nat) (hk : (k : Int) = i.len) (h24 : k = 2 ∨ k = 4) (w : World) (hL : AL w) :
    Calls Tryz.prog 10 #[.agg (icells i), .int .i64 l] w (EncYes (([(c0 : Int), c1, c2, c3]).take k) w) := by
  have HL := Lib.hid hL
  have BV := Lib.hid (below_new' w (.cells (icells i) 33))
  have BX := Lib.hid (Blk.new w 33 (icells i))
  obtain ⟨o, x, y, n, nn, a, len⟩ := i
  obtain ⟨o', x', y', n', nn', a', len'⟩ := j
  unfold icells bI at *
  simp only at *
  clear hL
  go_enter Tryz.func10, Tryz.ntmps10
  go_wp2_with fail
  refine (CM.out _ (HL.out.step BV.out)).mono ?_
  rintro e w1 ⟨rfl, b1⟩
  have B1 := Lib.hid (BV.out.trans (b1.mono (by simp)))
  have X1 := Lib.hid (BX.out.step b1)
  clear b1 BX BV
  have Y2 := Lib.hid (Blk.new w1 49 #[.int .u8 (c0 : Int), .int .u8 (c1 : Int), .int .u8 (c2 : Int), .int .u8 (c3 : Int)])
  have X2 := Lib.hid (X1.out.alloc (.cells #[.int .u8 (c0 : Int), .int .u8 (c1 : Int), .int .u8 (c2 : Int), .int .u8 (c3 : Int)] 49))
  have B2 := Lib.hid (B1.out.trans (below_new' w1 (.cells #[.int .u8 (c0 : Int), .int .u8 (c1 : Int), .int .u8 (c2 : Int), .int .u8 (c3 : Int)] 49) |>.mono B1.out.size))
  go_upto_region 4 with fail
  generalize hV : World.alloc _ _ = V at X2 Y2 B2 ⊢
  clear hV X1 B1
  have k0 := Calm.cell ((Y2.out.cell 0).trans rfl) Y2.out.lt
  have k1 := Calm.cell ((Y2.out.cell 1).trans rfl) Y2.out.lt
  have k2 := Calm.cell ((Y2.out.cell 2).trans rfl) Y2.out.lt
  have k3 := Calm.cell ((Y2.out.cell 3).trans rfl) Y2.out.lt
  have j0 := Calm.cell ((X2.out.cell 0).trans rfl) X2.out.lt
  have j1 := Calm.cell ((X2.out.cell 1).trans rfl) X2.out.lt
  have j2 := Calm.cell ((X2.out.cell 2).trans rfl) X2.out.lt
  have j3 := Calm.cell ((X2.out.cell 3).trans rfl) X2.out.lt
  have j4 := Calm.cell ((X2.out.cell 4).trans rfl) X2.out.lt
  have j5 := Calm.cell ((X2.out.cell 5).trans rfl) X2.out.lt
  have j6 := Calm.cell ((X2.out.cell 6).trans rfl) X2.out.lt
  refine calm_region (by kernel_rfl) (by kernel_rfl) ?_
  iterate 4 (go_big_quiet_step ((go_at_call 21; exact calm_call (DC.out _))))
  refine quiet_neI ⟨o', x', y', n', nn', a', len'⟩ ⟨o, x, y, n, nn, a, len⟩ (by rfl) (.tmp 19) (.tmp 20) 33 rfl rfl rfl ?_
  rw [show insB ⟨o', x', y', n', nn', a', len'⟩ ⟨o, x, y, n, nn, a, len⟩ = true by rw [hne]; exact insB_same _]
  simp only [Act.put, List.setIfInBounds_toArray, List.set_cons_zero, List.set_cons_succ]
  refine wpQuiet_nil ?_
  intro _ hw'
  obtain ⟨x, rfl⟩ := hw'
  have B3 := Lib.hid (B2.out.trans (x.below.mono B2.out.size))
  have e6 := j6 x
  have R3 := Lib.hid (show Rd x.w (some ⟨w1.heap.size, 0, none⟩) [(c0 : Int), c1, c2, c3] from fun _ => ⟨_, rfl, Nat.lt_of_lt_of_le Y2.out.lt x.below.size, fun j h => by
    have h4 : j = 0 ∨ j = 1 ∨ j = 2 ∨ j = 3 := by simp at h; omega
    rcases h4 with rfl | rfl | rfl | rfl
    · exact k0 x
    · exact k1 x
    · exact k2 x
    · exact k3 x⟩)
  clear k0 k1 k2 k3 j0 j1 j2 j3 j4 j5 j6 B2 X2 Y2
  generalize x.w = V3 at *
  subst hk
  rcases h24 with rfl | rfl
  · go_wp2_with fail
    refine (bclone_any (some ⟨w1.heap.size, 0, none⟩) 2 4 ([(c0 : Int), c1, c2, c3].take 2) _ (fun _ => let ⟨ad, e, hb, hc⟩ := R3.out (by simp); ⟨ad, e, hb, fun j h => (hc j (by simp at h ⊢; omega)).trans (by rw [List.getElem_take])⟩) rfl (by omega)).mono ?_
    rintro e w4 ⟨v, rfl, ho, b4⟩
    obtain ⟨A, c, rfl⟩ := own_form ho
    have O4 := Lib.hid (And.intro ho (B3.out.trans (b4.mono B3.out.size)))
    clear ho b4
    go_wp2_with fail
    go_returns
    exact ⟨A, c, rfl, own_mono O4.out.1 B3.out.size, O4.out.2⟩
  · go_wp2_with fail
    refine (bclone_any (some ⟨w1.heap.size, 0, none⟩) 4 4 [(c0 : Int), c1, c2, c3] _ R3.out rfl (by omega)).mono ?_
    rintro e w4 ⟨v, rfl, ho, b4⟩
    obtain ⟨A, c, rfl⟩ := own_form ho
    have O4 := Lib.hid (And.intro ho (B3.out.trans (b4.mono B3.out.size)))
    clear ho b4
    go_wp2_with fail
    go_returns
    exact ⟨A, c, rfl, own_mono O4.out.1 B3.out.size, O4.out.2⟩
end Go.Proofs.YthfiaemdpfffcaaGreatDoor
/- Encode: the bytes of an instruction, if it is legal for the level. -/
namespace Go.Proofs.YthfiaemdpfffcaaGreatDoor
open Go.RowKit Num Dec
set_option linter.unusedVariables false
set_option linter.unusedSimpArgs false

theorem Dec.Lg.rg {l : Int} {i : Ins} (h : Lg l i) : (1 ≤ i.op ∧ i.op ≤ 51) ∧ (0 ≤ i.x ∧ i.x ≤ 15) ∧ (0 ≤ i.y ∧ i.y ≤ 15) ∧ (0 ≤ i.n ∧ i.n ≤ 15) ∧ (0 ≤ i.nn ∧ i.nn ≤ 255) ∧ (0 ≤ i.addr ∧ i.addr ≤ 65535) := by
  obtain ⟨r, x, y, n, nn, a, m⟩ := h.made
  have ho : 1 ≤ i.op := by rw [m.is]; have := m.op; simp only; omega
  obtain ⟨b0, b1, b2, b3, h0, h1, h2, h3, hk, hd⟩ := h
  obtain ⟨g1, g2⟩ := dec_range b0 b1 b2 b3 l h0 h1 h2 h3 hd
  exact ⟨⟨ho, g1.2⟩, g2⟩
theorem or64 (a b : Nat) (ha : a < 2 ^ 62) (hb : b < 2 ^ 62) : bits .or .i64 (a : Int) (b : Int) = ((a ||| b : Nat) : Int) :=
  (bits_nat .i64 62 (by decide) (fun n h0 h1 => by rw [IntKind.wrap_i64]; have : (2 : Int) ^ 62 = 4611686018427387904 := (by decide); omega) a b ha hb).2
theorem code_lt (op : Nat) : (ruleOf op).code < 65536 := by
  have e : ∀ L : List Rl, (L.all fun q => decide (q.code < 65536)) = true → ∀ op, (ruleOfL op L).code < 65536 := by
    intro L
    induction L with
    | nil => intro _ op; exact of_decide_eq_true (show decide (noRl.code < 65536) = true by decide +kernel)
    | cons q qs ih =>
      intro hL op
      rw [List.all_cons, Bool.and_eq_true] at hL
      unfold ruleOfL
      cases Nat.beq q.op op
      · exact ih hL.2 op
      · exact of_decide_eq_true hL.1
  exact e rls (by decide +kernel) op
theorem join_nat (c x y n nn a : Nat) (hc : c < 65536) (hx : x < 65536) (hy : y < 65536) (hn : n < 65536) (hnn : nn < 65536) (ha : a < 65536) : joinI (c : Int) (x : Int) (y : Int) (n : Int) (nn : Int) (a : Int) = ((joinN c x y n nn a : Nat) : Int) := by
  have p : (2 : Nat) ^ 62 = 4611686018427387904 := by decide
  have wx : wrap64 ((x : Int) * 256) = ((x * 256 : Nat) : Int) := by unfold wrap64; omega
  have wy : wrap64 ((y : Int) * 16) = ((y * 16 : Nat) : Int) := by unfold wrap64; omega
  have b1 : (x * 256 ||| y * 16) < 2 ^ 62 := Nat.or_lt_two_pow (by omega) (by omega)
  have b2 : ((x * 256 ||| y * 16) ||| n) < 2 ^ 62 := Nat.or_lt_two_pow b1 (by omega)
  have b3 : (((x * 256 ||| y * 16) ||| n) ||| nn) < 2 ^ 62 := Nat.or_lt_two_pow b2 (by omega)
  have b4 : ((((x * 256 ||| y * 16) ||| n) ||| nn) ||| a) < 2 ^ 62 := Nat.or_lt_two_pow b3 (by omega)
  unfold joinI joinN
  rw [wx, wy, or64 _ _ (by omega) (by omega), or64 _ _ b1 (by omega), or64 _ _ b2 (by omega), or64 _ _ b3 (by omega), or64 _ _ (by omega) b4]
/-- The bytes that are composed. -/
structure Comp (i : Ins) (l : Int) (c0 c1 c2 c3 : Nat) : Prop where
  h0 : c0 < 256
  h1 : c1 < 256
  h2 : c2 < 256
  h3 : c3 < 256
  made : ∀ w, AL w → Calls Tryz.prog 20 #[.agg (icells i)] w fun e w' => e = .returned (.agg (bI c0 c1 c2 c3)) ∧ Below w.heap.size w w'
  legal : Lg l i → c0 = encN i / 256 ∧ c1 = encN i % 256 ∧ (i.op = 48 → (c2 * 256 + c3 : Nat) = i.addr)
theorem bc_bI (u v : Int) : bcI u v = bI (u / 256 % 256).toNat (u % 256).toNat (v / 256 % 256).toNat (v % 256).toNat := by
  unfold bcI bI
  rw [Int.toNat_of_nonneg (Int.emod_nonneg _ (by decide)), Int.toNat_of_nonneg (Int.emod_nonneg _ (by decide)), Int.toNat_of_nonneg (Int.emod_nonneg _ (by decide)), Int.toNat_of_nonneg (Int.emod_nonneg _ (by decide))]
theorem comp_of (i : Ins) (l u v : Int) (hm : ∀ w, AL w → Calls Tryz.prog 20 #[.agg (icells i)] w fun e w' => e = .returned (.agg (bcI u v)) ∧ Below w.heap.size w w') (hg : Lg l i → u = (encN i : Int) ∧ (i.op = 48 → v = i.addr)) : ∃ c0 c1 c2 c3, Comp i l c0 c1 c2 c3 := by
  refine ⟨(u / 256 % 256).toNat, (u % 256).toNat, (v / 256 % 256).toNat, (v % 256).toNat, by omega, by omega, by omega, by omega, ?_, ?_⟩
  · rw [← bc_bI]
    exact hm
  · intro h
    obtain ⟨e1, e2⟩ := hg h
    have hb := h.back
    refine ⟨by omega, by omega, fun h48 => ?_⟩
    have := e2 h48
    omega
theorem comp_any (i : Ins) (l : Int) (h0 : 0 < i.op) (h1 : i.op < 52) : ∃ c0 c1 c2 c3, Comp i l c0 c1 c2 c3 := by
  have hcode := code_lt i.op.toNat
  have hop : ((i.op.toNat : Nat) : Int) = i.op := Int.toNat_of_nonneg (by omega)
  by_cases h48 : i.op = 48
  · refine comp_of i l ((ruleOf 48).code : Int) i.addr (fun w hL => ?_) (fun h => ?_)
    · have := compose_48 i.x i.y i.n i.nn i.addr i.len _ w hL rfl
      rw [← h48] at this
      exact this
    · obtain ⟨r, x, y, n, nn, a, m⟩ := h.made
      have e := m.opN
      have j := m.join48 (by omega)
      rw [← m.rule, ← e, h48] at j
      exact ⟨by rw [← j]; rfl, fun _ => rfl⟩
  · by_cases h49 : i.op = 49
    · refine comp_of i l (bits .or .i64 ((ruleOf 49).code : Int) (wrap64 (i.n * 256))) 0 (fun w hL => ?_) (fun h => ?_)
      · have := compose_49 i.x i.y i.n i.nn i.addr i.len _ w hL rfl
        rw [← h49] at this
        exact this
      · have hr := h.rg
        obtain ⟨r, x, y, n, nn, a, m⟩ := h.made
        have e := m.opN
        have j := m.join49 (by omega)
        rw [← m.rule, ← e, h49] at j
        have p : (2 : Nat) ^ 62 = 4611686018427387904 := by decide
        have wn : wrap64 (i.n * 256) = ((i.n.toNat * 256 : Nat) : Int) := by unfold wrap64; omega
        have hc := code_lt 49
        refine ⟨?_, fun c => absurd c h48⟩
        rw [wn, or64 _ _ (by omega) (by omega)]
        exact congrArg Nat.cast j
    · refine comp_of i l (joinI ((ruleOf i.op.toNat).code : Int) i.x i.y i.n i.nn i.addr) 0 (fun w hL => ?_) (fun h => ?_)
      · have := compose_rest i.op.toNat i.x i.y i.n i.nn i.addr i.len _ (by omega) (by omega) (by omega) w hL rfl
        rw [hop] at this
        exact this
      · have hr := h.rg
        obtain ⟨r, x, y, n, nn, a, m⟩ := h.made
        have e := m.opN
        have j := m.join (by omega) (by omega)
        rw [← m.rule, ← e] at j
        refine ⟨?_, fun c => absurd c h48⟩
        rw [← j, ← join_nat _ _ _ _ _ _ hcode (by omega) (by omega) (by omega) (by omega) (by omega)]
        rw [Int.toNat_of_nonneg hr.2.1.1, Int.toNat_of_nonneg hr.2.2.1.1, Int.toNat_of_nonneg hr.2.2.2.1.1, Int.toNat_of_nonneg hr.2.2.2.2.1.1, Int.toNat_of_nonneg hr.2.2.2.2.2.1]
/-- The bytes of an instruction. -/
def codeL (i : Ins) : List Int := [((encN i / 256 : Nat) : Int), ((encN i % 256 : Nat) : Int), i.addr / 256, i.addr % 256].take i.len.toNat
theorem Dec.Lg.codeLen {l : Int} {i : Ins} (h : Lg l i) : ((codeL i).length : Int) = i.len ∧ (i.len = 2 ∨ i.len = 4) := by
  have h6 := h.back.2.2.2.2.2.1
  refine ⟨?_, h6⟩
  unfold codeL
  rcases h6 with e | e <;> rw [e] <;> rfl
/-- What Encode hands back. -/
def EncR (i : Ins) (l : Int) (w : World) (e : Ending) (w' : World) : Prop := (Lg l i ∧ EncYes (codeL i) w e w') ∨ (¬ Lg l i ∧ e = .returned (.tuple #[.slice none 0 0, .int .i64 5]) ∧ Below w.heap.size w w')
theorem encode_any (i : Ins) (l : Int) (hl : (Lit.int .i64 l).wf = true) (w : World) (hL : AL w) : Calls Tryz.prog 10 #[.agg (icells i), .int .i64 l] w (EncR i l w) := by
  by_cases ho : 0 < i.op ∧ i.op < 52
  · obtain ⟨c0, c1, c2, c3, C⟩ := comp_any i l ho.1 ho.2
    have CM := Lib.hid C.made
    have DC := Lib.hid (fun w => decode_any c0 c1 c2 c3 l w C.h0 C.h1 C.h2 C.h3 hl)
    by_cases hd : dec c0 c1 c2 c3 l = i
    · have hk : ok c0 c1 l = true := by
        cases hk : ok c0 c1 l
        · rw [decNo hk] at hd
          rw [← hd] at ho
          exact absurd ho.1 (by simp)
        · rfl
      have hg : Lg l i := ⟨c0, c1, c2, c3, C.h0, C.h1, C.h2, C.h3, hk, hd⟩
      have hb := hg.back
      obtain ⟨g1, g2, g3⟩ := C.legal hg
      have h24 := hb.2.2.2.2.2.1
      have h48 := hb.2.2.2.2.1
      have e : [(c0 : Int), c1, c2, c3].take i.len.toNat = codeL i := by
        unfold codeL
        rw [← g1, ← g2]
        rcases h24 with e | e
        · rw [e]
          rfl
        · have := g3 (h48.2 e)
          rw [show i.addr / 256 = (c2 : Int) by have := C.h3; omega, show i.addr % 256 = (c3 : Int) by have := C.h3; omega]
      refine (encode_yes i _ l c0 c1 c2 c3 ho.1 ho.2 CM DC hd i.len.toNat (by omega) (by omega) w hL).mono fun e' w' h => .inl ⟨hg, ?_⟩
      rw [← e]
      exact h
    · refine (encode_no i _ l c0 c1 c2 c3 ho.1 ho.2 CM DC hd w hL).mono fun e' w' h => .inr ⟨fun hg => hd ?_, h⟩
      obtain ⟨g1, g2, g3⟩ := C.legal hg
      rw [g1, g2]
      exact hg.back.2.2.2.2.2.2 c2 c3 C.h2 C.h3 g3
  · refine (encode_op i l w (by omega)).mono fun e' w' h => .inr ⟨fun hg => ?_, h⟩
    have := hg.rg.1
    omega
end Go.Proofs.YthfiaemdpfffcaaGreatDoor
