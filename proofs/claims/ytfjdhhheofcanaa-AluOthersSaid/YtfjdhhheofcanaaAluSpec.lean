/- Stage 18: what package alu does; '==' of registers and of three digits. -/
import Derived.Test.YtfjdhhheofcanaaAluSk
import Derived.Test.YtfjdhhheofcanaaPlain
namespace Go.Proofs.Ytfjdhhheofcanaa
open Go.RowKit Num Dec Cpu
set_option linter.unusedVariables false
set_option linter.unusedSimpArgs false
set_option maxRecDepth 100000

def d3 (b : Nat) : Array Value := #[.int .u8 ((b : Int) / 100), .int .u8 ((b : Int) / 10 % 10), .int .u8 ((b : Int) % 10)]
/-- What package alu does: a premise of the walks. -/
structure AluSpec : Prop where
  do_ : ∀ (v : Nat → Nat) (op : Int) (x y nn : Nat) (n addr len : Int) (q : Pr) (w : World), OkV v → x < 16 → y < 16 → nn < 256 → ∀ (hop : (Lit.int .i64 op).wf = true := by decide),
    Calls Try.prog 10 #[.agg (rg v), .agg (icells ⟨op, x, y, n, nn, addr, len⟩), .agg (prc q)] w fun e w' => e = .returned (.tuple #[.agg (rg (aluV v ⟨op, x, y, n, nn, addr, len⟩ q)), .bool (aluIs op)]) ∧ Below w.heap.size w w'
  sk : ∀ (v : Nat → Nat) (op : Int) (x y nn : Nat) (n addr len : Int) (w : World), OkV v → x < 16 → y < 16 → nn < 256 →
    Calls Try.prog 12 #[.agg (rg v), .agg (icells ⟨op, x, y, n, nn, addr, len⟩)] w fun e w' => e = .returned (.tuple #[.bool (skB v ⟨op, x, y, n, nn, addr, len⟩), .bool (skIs op)]) ∧ Below w.heap.size w w'
  dg : ∀ (b : Nat) (w : World), b < 256 → Calls Try.prog 14 #[.int .u8 (b : Int)] w fun e w' => e = .returned (.agg (d3 b)) ∧ Below w.heap.size w w'
theorem aggPro18 : AggT Try.prog 26 8 := ⟨⟨_, Try.underlying26, rfl⟩, by kernel_rfl⟩
theorem aggD3 : AggT Try.prog 33 3 := ⟨⟨_, Try.underlying33, rfl⟩, by kernel_rfl⟩
theorem zeroD3 : ZeroT Try.prog 33 #[.int .u8 0, .int .u8 0, .int .u8 0] := by unfold ZeroT; kernel_rfl
theorem d3_one (b : Nat) : Ones (d3 b) := by unfold Ones d3; simp [Value.oneCell']
theorem eq_self (P : Nat → Int) : eqP P P = true := (eqP_iff P P).2 fun _ _ => rfl
theorem eq_regs (v : Nat → Nat) (w : World) : (binOp .eql 22 (.agg (rg v)) (.agg (rg v))).run Try.prog w = .ok (.bool true) w := by
  have h := same_pats (fun j => (v j : Int)) (fun j => (v j : Int)) 9998 w
  rw [eq_self] at h
  have e : (10000 : Nat) = 9998 + 2 := by decide
  rw [run_eql_struct, e]
  unfold rg
  rw [h]
  simp only [Result.andThen_ok]
theorem eqGuardR : Try.prog.eqGuardType Try.prog.depth 22 = false := by kernel_rfl
theorem exec_eqR {o : Oper} {ρ : Operand → Value} {w : World} (x y : Operand) (z : TypeId) (ho : o.op = .binOp .eql 22 x y z) (v : Nat → Nat) (hx : ρ x = .agg (rg v)) (hy : ρ y = .agg (rg v)) : (execOp ρ o).run Try.prog w = .ok (.value (.bool true)) w := by
  unfold execOp
  simp only [ho, hx, hy]
  rw [Sem.run_bind, Sem.run_bind, run_eqGuard_agg w .eql 22 x y (rg v) (rg v) eqGuardR, Result.andThen_ok, eq_regs, Result.andThen_ok, Sem.run_pure]
theorem part_d3 (a b c : Int) (j : Nat) (hj : j < 3) (w : World) : (part 5 #[.int .u8 a, .int .u8 b, .int .u8 c] j).run Try.prog w = .ok (.int .u8 ([a, b, c].getD j 0)) w := by
  rcases (show j = 0 ∨ j = 1 ∨ j = 2 by omega) with rfl | rfl | rfl <;> simp [part, isAgg, Sem.run_bind, run_underlying Try.underlying5]
theorem same_d3 (a b c : Int) (d : Nat) (w : World) : (Op.equalIn (d + 2) 33 (.agg #[.int .u8 a, .int .u8 b, .int .u8 c]) (.agg #[.int .u8 a, .int .u8 b, .int .u8 c])).run Try.prog w = .ok true w := by
  have hi : (Try.prog.info? 5).map (·.size) = some 1 := by kernel_rfl
  have hp := fun j hj => part_d3 a b c j hj w
  generalize #[Value.int .u8 a, .int .u8 b, .int .u8 c] = C at *
  cases hq : Try.prog.info? 5 with
  | none => simp [hq] at hi
  | some i =>
    have hs : i.size = 1 := by simpa [hq] using hi
    have go : ∀ l : List Nat, (∀ i ∈ l, i < 3) → (forIn (m := Sem) l ((none : Option Bool), ()) (fun i _ => do
            let a ← part 5 C i
            let b ← part 5 C i
            let r ← Op.equalIn (d + 1) 5 a b
            if r = false then pure (ForInStep.done (some false, ())) else pure (ForInStep.yield (none, ())))).run Try.prog w = .ok (none, ()) w := by
      intro l
      induction l with
      | nil => intro _; simp
      | cons k l ih =>
        intro hl
        simp only [List.forIn_cons, Sem.run_bind, hp k (hl k (by simp)), Result.andThen_ok, eq_byte]
        simp
        have := ih fun i hi => hl i (by simp [hi])
        simpa using this
    have hgo := go (List.range' 0 3) fun i hi => by have := List.mem_range'_1.1 hi; omega
    simp only [Op.equalIn, Sem.run_bind, run_underlying Try.underlying33, Result.andThen_ok, sizeOf, typeInfo, hq, hs, Sem.run_pure] at hgo ⊢
    simp [Sem.run_bind, hq, hs, Std.Legacy.Range.forIn_eq_forIn_range'] at hgo ⊢
    rw [hgo]
    simp
theorem eq_d3 (a b c : Int) (w : World) : (binOp .eql 33 (.agg #[.int .u8 a, .int .u8 b, .int .u8 c]) (.agg #[.int .u8 a, .int .u8 b, .int .u8 c])).run Try.prog w = .ok (.bool true) w := by
  have h := same_d3 a b c 9998 w
  have e : (10000 : Nat) = 9998 + 2 := by decide
  rw [run_eql_struct, e, h]
  simp only [Result.andThen_ok]
theorem eqGuard3 : Try.prog.eqGuardType Try.prog.depth 33 = false := by kernel_rfl
theorem exec_eq3 {o : Oper} {ρ : Operand → Value} {w : World} (x y : Operand) (z : TypeId) (ho : o.op = .binOp .eql 33 x y z) (a b c : Int) (hx : ρ x = .agg #[.int .u8 a, .int .u8 b, .int .u8 c]) (hy : ρ y = .agg #[.int .u8 a, .int .u8 b, .int .u8 c]) : (execOp ρ o).run Try.prog w = .ok (.value (.bool true)) w := by
  unfold execOp
  simp only [ho, hx, hy]
  rw [Sem.run_bind, Sem.run_bind, run_eqGuard_agg w .eql 33 x y _ _ eqGuard3, Result.andThen_ok, eq_d3, Result.andThen_ok, Sem.run_pure]
section
variable {ops : Array Oper} {C : World → Prop} {Q : Act → Prop} {o : Oper} {rest : List Oper} {ac : Act} {v : Nat → Nat} {a b c : Int}
theorem quiet_eqR (hw : Region.wanted o (yielded ops ac.tmps) = true) (x y : Operand) (z : TypeId) (ho : o.op = .binOp .eql 22 x y z) (hx : ac.eval x = .agg (rg v)) (hy : ac.eval y = .agg (rg v))
    (h : wpQuiet Try.prog ops C Q rest (ac.put o.dst (.bool true))) : wpQuiet Try.prog ops C Q (o :: rest) ac :=
  quiet_run hw (.bool true) (fun w' _ => exec_eqR x y z ho v hx hy) h
theorem quiet_eq3 (hw : Region.wanted o (yielded ops ac.tmps) = true) (x y : Operand) (z : TypeId) (ho : o.op = .binOp .eql 33 x y z) (hx : ac.eval x = .agg #[.int .u8 a, .int .u8 b, .int .u8 c]) (hy : ac.eval y = .agg #[.int .u8 a, .int .u8 b, .int .u8 c])
    (h : wpQuiet Try.prog ops C Q rest (ac.put o.dst (.bool true))) : wpQuiet Try.prog ops C Q (o :: rest) ac :=
  quiet_run hw (.bool true) (fun w' _ => exec_eq3 x y z ho a b c hx hy) h
end
theorem calm_blk {b : Nat} {T : TypeId} {cs : Array Value} {W : World} (H : Blk b T cs W) : ∀ w', (∃ u : Calm W, w' = u.w) → Blk b T cs w' := fun w' hw => by obtain ⟨u, rfl⟩ := hw; exact H.step u.below
end Go.Proofs.Ytfjdhhheofcanaa
