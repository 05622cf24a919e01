/- '==' of audio states and of patterns, and their fields, as operations. -/
import Derived.Test.YtojgblpgbfpcbaaAudBox
import Derived.Test.YtojgblpgbfpcbaaPlain
namespace Go.Proofs.Ytojgblpgbfpcbaa
open Go.RowKit Num
set_option linter.unusedVariables false
set_option linter.unusedSimpArgs false

theorem run_part_agg8 {P : Program} (t : TypeId) (d : TypeDesc) (xs : Array Value) (off sz : Nat) (w : World) (hd : (match d with | .struct _ | .array _ _ => true | _ => false) = true) (hu : P.underlying t = some d) (hi : (P.info? t).map (·.size) = some sz) :
    (part t xs off).run P w = .ok (.agg (xs.extract off (off + sz))) w := by
  cases hq : P.info? t with
  | none => simp [hq] at hi
  | some i =>
    have hs : i.size = sz := by simpa [hq] using hi
    have hagg : (isAgg t).run P w = .ok true w := by
      unfold isAgg
      rw [Sem.run_bind, run_underlying hu w]
      cases d <;> simp_all
    simp [part, Sem.run_bind, hagg, sizeOf, typeInfo, hq, hs]
theorem part_pat (P : Nat → Int) (p : Int) (w : World) : (part 24 (ac P p) 0).run Try.prog w = .ok (.agg (pc P)) w := by
  rw [run_part_agg8 (P := Try.prog) 24 _ (ac P p) 0 16 w rfl Try.underlying24 aggPat.i, ac_pattern]
theorem part_pitch (P : Nat → Int) (p : Int) (w : World) : (part 5 (ac P p) 16).run Try.prog w = .ok (.int .u8 p) w := by
  simp [part, isAgg, Sem.run_bind, run_underlying Try.underlying5, ac_last P p]
/-- Are two audio states one? -/
def eqA (P Q : Nat → Int) (p q : Int) : Bool := eqP P Q && decide (p = q)
theorem same_auds (P Q : Nat → Int) (p q : Int) (d : Nat) (w : World) : (Op.equalIn (d + 3) 26 (.agg (ac P p)) (.agg (ac Q q))).run Try.prog w = .ok (eqA P Q p q) w := by
  have ht : Try.prog.underlying 26 = some (.struct (Try.prog.fieldsOf 26)) := by kernel_rfl
  have hp : Try.prog.stoodInHeld 26 = false := by kernel_rfl
  rw [run_equalIn_struct (P := Try.prog) w (d + 2) 26 _ _ ht hp]
  have hx := part_pat P p w
  have hy := part_pat Q q w
  have hx2 := part_pitch P p w
  have hy2 := part_pitch Q q w
  have he := same_pats P Q d w
  have he2 := eq_byte p q (d + 1) w
  unfold eqA
  clear ht hp
  generalize ac P p = C at *
  generalize ac Q q = D at *
  generalize eqP P Q = b at *
  simp only [Program.fieldsOf, Try.underlying26, Op.eqFields]
  rw [if_pos (by decide), Sem.run_bind, hx, Result.andThen_ok, Sem.run_bind, hy, Result.andThen_ok, Sem.run_bind, he, Result.andThen_ok]
  cases b
  · rw [if_pos (by decide), Sem.run_pure]
    rfl
  · rw [if_neg (by decide), if_pos (by decide), Sem.run_bind, hx2, Result.andThen_ok, Sem.run_bind, hy2, Result.andThen_ok, Sem.run_bind, he2, Result.andThen_ok]
    by_cases h : p = q
    · rw [decide_eq_true h, if_neg (by decide), Sem.run_pure]
      rfl
    · rw [decide_eq_false h, if_pos (by decide), Sem.run_pure]
      rfl
theorem eq_auds (P Q : Nat → Int) (p q : Int) (w : World) : (binOp .eql 26 (.agg (ac P p)) (.agg (ac Q q))).run Try.prog w = .ok (.bool (eqA P Q p q)) w := by
  have h := same_auds P Q p q 9997 w
  have e : (10000 : Nat) = 9997 + 3 := by decide
  rw [run_eql_struct, e, h]
  simp only [Result.andThen_ok]
theorem eq_pats (P Q : Nat → Int) (w : World) : (binOp .eql 24 (.agg (pc P)) (.agg (pc Q))).run Try.prog w = .ok (.bool (eqP P Q)) w := by
  have h := same_pats P Q 9998 w
  have e : (10000 : Nat) = 9998 + 2 := by decide
  rw [run_eql_struct, e, h]
  simp only [Result.andThen_ok]
theorem eqGuardAud : Try.prog.eqGuardType Try.prog.depth 26 = false := by kernel_rfl
theorem eqGuardPat : Try.prog.eqGuardType Try.prog.depth 24 = false := by kernel_rfl
theorem exec_eqA {o : Oper} {ρ : Operand → Value} {w : World} (x y : Operand) (z : TypeId) (ho : o.op = .binOp .eql 26 x y z) (P Q : Nat → Int) (p q : Int) (hx : ρ x = .agg (ac P p)) (hy : ρ y = .agg (ac Q q)) : (execOp ρ o).run Try.prog w = .ok (.value (.bool (eqA P Q p q))) w := by
  unfold execOp
  simp only [ho, hx, hy]
  rw [Sem.run_bind, Sem.run_bind, run_eqGuard_agg w .eql 26 x y (ac P p) (ac Q q) eqGuardAud, Result.andThen_ok, eq_auds, Result.andThen_ok, Sem.run_pure]
theorem exec_eqPt {o : Oper} {ρ : Operand → Value} {w : World} (x y : Operand) (z : TypeId) (ho : o.op = .binOp .eql 24 x y z) (P Q : Nat → Int) (hx : ρ x = .agg (pc P)) (hy : ρ y = .agg (pc Q)) : (execOp ρ o).run Try.prog w = .ok (.value (.bool (eqP P Q))) w := by
  unfold execOp
  simp only [ho, hx, hy]
  rw [Sem.run_bind, Sem.run_bind, run_eqGuard_agg w .eql 24 x y (pc P) (pc Q) eqGuardPat, Result.andThen_ok, eq_pats, Result.andThen_ok, Sem.run_pure]
theorem exec_patOf {o : Oper} {ρ : Operand → Value} {w : World} (x : Operand) (ho : o.op = .field 26 x 0) (P : Nat → Int) (p : Int) (hx : ρ x = .agg (ac P p)) : (execOp ρ o).run Try.prog w = .ok (.value (.agg (pc P))) w := by
  have h := part_pat P p w
  unfold execOp
  simp only [ho, hx, Instr.field, Sem.run_bind, run_underlying Try.underlying26, Result.andThen_ok]
  simp [Sem.run_bind, asAgg, h]
theorem exec_pitchOf {o : Oper} {ρ : Operand → Value} {w : World} (x : Operand) (ho : o.op = .field 26 x 1) (P : Nat → Int) (p : Int) (hx : ρ x = .agg (ac P p)) : (execOp ρ o).run Try.prog w = .ok (.value (.int .u8 p)) w := by
  have h := part_pitch P p w
  unfold execOp
  simp only [ho, hx, Instr.field, Sem.run_bind, run_underlying Try.underlying26, Result.andThen_ok]
  simp [Sem.run_bind, asAgg, h]
section
variable {ops : Array Oper} {C : World → Prop} {Q' : Act → Prop} {o : Oper} {rest : List Oper} {a : Act} {P Q : Nat → Int} {p q : Int} {b : Nat}
theorem quiet_eqA (hw : Region.wanted o (yielded ops a.tmps) = true) (x y : Operand) (z : TypeId) (ho : o.op = .binOp .eql 26 x y z) (hx : a.eval x = .agg (ac P p)) (hy : a.eval y = .agg (ac Q q))
    (h : wpQuiet Try.prog ops C Q' rest (a.put o.dst (.bool (eqA P Q p q)))) : wpQuiet Try.prog ops C Q' (o :: rest) a :=
  quiet_run hw _ (fun w' _ => exec_eqA x y z ho P Q p q hx hy) h
theorem quiet_eqPt (hw : Region.wanted o (yielded ops a.tmps) = true) (x y : Operand) (z : TypeId) (ho : o.op = .binOp .eql 24 x y z) (hx : a.eval x = .agg (pc P)) (hy : a.eval y = .agg (pc Q))
    (h : wpQuiet Try.prog ops C Q' rest (a.put o.dst (.bool (eqP P Q)))) : wpQuiet Try.prog ops C Q' (o :: rest) a :=
  quiet_run hw _ (fun w' _ => exec_eqPt x y z ho P Q hx hy) h
theorem quiet_patOf (hw : Region.wanted o (yielded ops a.tmps) = true) (x : Operand) (ho : o.op = .field 26 x 0) (hx : a.eval x = .agg (ac P p))
    (h : wpQuiet Try.prog ops C Q' rest (a.put o.dst (.agg (pc P)))) : wpQuiet Try.prog ops C Q' (o :: rest) a :=
  quiet_run hw _ (fun w' _ => exec_patOf x ho P p hx) h
theorem quiet_pitchOf (hw : Region.wanted o (yielded ops a.tmps) = true) (x : Operand) (ho : o.op = .field 26 x 1) (hx : a.eval x = .agg (ac P p))
    (h : wpQuiet Try.prog ops C Q' rest (a.put o.dst (.int .u8 p))) : wpQuiet Try.prog ops C Q' (o :: rest) a :=
  quiet_run hw _ (fun w' _ => exec_pitchOf x ho P p hx) h
/-- The literal of the initial state. -/
theorem quiet_litA (hw : Region.wanted o (yielded ops a.tmps) = true) (ho : o.op = .build 26 #[(1, .const (.int .u8 64))])
    (h : wpQuiet Try.prog ops C Q' rest (a.put o.dst (.agg (ac zeroP 64)))) : wpQuiet Try.prog ops C Q' (o :: rest) a :=
  quiet_build_all hw ho (by simp [Act.eval]; exact built_new) h
/-- A whole state is loaded; its pattern. -/
theorem quiet_loadA (H : ∀ w, C w → AB b P p w) (hw : Region.wanted o (yielded ops a.tmps) = true) (x : Operand) (ho : o.op = .load 26 x) (hx : a.eval x = .pointer (some ⟨b, 0, none⟩))
    (h : wpQuiet Try.prog ops C Q' rest (a.put o.dst (.agg (ac P p)))) : wpQuiet Try.prog ops C Q' (o :: rest) a :=
  quiet_load_all aggAud H (ac_size _ _) hw x ho hx h
theorem quiet_loadPat (H : ∀ w, C w → AB b P p w) (hw : Region.wanted o (yielded ops a.tmps) = true) (x : Operand) (ho : o.op = .load 24 x) (hx : a.eval x = .pointer (some ⟨b, 0, none⟩))
    (h : wpQuiet Try.prog ops C Q' rest (a.put o.dst (.agg (pc P)))) : wpQuiet Try.prog ops C Q' (o :: rest) a :=
  quiet_load_part (o := 0) (n := 16) aggPat H (by rw [ac_size]; omega) hw x ho hx (by rw [ac_pattern]; exact h)
end
/-- The class of worlds that are calm from W on holds a state's block. -/
theorem AB.calm {b : Nat} {P : Nat → Int} {p : Int} {W : World} (H : AB b P p W) : ∀ w', (∃ u : Calm W, w' = u.w) → AB b P p w' := fun w' hw => by obtain ⟨u, rfl⟩ := hw; exact H.step u.below
end Go.Proofs.Ytojgblpgbfpcbaa
