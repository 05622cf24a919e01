/- Contracts of package plane: Draw. -/
import Derived.Test.YtplmmfgmbfcjpaaPlaneComb
import Derived.Test.YtplmmfgmbfcjpaaPlaneEq
namespace Go.Proofs.Ytplmmfgmbfcjpaa
open Go.RowKit Num
set_option linter.unusedVariables false
set_option linter.unusedSimpArgs false

section
variable {P : Program} {ops : Array Oper} {C : World → Prop} {Q : Act → Prop}
/-- One step of a quiet walk by the run of its operation. -/
theorem wpQuiet_run {o : Oper} {rest : List Oper} {a : Act} (hgd : o.guard = none) (v : Value) (h1 : ∀ w, C w → (execOp a.eval o).run P w = .ok (.value v) w) (h : wpQuiet P ops C Q rest (a.put o.dst v)) : wpQuiet P ops C Q (o :: rest) a := by
  have hw : Region.wanted o (yielded ops a.tmps) = true := by simp [Region.wanted, hgd]
  simp only [wpQuiet, hw, if_true]
  exact ⟨v, fun w hC => by unfold Oper.quietAt; rw [h1 w hC]; exact ⟨rfl, rfl⟩, h⟩
theorem exec_load {o : Oper} {ρ : Operand → Value} {w : World} (ty : TypeId) (x : Operand) (ho : o.op = .load ty x) (g : Nat) (hx : ρ x = .pointer (some ⟨g, 0, none⟩)) (t : TypeId) (cs : Array Value) (fr : Nat × Nat) (d : TypeDesc) (hg : w.heap[g]? = some (.cells cs t fr))
    (hu : P.underlying ty = some d) (hd : (match d with | .struct _ | .array _ _ => true | _ => false) = true) (hi : (P.info? ty).map (·.size) = some cs.size) : (execOp ρ o).run P w = .ok (.value (.agg cs)) w := by
  unfold execOp
  simp only [ho, hx, Instr.loadAt, Instr.sureAddr, Sem.run_bind, Sem.run_pure, Result.andThen_ok, run_loadVar_row w g t ty cs fr d hg hu hd hi]
theorem exec_build {o : Oper} {ρ : Operand → Value} {w : World} (ty : TypeId) (ho : o.op = .build ty #[]) (r : Value) (hr : (Instr.build ty #[]).run P w = .ok r w) : (execOp ρ o).run P w = .ok (.value r) w := by
  unfold execOp
  simp only [ho]
  rw [show (#[] : Array (Nat × Operand)).map (fun (x : Nat × Operand) => (x.1, ρ x.2)) = #[] by simp, Sem.run_bind, hr]
  simp [Result.andThen_ok]
end
theorem exec_assign {P : Program} {o : Oper} {ρ : Operand → Value} {w : World} (x : Operand) (ho : o.op = .assign x) (v : Value) (hx : ρ x = v) : (execOp ρ o).run P w = .ok (.value v) w := by
  unfold execOp
  simp [ho, hx]
/-- Two results: a variable that holds a struct, and a slot. -/
theorem results_cell_and {P : Program} {fn : Func} {p q : Tmp} {ty : TypeId} (h : fn.results = #[.cell p ty, .tmp q]) (tmps : Array Value) (w : World) (g : Nat) (t : TypeId) (cs : Array Value) (fr : Nat × Nat) (d : TypeDesc) (v : Value)
    (hp : tmps.getD p undef = .pointer (some ⟨g, 0, none⟩)) (hq : tmps.getD q undef = v) (hg : w.heap[g]? = some (.cells cs t fr))
    (hu : P.underlying ty = some d) (hd : (match d with | .struct _ | .array _ _ => true | _ => false) = true) (hi : (P.info? ty).map (·.size) = some cs.size) :
    (results fn tmps).run P w = .ok (.tuple #[.agg cs, v]) w := by
  have hp' : tmps[p]?.getD undef = .pointer (some ⟨g, 0, none⟩) := by simpa using hp
  have hq' : tmps[q]?.getD undef = v := by simpa using hq
  simp [results, h, hp', hq', asAddr, run_loadVar_row w g t ty cs fr d hg hu hd hi]
set_option maxRecDepth 100000 in
theorem build_zero (w : World) : (Instr.build 29 #[]).run Try.prog w = .ok (.agg (pcells fun _ => 0#128)) w := by
  refine run_build w 29 _ _ ?_
  obtain ⟨it, hit, hz⟩ := Option.map_eq_some_iff.1 infoPlane
  simp only [Prod.mk.injEq] at hz
  have hp : (match Try.prog.underlying 29 with | some (.struct fields) => fields.toList.mapM (fun f => (Try.prog.info? f.type).map fun i => (f.offset, i.size)) | _ => none) = some [(0, 128)] := by kernel_rfl
  rw [Try.underlying29] at hp
  unfold Program.built
  rw [hit, Try.underlying29]
  simp only at hp ⊢
  rw [hz.1, hp]
  rfl
theorem exec_neq {o : Oper} {ρ : Operand → Value} {w : World} (x y : Operand) (z : TypeId) (ho : o.op = .binOp .neq 29 x y z) (A B : Pl) (hx : ρ x = .agg (pcells A)) (hy : ρ y = .agg (pcells B)) : (execOp ρ o).run Try.prog w = .ok (.value (.bool (!samePl A B))) w := by
  unfold execOp
  simp only [ho, hx, hy]
  rw [Sem.run_bind, Sem.run_bind, run_eqGuard_agg w .neq 29 x y (pcells A) (pcells B) eqGuardPlane, Result.andThen_ok, ne_planes, Result.andThen_ok, Sem.run_pure]
theorem same_zero (A B : Pl) : (!samePl (fun y => A y &&& B y) (fun _ => 0#128)) = hitB A B := by
  rw [Bool.eq_iff_iff, hit_iff]
  cases h : samePl (fun y => A y &&& B y) (fun _ => 0#128)
  · simp only [Bool.not_false, true_iff]
    rcases Classical.em (∃ y, y < 64 ∧ A y &&& B y ≠ 0#128) with h2 | h2
    · exact h2
    · have h3 := (samePl_iff (fun y => A y &&& B y) (fun _ => 0#128)).2 fun y hy => by
        rcases Classical.em (A y &&& B y = 0#128) with h4 | h4
        · exact h4
        · exact absurd ⟨y, hy, h4⟩ h2
      rw [h] at h3
      cases h3
  · simp only [Bool.not_true, Bool.false_eq_true, false_iff]
    rintro ⟨y, hy, h4⟩
    exact h4 ((samePl_iff _ _).1 h y hy)
theorem combines_xor : Combines 56 (· ^^^ ·) := fun h l h' l' v1 v2 e w => xorW e w
theorem combines_and : Combines 57 (· &&& ·) := fun h l h' l' v1 v2 e w => andW e w

/-- Worlds in which two blocks hold these planes. -/
structure PB2 (s : Nat) (t : TypeId) (A B : Pl) where
  w : World
  a : PBox s t A w
  b : PBox (s + 1) t B w
set_option maxRecDepth 100000 in
set_option maxHeartbeats 4000000 in
theorem draw_any (A B : Pl) (w : World) :
    Calls Try.prog 40 #[.agg (pcells A), .agg (pcells B)] w fun e w' => e = .returned (.tuple #[.agg (pcells (drawn A B)), .bool (hitB A B)]) ∧ Below w.heap.size w w' := by
  have hz := zeroPlane
  obtain ⟨Z, hZ⟩ : ∃ Z, drawn A B = Z := ⟨_, rfl⟩
  obtain ⟨X, hX⟩ : ∃ X : Pl, (fun y => A y &&& B y) = X := ⟨_, rfl⟩
  obtain ⟨hb, hh⟩ : ∃ hb, hitB A B = hb := ⟨_, rfl⟩
  have CX := Lib.hid fun w => combine_xor (· ^^^ ·) combines_xor A B w
  have CA := Lib.hid fun w => combine_and (· &&& ·) combines_and A B w
  have SZ := Lib.hid (same_zero A B)
  have DE : (fun y => A y ^^^ B y) = drawn A B := rfl
  rw [DE, hZ] at CX
  rw [hX] at CA SZ
  rw [hh] at SZ
  rw [hZ, hh]
  clear hZ hX hh DE
  go_enter Try.func40, Try.ntmps40
  go_upto_region 1 with fail
  have L := Lib.hid (three_new w 29 A B (fun _ => 0#128))
  generalize ((w.alloc (.cells (pcells A) 29)).alloc (.cells (pcells B) 29)).alloc (.cells (pcells fun _ => 0#128) 29) = w3 at *
  clear hz
  refine wp_region_mix (C := fun w' => ∃ x : PB2 w.heap.size 29 A B, w' = x.w) [([0, 1, 3, 4, 6], 2), ([], 5), ([7], 8)] [9] (by kernel_rfl) (by kernel_rfl) (fun _ _ d _ _ h => by cases d <;> exact h) ⟨⟨w3.drew, L.out.1.drew, L.out.2.1.drew⟩, rfl⟩ ?_
  intro wd hwd
  have D := Lib.hid (show PBox w.heap.size 29 A wd ∧ PBox (w.heap.size + 1) 29 B wd ∧ PBox (w.heap.size + 1 + 1) 29 (fun _ => 0#128) wd ∧ Below w.heap.size w wd by rw [hwd]; exact ⟨L.out.1.drew, L.out.2.1.drew, L.out.2.2.1.drew, L.out.2.2.2.drew⟩)
  clear hwd L
  refine mix_run (by simp only [opsAt, List.getElem?_toArray, List.getElem?_cons_succ, List.getElem?_cons_zero]; rfl) (by rfl) ?_
  refine wpQuiet_run rfl (.agg (pcells A)) (fun w' hC => by obtain ⟨x, rfl⟩ := hC; exact exec_load 29 (.tmp 2) rfl w.heap.size (by simp [Act.eval, Act.put]) _ _ _ _ x.a Try.underlying29 rfl (by rw [sizePlane, pcells_size])) ?_
  refine wpQuiet_run rfl (.agg (pcells B)) (fun w' hC => by obtain ⟨x, rfl⟩ := hC; exact exec_load 29 (.tmp 3) rfl (w.heap.size + 1) (by simp [Act.eval, Act.put]) _ _ _ _ x.b Try.underlying29 rfl (by rw [sizePlane, pcells_size])) ?_
  refine wpQuiet_run rfl (.agg (pcells A)) (fun w' hC => by obtain ⟨x, rfl⟩ := hC; exact exec_load 29 (.tmp 2) rfl w.heap.size (by simp [Act.eval, Act.put]) _ _ _ _ x.a Try.underlying29 rfl (by rw [sizePlane, pcells_size])) ?_
  refine wpQuiet_run rfl (.agg (pcells B)) (fun w' hC => by obtain ⟨x, rfl⟩ := hC; exact exec_load 29 (.tmp 3) rfl (w.heap.size + 1) (by simp [Act.eval, Act.put]) _ _ _ _ x.b Try.underlying29 rfl (by rw [sizePlane, pcells_size])) ?_
  refine wpQuiet_run rfl _ (fun w' _ => exec_build 29 rfl _ (build_zero w')) ?_
  refine wpQuiet_nil ?_
  refine mix_call (by rfl) ?_
  intro K hK
  go_wp2_with fail
  refine (CX.out _).mono ?_
  rintro e w4 ⟨rfl, b4⟩
  have D4 := Lib.hid (And.intro (D.out.1.step b4) (And.intro (D.out.2.1.step b4) (And.intro (D.out.2.2.1.step b4) (D.out.2.2.2.trans (b4.mono D.out.2.2.2.size)))))
  clear D b4
  simp only []
  refine hK _ _ ⟨⟨w4, D4.out.1, D4.out.2.1⟩, rfl⟩ ?_
  clear hK K
  refine mix_run (by simp only [opsAt, List.getElem?_toArray, List.getElem?_cons_succ, List.getElem?_cons_zero]; rfl) (by rfl) ?_
  refine wpQuiet_nil ?_
  refine mix_call (by rfl) ?_
  intro K hK
  go_wp2_with fail
  refine (CA.out _).mono ?_
  rintro e w5 ⟨rfl, b5⟩
  have D5 := Lib.hid (And.intro (D4.out.1.step b5) (And.intro (D4.out.2.1.step b5) (And.intro (D4.out.2.2.1.step b5) (D4.out.2.2.2.trans (b5.mono D4.out.2.2.2.size)))))
  clear D4 b5
  simp only []
  refine hK _ _ ⟨⟨w5, D5.out.1, D5.out.2.1⟩, rfl⟩ ?_
  clear hK K
  refine mix_run (by simp only [opsAt, List.getElem?_toArray, List.getElem?_cons_succ, List.getElem?_cons_zero]; rfl) (by rfl) ?_
  refine wpQuiet_run rfl (.bool hb) (fun w' _ => by rw [← SZ.out]; exact exec_neq (.tmp 11) (.tmp 12) _ rfl X (fun _ => 0#128) (by simp [Act.eval, Act.put]) (by simp [Act.eval, Act.put])) ?_
  refine wpQuiet_nil ?_
  refine mix_call (by rfl) ?_
  intro K hK
  refine wp_store_row 29 (.tmp 4) (.tmp 8) rfl (w.heap.size + 1 + 1) (pcells Z) (by simp [Act.eval, Act.put]) (by simp [Act.eval, Act.put]) _ _ D5.out.2.2.1 (by rw [sizePlane, pcells_size]) (by rw [pcells_size, pcells_size]) (pcells_one _) ?_
  have q4 := Lib.hid (D5.out.2.2.1.store Z)
  have q5 := Lib.hid (And.intro (D5.out.1.otherRow (g := w.heap.size + 1 + 1) (by omega) (pcells Z)) (D5.out.2.1.otherRow (g := w.heap.size + 1 + 1) (by omega) (pcells Z)))
  have hb2 := Lib.hid (belowRow D5.out.2.2.2 (show w.heap.size ≤ w.heap.size + 1 + 1 by omega) (pcells Z))
  generalize w5.setRow (w.heap.size + 1 + 1) (pcells Z) = w6 at *
  refine hK _ _ ⟨⟨w6, q5.out.1, q5.out.2⟩, rfl⟩ ?_
  clear hK K
  refine mix_last (by simp only [opsAt, List.getElem?_toArray, List.getElem?_cons_succ, List.getElem?_cons_zero]; rfl) ?_
  refine wpQuiet_run rfl (.bool hb) (fun w' _ => exec_assign (.tmp 13) rfl _ (by simp [Act.eval, Act.put])) ?_
  refine wpQuiet_nil ?_
  iterate 3 go_step
  exact bodyPost_ret (results_cell_and rfl _ _ (w.heap.size + 1 + 1) _ _ _ _ (.bool hb) rfl rfl q4.out Try.underlying29 rfl (by rw [sizePlane, pcells_size])) rfl ⟨rfl, hb2.out⟩
end Go.Proofs.Ytplmmfgmbfcjpaa
