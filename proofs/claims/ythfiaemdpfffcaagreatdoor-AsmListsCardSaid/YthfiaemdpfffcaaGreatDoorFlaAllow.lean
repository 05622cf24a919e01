/- Contracts of flags.Allowed and of the reference's. -/
import Derived.Test.YthfiaemdpfffcaaGreatDoorArr
import Derived.Lib.MinMax
import Derived.Maps.OwnSet
import Derived.Maps.Views
import Derived.Carry
import Derived.KernelRfl
import Derived.IntWalk
import Derived.Handy
import Derived.Deep.Cut
namespace Go.Proofs.YthfiaemdpfffcaaGreatDoor
open Go.RowKit Num Go.Maps
set_option linter.unusedVariables false
set_option linter.unusedSimpArgs false

/-- A key of a map's literal. -/
theorem wpList_insert_own {H : Type} {P : Program} (w : World) {ops : Array Oper} {rest : List Oper} {o : Oper} {a : Act} {Q : Exit → Act → World → Prop}
    (hg : o.guard = none) (m x v : Operand) (t : TypeId) (hop : o.op = Op.insert t m x v)
    (k e : TypeId) (K : Keyed P k) (ht : P.underlying t = some (.map k e)) (R : Value → Option (DataW H × List MemPlace)) (b n : Nat) (D : DataW H)
    (hm : a.eval m = .map (some b)) (hown : w.ownsMap P k R b n D) (hn : n < maxLen) (key val : Value) (kl : Lit) (hx : a.eval x = key) (hv : a.eval v = val) (hkey : keyOf P k key = some kl)
    (d : DataW H) (ps : List MemPlace) (hval : R val = some (d, ps))
    (hK : ∀ w', w'.ownsMap P k R b (n + 1) (D.put kl d) → w.grownBy w' (some b) → wpList P ops Q rest (a.put o.dst undef) w') :
    wpList P ops Q (o :: rest) a w := by
  refine wpList_plain hg fun K' hK' => ?_
  obtain ⟨w', hrun, r1, r2⟩ := hown.update K ht hn hkey hval
  unfold Oper.wp
  simp [execOp, hop, hm, hx, hv, hrun, Result.andThen]
  exact hK' _ _ (hK w' r1 r2)

/-- What the level allows. -/
def allow (l x : Int) : Bool := decide ((l = 2 ∧ 0 ≤ x ∧ x ≤ 7) ∨ (l = 3 ∧ 0 ≤ x ∧ x ≤ 15))
theorem intKeyed : Keyed Tryz.prog 3 := int_keyed Tryz.underlying3
theorem int_key (l : Int) (h : (Lit.int .i64 l).wf = true) : keyOf Tryz.prog 3 (.int .i64 l) = some (.int .i64 l) := keyOf_int_mk Tryz.underlying3 h
theorem zeroInt (w : World) : (zeroValue 3).run Tryz.prog w = .ok (.int .i64 0) w := by kernel_rfl
/-- The greatest numbers. -/
def lastsW : DataW Unit := ((DataW.map []).put (.int .i64 2) (.lit (.int .i64 7))).put (.int .i64 3) (.lit (.int .i64 15))
theorem isKey (l : Int) : WideAt.IsKeyLit (.int .i64 l) := by first | trivial | simp [WideAt.IsKeyLit]
theorem isMap0 : IsMap (DataW.map [] : DataW Unit) := ⟨_, rfl⟩
theorem lasts_has (l : Int) : has lastsW (.int .i64 l) = (decide (l = 2) || decide (l = 3)) := by
  unfold lastsW
  by_cases h3 : l = 3
  · subst h3
    rw [has_put_same (isMap0.put _ _) (isKey 3)]
    rfl
  · rw [has_put_other (by intro c; injection c with _ c; exact h3 c), decide_eq_false h3, Bool.or_false]
    by_cases h2 : l = 2
    · subst h2
      rw [has_put_same isMap0 (isKey 2)]
      rfl
    · rw [has_put_other (by intro c; injection c with _ c; exact h2 c), decide_eq_false h2]
      rfl
theorem lasts_at (l : Int) (z : DataW Unit) : lastsW.atKey (.int .i64 l) z = if l = 3 then .lit (.int .i64 15) else if l = 2 then .lit (.int .i64 7) else z := by
  unfold lastsW
  by_cases h3 : l = 3
  · subst h3
    rw [if_pos rfl, atKey_put_same (isMap0.put _ _) (isKey 3)]
  · rw [if_neg h3, atKey_put_other (by intro c; injection c with _ c; exact h3 c)]
    by_cases h2 : l = 2
    · subst h2
      rw [if_pos rfl, atKey_put_same isMap0 (isKey 2)]
    · rw [if_neg h2, atKey_put_other (by intro c; injection c with _ c; exact h2 c)]
      rfl

set_option maxRecDepth 100000 in
set_option maxHeartbeats 2000000 in
theorem greatest_any (w : World) : Calls Tryz.prog 74 #[] w fun e w' => ∃ b, e = .returned (.map (some b)) ∧ w'.ownsMap Tryz.prog 3 (plainElem Tryz.prog 3) b 2 lastsW ∧ Below w.heap.size w w' := by
  have hmm := @run_makeMap Tryz.prog
  go_enter Tryz.func74, Tryz.ntmps74
  go_upto_region 1 with fail
  refine wp_region_lit ?_
  iterate 3 go_step
  have B0 := Lib.hid ((Below.refl w.heap.size w).alloc (Nat.le_refl _) (.map #[] 0))
  refine wpList_insert_own (H := Unit) _ rfl (.tmp 1) (.const (.int .i64 2)) (.const (.int .i64 7)) 97 rfl 3 3 intKeyed Tryz.underlying97 (plainElem Tryz.prog 3) w.heap.size 0 (.map []) rfl (World.ownsMap_made w _ _ _) (by unfold maxLen; omega) _ _ (.int .i64 2) rfl rfl (int_key 2 (by decide)) (.lit (.int .i64 7)) [] (plainElem_int Tryz.underlying3 (by decide)) ?_
  intro w1 o1 g1
  have B1 := Lib.hid (B0.out.grown g1 B0.out.size (fun j hj => by cases hj; exact Nat.le_refl _))
  have O1 := Lib.hid o1
  clear o1 g1 B0 hmm
  simp only [Act.put]
  refine wpList_insert_own _ rfl (.tmp 1) (.const (.int .i64 3)) (.const (.int .i64 15)) 97 rfl 3 3 intKeyed Tryz.underlying97 (plainElem Tryz.prog 3) w.heap.size 1 _ rfl O1.out (by unfold maxLen; omega) _ _ (.int .i64 3) rfl rfl (int_key 3 (by decide)) (.lit (.int .i64 15)) [] (plainElem_int Tryz.underlying3 (by decide)) ?_
  intro w2 o2 g2
  have Z := Lib.hid (And.intro o2 (B1.out.grown g2 B1.out.size (fun j hj => by cases hj; exact Nat.le_refl _)))
  clear o2 g2 O1 B1
  simp only [Act.put]
  go_wp2_with fail
  go_ret
  exact ⟨_, rfl, Z.out.1, Z.out.2⟩

set_option maxRecDepth 100000 in
set_option maxHeartbeats 2000000 in
theorem allowed_any (l x : Int) (w : World) (hl : (Lit.int .i64 l).wf = true) : Calls Tryz.prog 61 #[.int .i64 l, .int .i64 x] w fun e w' => e = .returned (.bool (allow l x)) ∧ Below w.heap.size w w' := by
  have hk := Lib.hid (int_key l hl)
  clear hl
  go_enter Tryz.func61, Tryz.ntmps61
  go_wp2_with fail
  refine (greatest_any _).mono ?_
  rintro e w1 ⟨b, rfl, ho, hb⟩
  have O := Lib.hid (And.intro ho hb)
  clear ho hb
  simp only []
  go_at_K
  iterate 4 go_step
  refine wpList_lookup_own_ok_int _ rfl (.tmp 8) (.tmp 9) 97 rfl 3 3 .i64 intKeyed Tryz.underlying97 Tryz.underlying3 (zeroInt _) b 2 lastsW rfl O.out.1 _ _ rfl hk.out ?_
  intro c hat _
  rw [lasts_has]
  rw [lasts_at] at hat
  have F : allow l x = ((decide (l = 2) || decide (l = 3)) && (decide (0 ≤ x) && decide (x ≤ c))) := by
    unfold allow
    by_cases h3 : l = 3
    · rw [if_pos h3] at hat
      injection hat with hat
      injection hat with _ hat
      subst hat h3
      simp [Bool.decide_and]
    · rw [if_neg h3] at hat
      by_cases h2 : l = 2
      · rw [if_pos h2] at hat
        injection hat with hat
        injection hat with _ hat
        subst hat h2
        simp [Bool.decide_and]
      · simp [h2, h3]
  have FH := Lib.hid F
  clear F hat
  generalize (decide (l = 2) || decide (l = 3)) = s at *
  simp only [Act.put]
  have B := Lib.hid O.out.2
  clear O hk
  cases s
  · go_wp2
    go_ret
    exact ⟨by rw [FH.out]; rfl, B.out⟩
  · by_cases hx : 0 ≤ x
    · by_cases hc : x ≤ c
      · have e := Lib.hid (show allow l x = true by rw [FH.out]; simp [hx, hc])
        clear FH
        go_wp2
        go_ret
        exact ⟨by rw [e.out]; rfl, B.out⟩
      · have e := Lib.hid (show allow l x = false by rw [FH.out]; simp only [decide_eq_false hc, Bool.and_false])
        clear FH
        go_wp2
        go_ret
        exact ⟨by rw [e.out]; rfl, B.out⟩
    · have e := Lib.hid (show allow l x = false by rw [FH.out]; simp only [decide_eq_false hx, Bool.false_and, Bool.and_false])
      clear FH
      go_wp2
      go_ret
      exact ⟨by rw [e.out]; rfl, B.out⟩
theorem rallowed_any (l x : Int) (w : World) : Calls Tryz.prog 41 #[.int .i64 l, .int .i64 x] w fun e w' => e = .returned (.bool (allow l x)) ∧ w = w' := by
  by_cases h2 : l = 2
  · subst h2
    by_cases h0 : 0 ≤ x
    · by_cases h7 : x ≤ 7
      · have e := Lib.hid (show allow 2 x = true by unfold allow; first | exact decide_eq_true (by omega) | exact decide_eq_false (by omega))
        go_enter Tryz.func41, Tryz.ntmps41
        go_wp2
        go_ret
        exact ⟨by rw [e.out]; rfl, rfl⟩
      · have e := Lib.hid (show allow 2 x = false by unfold allow; first | exact decide_eq_true (by omega) | exact decide_eq_false (by omega))
        go_enter Tryz.func41, Tryz.ntmps41
        go_wp2
        go_ret
        exact ⟨by rw [e.out]; rfl, rfl⟩
    · have e := Lib.hid (show allow 2 x = false by unfold allow; first | exact decide_eq_true (by omega) | exact decide_eq_false (by omega))
      go_enter Tryz.func41, Tryz.ntmps41
      go_wp2
      go_ret
      exact ⟨by rw [e.out]; rfl, rfl⟩
  · by_cases h3 : l = 3
    · subst h3
      by_cases h0 : 0 ≤ x
      · by_cases h7 : x ≤ 15
        · have e := Lib.hid (show allow 3 x = true by unfold allow; first | exact decide_eq_true (by omega) | exact decide_eq_false (by omega))
          go_enter Tryz.func41, Tryz.ntmps41
          go_wp2
          go_ret
          exact ⟨by rw [e.out]; rfl, rfl⟩
        · have e := Lib.hid (show allow 3 x = false by unfold allow; first | exact decide_eq_true (by omega) | exact decide_eq_false (by omega))
          go_enter Tryz.func41, Tryz.ntmps41
          go_wp2
          go_ret
          exact ⟨by rw [e.out]; rfl, rfl⟩
      · have e := Lib.hid (show allow 3 x = false by unfold allow; first | exact decide_eq_true (by omega) | exact decide_eq_false (by omega))
        go_enter Tryz.func41, Tryz.ntmps41
        go_wp2
        go_ret
        exact ⟨by rw [e.out]; rfl, rfl⟩
    · have e := Lib.hid (show allow l x = false by unfold allow; first | exact decide_eq_true (by omega) | exact decide_eq_false (by omega))
      go_enter Tryz.func41, Tryz.ntmps41
      go_wp2
      go_ret
      exact ⟨by rw [e.out]; rfl, rfl⟩
end Go.Proofs.YthfiaemdpfffcaaGreatDoor
