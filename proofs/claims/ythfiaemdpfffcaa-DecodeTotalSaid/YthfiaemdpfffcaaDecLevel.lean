/- Level and Base. -/
import Derived.Test.YthfiaemdpfffcaaDec
import Derived.Test.YthfiaemdpfffcaaDecFin2
namespace Go.Proofs.Ythfiaemdpfffcaa
open Go.RowKit Num Dec
set_option linter.unusedVariables false
set_option linter.unusedSimpArgs false

theorem lvOf_hit (op : Int) (k : Nat) (h : k < rls.length) (hf : (rls[k].op : Int) = op) (ht : lv op = lvOf op (rls.drop k)) : lv op = rls[k].level := by
  rw [ht, List.drop_eq_getElem_cons h]
  unfold lvOf
  rw [if_pos hf]
theorem lvOf_step (op : Int) (k : Nat) (h : k < rls.length) (hf : ¬ (rls[k].op : Int) = op) (ht : lv op = lvOf op (rls.drop k)) : lv op = lvOf op (rls.drop (k + 1)) := by
  rw [ht, List.drop_eq_getElem_cons h]
  rw [show lvOf op (rls[k] :: rls.drop (k + 1)) = if (rls[k].op : Int) = op then (rls[k].level : Int) else lvOf op (rls.drop (k + 1)) from rfl, if_neg hf]
theorem lvOf_end (op : Int) (k : Nat) (h : rls.length ≤ k) (ht : lv op = lvOf op (rls.drop k)) : lv op = 0 := by
  rw [ht, List.drop_eq_nil_of_le h]
  rfl
def LvAt (op : Int) (k : Nat) : Prop := lv op = lvOf op (rls.drop k)
set_option maxRecDepth 100000 in
set_option maxHeartbeats 2000000 in
theorem level_any (op : Int) (w : World) : Calls Try.prog 13 #[.int .i64 op] w fun e w' => e = .returned (.int .i64 (lv op)) ∧ Below w.heap.size w w' := by
  go_enter Try.func13, Try.ntmps13
  go_wp2_with fail
  refine (rules_any _).mono ?_
  rintro e w1 ⟨rfl, b1⟩
  have B1 := Lib.hid b1
  clear b1
  go_wp2_with fail
  go_loopw [6] (fun i wr => ∃ k : Nat, k ≤ rls.length ∧ i = .int .i64 (k : Int) ∧ LvAt op k ∧ Below w.heap.size w wr) (fun i _ => rls.length - (intOf i).toNat)
  case atStart => exact ⟨0, Nat.zero_le _, rfl, rfl, B1.out⟩
  case round =>
    obtain ⟨k, hk, rfl, ht, hb⟩ := hrel
    have HB := Lib.hid hb
    have HT := Lib.hid ht
    clear hb ht
    by_cases hlt : k < rls.length
    · obtain ⟨R, ha, hr, HE, HN⟩ : ∃ R : Rl, (∀ w : World, (Instr.index 50 ruleV (.int .i64 (k : Int))).run Try.prog w = .ok (.agg (rcs R)) w) ∧ 1 ≤ R.level ∧ Hid ((R.op : Int) = op → lv op = R.level) ∧ Hid (¬ (R.op : Int) = op → LvAt op (k + 1)) :=
        ⟨rls[k], rule_at k hlt, by have := rls_all (fun r => decide (1 ≤ r.level)) (by decide +kernel) k hlt; simpa using this, Lib.hid (fun h => lvOf_hit op k hlt h HT.out), Lib.hid (fun h => lvOf_step op k hlt h HT.out)⟩
      have hk51 : (k : Int) < 51 := by have := rls_len; omega
      have HK := Lib.hid hlt
      clear hk hlt
      obtain ⟨m, c, o, l, p⟩ := R
      have HL := Lib.hid (show 1 ≤ l from hr)
      clear hr
      unfold rcs at ha
      simp only at ha
      have D := Lib.hid (HB.out.alloc HB.out.size (.cells #[.int .i64 (m : Int), .int .i64 (c : Int), .int .i64 (o : Int), .int .i64 (l : Int), .func (.func (pf p)) #[] #[]] 40))
      by_cases hc : (o : Int) = op
      · have F := Lib.hid (show lv op = (l : Int) from HE.out hc)
        have hc' : ((o : Int) == op) = true := by simpa using hc
        clear hc
        go_wp2
        go_returns
        exact ⟨by rw [F.out]; rfl, D.out⟩
      · have F := Lib.hid (HN.out hc)
        have hc' : ((o : Int) == op) = false := by simpa using hc
        clear hc
        go_wp2
        exact ⟨⟨k + 1, HK.out, rfl, F.out, D.out⟩, by have := HK.out; simp [intOf]; omega⟩
    · have F := Lib.hid (show lv op = 0 from lvOf_end op k (by omega) HT.out)
      have hk51 : ¬ (k : Int) < 51 := by have := rls_len; omega
      clear hk hlt
      go_wp2
      go_returns
      exact ⟨by rw [F.out]; rfl, HB.out⟩

set_option maxHeartbeats 1000000 in
theorem base_any (op : Int) (w : World) : Calls Try.prog 15 #[.int .i64 op] w fun e w' => e = .returned (.bool (lv op == 1)) ∧ Below w.heap.size w w' := by
  have LT := Lib.hid (fun w => level_any op w)
  obtain ⟨v, hv⟩ : ∃ v, lv op = v := ⟨_, rfl⟩
  rw [hv] at LT ⊢
  clear hv
  go_enter Try.func15, Try.ntmps15
  go_wp2_with fail
  refine (LT.out _).mono ?_
  rintro e w1 ⟨rfl, b1⟩
  have B1 := Lib.hid b1
  clear b1
  go_wp2_with fail
  go_ret
  exact ⟨rfl, B1.out⟩
/-- The least level is the reference's. -/
theorem lv_eq (op : Int) : lv op = lvR op := by
  by_cases h : op < 1 ∨ 51 < op
  · unfold lvR
    rw [if_pos h]
    have e : ∀ l : List Rl, l.all (fun r => decide (1 ≤ r.op) && decide (r.op ≤ 51)) = true → lvOf op l = 0 := by
      intro l
      induction l with
      | nil => intro _; rfl
      | cons r rs ih =>
        intro hl
        rw [List.all_cons, Bool.and_eq_true] at hl
        have h1 := hl.1
        simp at h1
        unfold lvOf
        rw [if_neg (by omega)]
        exact ih hl.2
    exact e rls (by decide +kernel)
  · obtain ⟨k, rfl⟩ := Int.eq_ofNat_of_zero_le (a := op) (by omega)
    have c : (allb 52 fun k => decide (lv (k : Int) = lvR (k : Int))) = true := by decide +kernel
    exact of_decide_eq_true (allb_at 52 _ c k (by omega))

set_option maxHeartbeats 1000000 in
theorem rskip_any (h l : Nat) (level : Int) (w : World) : Calls Try.prog 12 #[.int .u8 (h : Int), .int .u8 (l : Int), .int .i64 level] w fun e w' => e = .returned (.int .i64 (skl h l level)) ∧ w = w' := by
  unfold skl
  by_cases h3 : level = 3
  · by_cases hh : (h : Int) = 240
    · by_cases hl : (l : Int) = 0
      · rw [if_pos ⟨h3, by omega, by omega⟩]
        go_enter Try.func12, Try.ntmps12
        go_wp2
        go_ret
        exact ⟨rfl, rfl⟩
      · rw [if_neg (by omega)]
        go_enter Try.func12, Try.ntmps12
        go_wp2
        go_ret
        exact ⟨rfl, rfl⟩
    · rw [if_neg (by omega)]
      go_enter Try.func12, Try.ntmps12
      go_wp2
      go_ret
      exact ⟨rfl, rfl⟩
  · rw [if_neg (by omega)]
    go_enter Try.func12, Try.ntmps12
    go_wp2
    go_ret
    exact ⟨rfl, rfl⟩
end Go.Proofs.Ythfiaemdpfffcaa
