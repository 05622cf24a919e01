/- The rule that is found for an opcode, and whether it is allowed. -/
import Derived.Test.YtgilkbmipgejeaaDoorKDecTab
namespace Go.Proofs.YtgilkbmipgejeaaDoor
open Go.RowKit Num Dec
set_option linter.unusedVariables false
set_option linter.unusedSimpArgs false

theorem and_nat (a b : Nat) (ha : a < 2 ^ 62) (hb : b < 2 ^ 62) : bits .and .i64 (a : Int) (b : Int) = ((a &&& b : Nat) : Int) := (bits_nat .i64 62 (by decide) wraps_i64 a b ha hb).1
def zeroRule : Array Value := #[.int .i64 0, .int .i64 0, .int .i64 0, .int .i64 0, .nilFunc]
/-- What find hands back. -/
def found (r : Rl) : Value := bif r.op != 0 then .tuple #[.agg (rcs r), .bool true] else .tuple #[.agg zeroRule, .bool false]
def Behind (n k : Nat) : Prop := top n = topOf n (rls.drop k)
theorem rl_ok (k : Nat) (hk : k < rls.length) : (rls[k]).mask < 65536 ∧ (rls[k]).op ≠ 0 := by
  have := rls_all (fun r => decide (r.mask < 65536) && (r.op != 0)) (by decide +kernel) k hk
  simpa using this

set_option maxRecDepth 100000 in
set_option maxHeartbeats 2000000 in
theorem find_any (n : Nat) (hn : n < 65536) (w : World) : Calls Tryd.prog 60 #[.int .i64 (n : Int)] w fun e w' => e = .returned (found (top n)) ∧ Below w.heap.size w w' := by
  go_enter Tryd.func60, Tryd.ntmps60
  go_wp2_with fail
  refine (rules_any _).mono ?_
  rintro e w1 ⟨rfl, b1⟩
  have B1 := Lib.hid (((Below.refl w.heap.size w).alloc (Nat.le_refl _) (.cells zeroRule 124)).trans (b1.mono (by simp)))
  have Z1 := Lib.hid ((Blk.new w 124 zeroRule).step b1)
  clear b1
  go_wp2_with fail
  go_loopw [7] (fun i wr => ∃ k : Nat, k ≤ rls.length ∧ i = .int .i64 (k : Int) ∧ Behind n k ∧ Below w.heap.size w wr ∧ Blk w.heap.size 124 zeroRule wr) (fun i _ => rls.length - (intOf i).toNat)
  case atStart => exact ⟨0, Nat.zero_le _, rfl, rfl, B1.out, Z1.out⟩
  case round =>
    obtain ⟨k, hk, rfl, ht, hb, hz⟩ := hrel
    have HB := Lib.hid hb
    have HT := Lib.hid ht
    have HZ := Lib.hid hz
    have L := Lib.hid hz.lt
    clear hb ht
    by_cases hlt : k < rls.length
    · obtain ⟨R, ha, hr, HE, HN⟩ : ∃ R : Rl, (∀ w : World, (Instr.index 130 ruleV (.int .i64 (k : Int))).run Tryd.prog w = .ok (.agg (rcs R)) w) ∧ (R.mask < 65536 ∧ R.op ≠ 0) ∧ Hid (fit n R = true → top n = R) ∧ Hid (fit n R = false → Behind n (k + 1)) :=
        ⟨rls[k], rule_at k hlt, rl_ok k hlt, Lib.hid (fun h => top_hit n k hlt h HT.out), Lib.hid (fun h => top_step n k hlt h HT.out)⟩
      have hk51 : (k : Int) < 51 := by have := rls_len; omega
      have HK := Lib.hid hlt
      clear hk hlt
      obtain ⟨m, c, o, l, p⟩ := R
      have e := and_nat n m (by omega) (by have := hr.1; simp only at this; omega)
      have HO := Lib.hid (show o ≠ 0 from hr.2)
      clear hr
      unfold rcs at ha
      simp only at ha
      obtain ⟨x, hx⟩ : ∃ x, n &&& m = x := ⟨_, rfl⟩
      rw [hx] at e
      have HX := Lib.hid hx
      clear hx
      have c0 := hz.cell 0
      have c1 := hz.cell 1
      have c2 := hz.cell 2
      have c3 := hz.cell 3
      have c4 := hz.cell 4
      have f0 := hz.frozen 0
      have f1 := hz.frozen 1
      have f2 := hz.frozen 2
      have f3 := hz.frozen 3
      have f4 := hz.frozen 4
      simp only [zeroRule, List.getElem?_toArray, List.getElem?_cons_succ, List.getElem?_cons_zero] at c0 c1 c2 c3 c4
      have hw : w.heap.size < wr.heap.size := hz.lt
      clear hz
      by_cases hc : (x : Int) = (c : Int)
      · have F := Lib.hid (show found (top n) = .tuple #[.agg (rcs ⟨m, c, o, l, p⟩), .bool true] by
          rw [HE.out (fit_yes (show n &&& m = c by rw [HX.out]; omega))]
          unfold found
          rw [show (o != 0) = true by simpa using HO.out]
          rfl)
        have hc' : ((x : Int) == (c : Int)) = true := by simpa using hc
        have X := Lib.hid ((((((HZ.out.put 0 (.int .i64 (m : Int))).put 1 (.int .i64 (c : Int))).put 2 (.int .i64 (o : Int))).put 3 (.int .i64 (l : Int))).put 4 (.func (.func (pf p)) #[] #[])).alloc (.cells #[.int .i64 (m : Int), .int .i64 (c : Int), .int .i64 (o : Int), .int .i64 (l : Int), .func (.func (pf p)) #[] #[]] 124))
        have D := Lib.hid ((((((HB.out.setCell (p := ⟨w.heap.size, 0, none⟩) (Nat.le_refl _) (.int .i64 (m : Int))).setCell (p := ⟨w.heap.size, 1, none⟩) (Nat.le_refl _) (.int .i64 (c : Int))).setCell (p := ⟨w.heap.size, 2, none⟩) (Nat.le_refl _) (.int .i64 (o : Int))).setCell (p := ⟨w.heap.size, 3, none⟩) (Nat.le_refl _) (.int .i64 (l : Int))).setCell (p := ⟨w.heap.size, 4, none⟩) (Nat.le_refl _) (.func (.func (pf p)) #[] #[])).alloc (by simpa using Nat.le_of_lt L.out) (.cells #[.int .i64 (m : Int), .int .i64 (c : Int), .int .i64 (o : Int), .int .i64 (l : Int), .func (.func (pf p)) #[] #[]] 124))
        go_wp2
        generalize World.alloc _ _ = V at X D ⊢
        have x0 := X.out.cell 0
        have x1 := X.out.cell 1
        have x2 := X.out.cell 2
        have x3 := X.out.cell 3
        have x4 := X.out.cell 4
        simp [zeroRule] at x0 x1 x2 x3 x4
        exact bodyPost_ret (v := .tuple #[.agg (rcs ⟨m, c, o, l, p⟩), .bool true]) (by simp [results, Tryd.results60, go_sem, x0, x1, x2, x3, x4, rcs]) rfl ⟨by rw [F.out], D.out⟩
      · have F := Lib.hid (HN.out (fit_no (show ¬ n &&& m = c by rw [HX.out]; omega)))
        have hc' : ((x : Int) == (c : Int)) = false := by simpa using hc
        have X := Lib.hid (HZ.out.alloc (.cells #[.int .i64 (m : Int), .int .i64 (c : Int), .int .i64 (o : Int), .int .i64 (l : Int), .func (.func (pf p)) #[] #[]] 124))
        have D := Lib.hid (HB.out.alloc (Nat.le_of_lt L.out) (.cells #[.int .i64 (m : Int), .int .i64 (c : Int), .int .i64 (o : Int), .int .i64 (l : Int), .func (.func (pf p)) #[] #[]] 124))
        go_wp2
        exact ⟨⟨k + 1, HK.out, rfl, F.out, D.out, X.out⟩, by have := HK.out; simp [intOf]; omega⟩
    · have F := Lib.hid (show found (top n) = .tuple #[.agg zeroRule, .bool false] by rw [top_end n k (by omega) HT.out]; rfl)
      have hk51 : ¬ (k : Int) < 51 := by have := rls_len; omega
      clear hk hlt
      have c0 := hz.cell 0
      have c1 := hz.cell 1
      have c2 := hz.cell 2
      have c3 := hz.cell 3
      have c4 := hz.cell 4
      have f0 := hz.frozen 0
      have f1 := hz.frozen 1
      have f2 := hz.frozen 2
      have f3 := hz.frozen 3
      have f4 := hz.frozen 4
      simp only [zeroRule, List.getElem?_toArray, List.getElem?_cons_succ, List.getElem?_cons_zero] at c0 c1 c2 c3 c4
      clear hz
      have X := Lib.hid (((((HZ.out.put 0 (.int .i64 0)).put 1 (.int .i64 0)).put 2 (.int .i64 0)).put 3 (.int .i64 0)).put 4 .nilFunc)
      have D := Lib.hid (((((HB.out.setCell (p := ⟨w.heap.size, 0, none⟩) (Nat.le_refl _) (.int .i64 0)).setCell (p := ⟨w.heap.size, 1, none⟩) (Nat.le_refl _) (.int .i64 0)).setCell (p := ⟨w.heap.size, 2, none⟩) (Nat.le_refl _) (.int .i64 0)).setCell (p := ⟨w.heap.size, 3, none⟩) (Nat.le_refl _) (.int .i64 0)).setCell (p := ⟨w.heap.size, 4, none⟩) (Nat.le_refl _) .nilFunc)
      go_wp2
      generalize World.setCell _ _ _ = V at X D ⊢
      have x0 := X.out.cell 0
      have x1 := X.out.cell 1
      have x2 := X.out.cell 2
      have x3 := X.out.cell 3
      have x4 := X.out.cell 4
      simp [zeroRule] at x0 x1 x2 x3 x4
      exact bodyPost_ret (v := .tuple #[.agg zeroRule, .bool false]) (by simp [results, Tryd.results60, go_sem, x0, x1, x2, x3, x4, zeroRule]) rfl ⟨by rw [F.out], D.out⟩

set_option maxHeartbeats 1000000 in
theorem skip_any (h l : Nat) (level : Int) (w : World) : Calls Tryd.prog 63 #[.int .u8 (h : Int), .int .u8 (l : Int), .int .i64 level] w fun e w' => e = .returned (.int .i64 (skl h l level)) ∧ w = w' := by
  unfold skl
  by_cases h3 : level = 3
  · by_cases hh : (h : Int) = 240
    · by_cases hl : (l : Int) = 0
      · rw [if_pos ⟨h3, by omega, by omega⟩]
        go_enter Tryd.func63, Tryd.ntmps63
        go_wp2
        go_ret
        exact ⟨rfl, rfl⟩
      · rw [if_neg (by omega)]
        go_enter Tryd.func63, Tryd.ntmps63
        go_wp2
        go_ret
        exact ⟨rfl, rfl⟩
    · rw [if_neg (by omega)]
      go_enter Tryd.func63, Tryd.ntmps63
      go_wp2
      go_ret
      exact ⟨rfl, rfl⟩
  · rw [if_neg (by omega)]
    go_enter Tryd.func63, Tryd.ntmps63
    go_wp2
    go_ret
    exact ⟨rfl, rfl⟩
end Go.Proofs.YtgilkbmipgejeaaDoor
