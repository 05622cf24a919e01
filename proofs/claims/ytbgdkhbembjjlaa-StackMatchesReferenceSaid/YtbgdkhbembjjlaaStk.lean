/- Contracts of package stack: Push, Pop, List. -/
import Derived.Test.YtbgdkhbembjjlaaStkBox
import Derived.Test.YtbgdkhbembjjlaaStkRef
import Derived.Test.YtbgdkhbembjjlaaAppRow
import Derived.Test.YtbgdkhbembjjlaaCells
import Derived.Lib.MinMax
import Derived.Lib.SliceRun
import Derived.Maps.OwnSet
import Derived.Maps.Views
namespace Go.Proofs.Ytbgdkhbembjjlaa
open Go.RowKit Num
set_option linter.unusedVariables false
set_option linter.unusedSimpArgs false
set_option maxRecDepth 100000

/-- Three results: a variable that holds a struct, and two slots. -/
theorem results_cell_slots8 {P : Program} {fn : Func} {p q r : Tmp} {ty : TypeId} (h : fn.results = #[.cell p ty, .tmp q, .tmp r]) (tmps : Array Value) (w : World) (g : Nat) (t : TypeId) (cs : Array Value) (fr : Nat × Nat) (v u : Value)
    (hp : tmps.getD p undef = .pointer (some ⟨g, 0, none⟩)) (hq : tmps.getD q undef = v) (hr : tmps.getD r undef = u) (hg : w.heap[g]? = some (.cells cs t fr)) {n : Nat} (A : AggT P ty n) (hn : cs.size = n) :
    (results fn tmps).run P w = .ok (.tuple #[.agg cs, v, u]) w := by
  obtain ⟨⟨d, hu, hd⟩, hi⟩ := A
  have hp' : tmps[p]?.getD undef = .pointer (some ⟨g, 0, none⟩) := by simpa using hp
  have hq' : tmps[q]?.getD undef = v := by simpa using hq
  have hr' : tmps[r]?.getD undef = u := by simpa using hr
  have hl := run_loadVar_row w g t ty cs fr d hg hu (by cases d <;> simp_all [TypeDesc.isRow]) (by rw [hi, hn])
  simp [results, h, hp', hq', hr', asAddr, hl]

set_option maxHeartbeats 2000000 in
theorem depth_any (L : List Int) (hl : L.length ≤ 16) (w : World) :
    Calls Try.prog 13 #[.agg (stkL L)] w fun e w' => e = .returned (.int .i64 (L.length : Int)) ∧ Below w.heap.size w w' := by
  have hI : (L.length : Int) ≤ 16 := by omega
  have h0 : (0 : Int) ≤ (L.length : Int) := by omega
  have m1 : max (L.length : Int) 0 = (L.length : Int) := by omega
  have m2 : min (L.length : Int) 16 = (L.length : Int) := by omega
  clear hl
  go_enter Try.func13, Try.ntmps13
  go_upto_region 1 with fail
  have T := Lib.hid (TB8.new w L)
  have B := Lib.hid (below_newT w (.cells (stkL L) 26))
  generalize w.alloc (.cells (stkL L) 26) = w1 at *
  obtain ⟨r, hr⟩ : ∃ r, w.heap.size = r := ⟨_, rfl⟩
  have HR := Lib.hid hr
  rw [hr] at T B ⊢
  clear hr
  have c0 := T.out.depth
  go_wp2
  go_ret
  exact ⟨rfl, by rw [HR.out]; exact B.out⟩
set_option maxHeartbeats 2000000 in
theorem errorAt_any (l e : Int) (w : World) :
    Calls Try.prog 14 #[.int .i64 l, .int .i64 e] w fun x w' => x = .returned (.func (.func 16) #[] #[.pointer (some ⟨w.heap.size, 0, none⟩), .pointer (some ⟨w.heap.size + 1, 0, none⟩)]) ∧ w' = (w.alloc (.cells #[.int .i64 l] 3)).alloc (.cells #[.int .i64 e] 27) := by
  go_enter Try.func14, Try.ntmps14
  go_wp2
  go_returns
  exact ⟨rfl, rfl⟩
/-- What the closure chooses. -/
def chosen (d l e : Int) : Int := if d = l then e else 0
set_option maxHeartbeats 2000000 in
theorem chosen_any (d l e : Int) (g h : Nat) (w : World) (c0 : w.cell? ⟨g, 0, none⟩ = some (.int .i64 l)) (c1 : w.cell? ⟨h, 0, none⟩ = some (.int .i64 e)) :
    Calls Try.prog 16 #[.int .i64 d, .pointer (some ⟨g, 0, none⟩), .pointer (some ⟨h, 0, none⟩)] w fun x w' => x = .returned (.int .i64 (chosen d l e)) ∧ w = w' := by
  by_cases hd : d = l
  · have E := Lib.hid (show e = chosen d l e by unfold chosen; rw [if_pos hd])
    go_enter Try.func16, Try.ntmps16
    go_wp2
    go_ret
    exact ⟨ret_int E.out, rfl⟩
  · have E := Lib.hid (show 0 = chosen d l e by unfold chosen; rw [if_neg hd])
    go_enter Try.func16, Try.ntmps16
    go_wp2
    go_ret
    exact ⟨ret_int E.out, rfl⟩

/-- The closure's two cells, behind the maker. -/
structure Two8 (r n : Nat) (l e : Int) (w : World) : Prop where
  c0 : w.cell? ⟨n, 0, none⟩ = some (.int .i64 l)
  c1 : w.cell? ⟨n + 1, 0, none⟩ = some (.int .i64 e)
theorem made8 (l e : Int) (w : World) : Two8 0 w.heap.size l e ((w.alloc (.cells #[.int .i64 l] 3)).alloc (.cells #[.int .i64 e] 27)) := ⟨by simp, by simp⟩

set_option maxHeartbeats 4000000 in
theorem push_yes (L : List Int) (a : Int) (hl : L.length < 16) (w : World) :
    Calls Try.prog 9 #[.agg (stkL L), .int .i64 a] w fun e w' => e = .returned (.tuple #[.agg (stkL (L ++ [a])), .int .i64 0]) ∧ Below w.heap.size w w' := by
  have DP := Lib.hid fun w => depth_any L (by omega) w
  have E := Lib.hid (show chosen (L.length : Int) 16 2 = 0 by unfold chosen; rw [if_neg (by omega)])
  have HL := Lib.hid hl
  have wr0 : IntKind.i64.wrap ((L.length : Int) + 1) = (L.length : Int) + 1 := by rw [IntKind.wrap_i64]; omega
  have hI : (L.length : Int) < 16 := by omega
  have h0 : (0 : Int) ≤ (L.length : Int) := by omega
  have hz := zeroStkV
  have wr := Lib.hid wr0
  clear wr0
  go_enter Try.func9, Try.ntmps9
  go_upto_region 1 with fail
  have S := Lib.hid ((TB8.new w L).alloc (.cells (stkL []) 26))
  have R := Lib.hid (TB8.new (w.alloc (.cells (stkL L) 26)) [])
  have B := Lib.hid ((below_newT w (.cells (stkL L) 26)).alloc (by simp) (.cells (stkL []) 26))
  rw [World.size_alloc] at R
  generalize (w.alloc (.cells (stkL L) 26)).alloc (.cells (stkL []) 26) = w1 at *
  clear hz
  obtain ⟨r, hr⟩ : ∃ r, w.heap.size = r := ⟨_, rfl⟩
  have HR := Lib.hid hr
  rw [hr] at S R B ⊢
  clear hr
  refine wp_region_lit ?_
  refine list_load_all aggStk S.out (stkL_size _) rfl (.tmp 2) rfl (by simp [Act.eval]) ?_
  simp only [Act.put, List.setIfInBounds_toArray, List.set_cons_zero, List.set_cons_succ]
  have Z := Lib.hid (Nat.le_of_lt (Nat.lt_of_succ_lt R.out.lt))
  go_wp2_with fail
  refine (DP.out w1).mono ?_
  rintro e w2 ⟨rfl, b2⟩
  have S := Lib.hid (S.out.step b2)
  have R := Lib.hid (R.out.step b2)
  have B := Lib.hid (B.out.trans (b2.mono Z.out))
  have Z := Lib.hid (Nat.le_trans Z.out b2.size)
  clear b2
  go_wp2_with fail
  refine (errorAt_any 16 2 w2).mono ?_
  rintro e w3 ⟨rfl, hw3⟩
  have B3 := Lib.hid (show Below w2.heap.size w2 w3 by rw [hw3]; exact (below_newT _ _).alloc (by simp) _)
  have T := Lib.hid (show Two8 0 w2.heap.size 16 2 w3 by rw [hw3]; exact made8 _ _ _)
  clear hw3
  have S := Lib.hid (S.out.step B3.out)
  have R := Lib.hid (R.out.step B3.out)
  have B := Lib.hid (B.out.trans (B3.out.mono Z.out))
  have CH := Lib.hid (chosen_any (L.length : Int) 16 2 w2.heap.size (w2.heap.size + 1) w3 T.out.c0 T.out.c1)
  rw [E.out] at CH
  clear T B3 Z
  go_wp2_with fail
  refine CH.out.mono ?_
  rintro e w4 ⟨rfl, rfl⟩
  clear CH
  go_upto_region 5 with fail
  have c0 := S.out.cell HL.out
  have f0 := S.out.fz L.length
  have c1 := S.out.depth
  have f1 := S.out.fz 16
  have S2 := Lib.hid (S.out.push HL.out a)
  have R2 := Lib.hid ((R.out.other (g := r) (by omega) L.length (.int .i64 a)).other (g := r) (by omega) 16 (.int .i64 ((L.length : Int) + 1)))
  have B2 := Lib.hid ((B.out.setCell (p := ⟨r, L.length, none⟩) (Nat.le_refl _) (.int .i64 a)).setCell (p := ⟨r, 16, none⟩) (Nat.le_refl _) (.int .i64 ((L.length : Int) + 1)))
  clear S R B
  go_upto_region 7 with fail
  clear c0 c1 f0 f1
  generalize (w3.setCell ⟨r, L.length, none⟩ (.int .i64 a)).setCell ⟨r, 16, none⟩ (.int .i64 ((L.length : Int) + 1)) = w4 at *
  refine wp_region_lit ?_
  refine list_load_all aggStk S2.out (stkL_size _) rfl (.tmp 2) rfl (by simp [Act.eval]) ?_
  simp only [Act.put, List.setIfInBounds_toArray, List.set_cons_zero, List.set_cons_succ]
  refine list_store_all (ds := stkL (L ++ [a])) aggStk R2.out (stkL_size _) (stkL_size _) (stkL_one _) rfl (.tmp 4) (.tmp 24) rfl (by simp [Act.eval, Act.put]) (by simp [Act.eval, Act.put]) ?_
  have R3 := Lib.hid (R2.out.store (L ++ [a]))
  have B3 := Lib.hid (belowRowT B2.out (Nat.le_succ r) (stkL (L ++ [a])))
  generalize w4.setRow (r + 1) (stkL (L ++ [a])) = w5 at *
  iterate 7 go_step
  exact bodyPost_ret (results_cell_slot8 rfl _ _ (r + 1) _ _ _ _ rfl rfl R3.out aggStk (stkL_size _)) rfl ⟨rfl, by rw [HR.out]; exact B3.out⟩

set_option maxHeartbeats 4000000 in
theorem push_no (L : List Int) (a : Int) (hl : L.length = 16) (w : World) :
    Calls Try.prog 9 #[.agg (stkL L), .int .i64 a] w fun e w' => e = .returned (.tuple #[.agg (stkL L), .int .i64 2]) ∧ Below w.heap.size w w' := by
  have DP := Lib.hid fun w => depth_any L (by omega) w
  have E := Lib.hid (show chosen (L.length : Int) 16 2 = 2 by unfold chosen; rw [if_pos (by omega)])
  have wr0 := hl
  have hz := zeroStkV
  have wr := Lib.hid wr0
  clear wr0 hl
  go_enter Try.func9, Try.ntmps9
  go_upto_region 1 with fail
  have S := Lib.hid ((TB8.new w L).alloc (.cells (stkL []) 26))
  have R := Lib.hid (TB8.new (w.alloc (.cells (stkL L) 26)) [])
  have B := Lib.hid ((below_newT w (.cells (stkL L) 26)).alloc (by simp) (.cells (stkL []) 26))
  rw [World.size_alloc] at R
  generalize (w.alloc (.cells (stkL L) 26)).alloc (.cells (stkL []) 26) = w1 at *
  clear hz
  obtain ⟨r, hr⟩ : ∃ r, w.heap.size = r := ⟨_, rfl⟩
  have HR := Lib.hid hr
  rw [hr] at S R B ⊢
  clear hr
  refine wp_region_lit ?_
  refine list_load_all aggStk S.out (stkL_size _) rfl (.tmp 2) rfl (by simp [Act.eval]) ?_
  simp only [Act.put, List.setIfInBounds_toArray, List.set_cons_zero, List.set_cons_succ]
  have Z := Lib.hid (Nat.le_of_lt (Nat.lt_of_succ_lt R.out.lt))
  go_wp2_with fail
  refine (DP.out w1).mono ?_
  rintro e w2 ⟨rfl, b2⟩
  have S := Lib.hid (S.out.step b2)
  have R := Lib.hid (R.out.step b2)
  have B := Lib.hid (B.out.trans (b2.mono Z.out))
  have Z := Lib.hid (Nat.le_trans Z.out b2.size)
  clear b2
  go_wp2_with fail
  refine (errorAt_any 16 2 w2).mono ?_
  rintro e w3 ⟨rfl, hw3⟩
  have B3 := Lib.hid (show Below w2.heap.size w2 w3 by rw [hw3]; exact (below_newT _ _).alloc (by simp) _)
  have T := Lib.hid (show Two8 0 w2.heap.size 16 2 w3 by rw [hw3]; exact made8 _ _ _)
  clear hw3
  have S := Lib.hid (S.out.step B3.out)
  have R := Lib.hid (R.out.step B3.out)
  have B := Lib.hid (B.out.trans (B3.out.mono Z.out))
  have CH := Lib.hid (chosen_any (L.length : Int) 16 2 w2.heap.size (w2.heap.size + 1) w3 T.out.c0 T.out.c1)
  rw [E.out] at CH
  clear T B3 Z
  go_wp2_with fail
  refine CH.out.mono ?_
  rintro e w4 ⟨rfl, rfl⟩
  clear CH
  go_upto_region 4 with fail
  refine wp_region_lit ?_
  refine list_load_all aggStk S.out (stkL_size _) rfl (.tmp 2) rfl (by simp [Act.eval]) ?_
  simp only [Act.put, List.setIfInBounds_toArray, List.set_cons_zero, List.set_cons_succ]
  iterate 3 go_step
  refine list_store_all (ds := stkL L) aggStk R.out (stkL_size _) (stkL_size _) (stkL_one _) rfl (.tmp 4) (.tmp 15) rfl (by simp [Act.eval, Act.put]) (by simp [Act.eval, Act.put]) ?_
  have R3 := Lib.hid (R.out.store L)
  have B3 := Lib.hid (belowRowT B.out (Nat.le_succ r) (stkL L))
  generalize w3.setRow (r + 1) (stkL L) = w5 at *
  go_wp2_with fail
  exact bodyPost_ret (results_cell_slot8 rfl _ _ (r + 1) _ _ _ _ rfl rfl R3.out aggStk (stkL_size _)) rfl ⟨rfl, by rw [HR.out]; exact B3.out⟩

/-- Push of any stack. -/
theorem push_any (L : List Int) (a : Int) (hl : L.length ≤ 16) (w : World) :
    Calls Try.prog 9 #[.agg (stkL L), .int .i64 a] w fun e w' => e = .returned (.tuple #[.agg (stkL (pushL L a)), .int .i64 (pushE L)]) ∧ Below w.heap.size w w' := by
  unfold pushL pushE
  by_cases h : L.length < 16
  · rw [if_neg (by omega), if_neg (by omega)]
    exact push_yes L a h w
  · rw [if_pos (by omega), if_pos (by omega)]
    exact push_no L a (by omega) w

set_option maxHeartbeats 4000000 in
theorem pop_no (w : World) :
    Calls Try.prog 7 #[.agg (stkL [])] w fun e w' => e = .returned (.tuple #[.agg (stkL []), .int .i64 0, .int .i64 3]) ∧ Below w.heap.size w w' := by
  have DP := Lib.hid fun w => depth_any [] (by simp) w
  have E := Lib.hid (show chosen 0 0 3 = 3 by unfold chosen; rw [if_pos rfl])
  have wr0 := E
  have hz := zeroStkV
  have wr := Lib.hid wr0
  go_enter Try.func7, Try.ntmps7
  go_upto_region 1 with fail
  have S := Lib.hid ((TB8.new w []).alloc (.cells (stkL []) 26))
  have R := Lib.hid (TB8.new (w.alloc (.cells (stkL []) 26)) [])
  have B := Lib.hid ((below_newT w (.cells (stkL []) 26)).alloc (by simp) (.cells (stkL []) 26))
  rw [World.size_alloc] at R
  generalize (w.alloc (.cells (stkL []) 26)).alloc (.cells (stkL []) 26) = w1 at *
  clear hz
  obtain ⟨r, hr⟩ : ∃ r, w.heap.size = r := ⟨_, rfl⟩
  have HR := Lib.hid hr
  rw [hr] at S R B ⊢
  clear hr
  refine wp_region_lit ?_
  refine list_load_all aggStk S.out (stkL_size _) rfl (.tmp 1) rfl (by simp [Act.eval]) ?_
  simp only [Act.put, List.setIfInBounds_toArray, List.set_cons_zero, List.set_cons_succ]
  have Z := Lib.hid (Nat.le_of_lt (Nat.lt_of_succ_lt R.out.lt))
  go_wp2_with fail
  refine (DP.out w1).mono ?_
  rintro e w2 ⟨rfl, b2⟩
  have S := Lib.hid (S.out.step b2)
  have R := Lib.hid (R.out.step b2)
  have B := Lib.hid (B.out.trans (b2.mono Z.out))
  have Z := Lib.hid (Nat.le_trans Z.out b2.size)
  clear b2
  go_wp2_with fail
  refine (errorAt_any 0 3 w2).mono ?_
  rintro e w3 ⟨rfl, hw3⟩
  have B3 := Lib.hid (show Below w2.heap.size w2 w3 by rw [hw3]; exact (below_newT _ _).alloc (by simp) _)
  have T := Lib.hid (show Two8 0 w2.heap.size 0 3 w3 by rw [hw3]; exact made8 _ _ _)
  clear hw3
  have S := Lib.hid (S.out.step B3.out)
  have R := Lib.hid (R.out.step B3.out)
  have B := Lib.hid (B.out.trans (B3.out.mono Z.out))
  have CH := Lib.hid (chosen_any 0 0 3 w2.heap.size (w2.heap.size + 1) w3 T.out.c0 T.out.c1)
  rw [E.out] at CH
  clear T B3 Z
  go_wp2_with fail
  refine CH.out.mono ?_
  rintro e w4 ⟨rfl, rfl⟩
  clear CH
  go_upto_region 4 with fail
  refine wp_region_lit ?_
  refine list_load_all aggStk S.out (stkL_size _) rfl (.tmp 1) rfl (by simp [Act.eval]) ?_
  simp only [Act.put, List.setIfInBounds_toArray, List.set_cons_zero, List.set_cons_succ]
  iterate 3 go_step
  refine list_store_all (ds := stkL []) aggStk R.out (stkL_size _) (stkL_size _) (stkL_one _) rfl (.tmp 2) (.tmp 15) rfl (by simp [Act.eval, Act.put]) (by simp [Act.eval, Act.put]) ?_
  have R3 := Lib.hid (R.out.store [])
  have B3 := Lib.hid (belowRowT B.out (Nat.le_succ r) (stkL []))
  generalize w3.setRow (r + 1) (stkL []) = w5 at *
  go_wp2_with fail
  exact bodyPost_ret (results_cell_slots8 rfl _ _ (r + 1) _ _ _ _ _ rfl rfl rfl R3.out aggStk (stkL_size _)) rfl ⟨rfl, by rw [HR.out]; exact B3.out⟩

set_option maxHeartbeats 4000000 in
theorem pop_yes (L : List Int) (a : Int) (hl : L.length < 16) (w : World) :
    Calls Try.prog 7 #[.agg (stkL (L ++ [a]))] w fun e w' => e = .returned (.tuple #[.agg (stkL L), .int .i64 a, .int .i64 0]) ∧ Below w.heap.size w w' := by
  have HM := Lib.hid (show (L ++ [a]).length = L.length + 1 by simp)
  obtain ⟨M, hM⟩ : ∃ M, M = L ++ [a] := ⟨_, rfl⟩
  have MM := Lib.hid hM
  rw [← hM] at HM ⊢
  have DP := Lib.hid fun w => depth_any M (by rw [HM.out]; omega) w
  have E := Lib.hid (show chosen ((L.length : Int) + 1) 0 3 = 0 by unfold chosen; rw [if_neg (by omega)])
  rw [show (M.length : Int) = (L.length : Int) + 1 by rw [HM.out]; simp] at DP
  have HL := Lib.hid hl
  have wr0 : IntKind.i64.wrap ((L.length : Int) + 1 - 1) = (L.length : Int) := by rw [IntKind.wrap_i64]; omega
  have hI : (L.length : Int) < 16 := by omega
  have h0 : (0 : Int) ≤ (L.length : Int) := by omega
  clear hM
  have hz := zeroStkV
  have wr := Lib.hid wr0
  clear wr0
  go_enter Try.func7, Try.ntmps7
  go_upto_region 1 with fail
  have S := Lib.hid ((TB8.new w M).alloc (.cells (stkL []) 26))
  have R := Lib.hid (TB8.new (w.alloc (.cells (stkL M) 26)) [])
  have B := Lib.hid ((below_newT w (.cells (stkL M) 26)).alloc (by simp) (.cells (stkL []) 26))
  rw [World.size_alloc] at R
  generalize (w.alloc (.cells (stkL M) 26)).alloc (.cells (stkL []) 26) = w1 at *
  clear hz
  obtain ⟨r, hr⟩ : ∃ r, w.heap.size = r := ⟨_, rfl⟩
  have HR := Lib.hid hr
  rw [hr] at S R B ⊢
  clear hr
  refine wp_region_lit ?_
  refine list_load_all aggStk S.out (stkL_size _) rfl (.tmp 1) rfl (by simp [Act.eval]) ?_
  simp only [Act.put, List.setIfInBounds_toArray, List.set_cons_zero, List.set_cons_succ]
  have Z := Lib.hid (Nat.le_of_lt (Nat.lt_of_succ_lt R.out.lt))
  go_wp2_with fail
  refine (DP.out w1).mono ?_
  rintro e w2 ⟨rfl, b2⟩
  have S := Lib.hid (S.out.step b2)
  have R := Lib.hid (R.out.step b2)
  have B := Lib.hid (B.out.trans (b2.mono Z.out))
  have Z := Lib.hid (Nat.le_trans Z.out b2.size)
  clear b2
  go_wp2_with fail
  refine (errorAt_any 0 3 w2).mono ?_
  rintro e w3 ⟨rfl, hw3⟩
  have B3 := Lib.hid (show Below w2.heap.size w2 w3 by rw [hw3]; exact (below_newT _ _).alloc (by simp) _)
  have T := Lib.hid (show Two8 0 w2.heap.size 0 3 w3 by rw [hw3]; exact made8 _ _ _)
  clear hw3
  have S := Lib.hid (S.out.step B3.out)
  have R := Lib.hid (R.out.step B3.out)
  have B := Lib.hid (B.out.trans (B3.out.mono Z.out))
  have CH := Lib.hid (chosen_any ((L.length : Int) + 1) 0 3 w2.heap.size (w2.heap.size + 1) w3 T.out.c0 T.out.c1)
  rw [E.out] at CH
  clear T B3 Z
  go_wp2_with fail
  refine CH.out.mono ?_
  rintro e w4 ⟨rfl, rfl⟩
  clear CH
  go_upto_region 5 with fail
  have V := Lib.hid (show stF M L.length = a by rw [MM.out]; simp [stF])
  have c0 := S.out.cell HL.out
  rw [V.out] at c0
  have f0 := S.out.fz L.length
  have c1 := S.out.depth
  rw [HM.out] at c1
  have f1 := S.out.fz 16
  rw [MM.out] at S
  have S2 := Lib.hid (S.out.pop HL.out)
  have R2 := Lib.hid ((R.out.other (g := r) (by omega) L.length (.int .i64 0)).other (g := r) (by omega) 16 (.int .i64 (L.length : Int)))
  have B2 := Lib.hid ((B.out.setCell (p := ⟨r, L.length, none⟩) (Nat.le_refl _) (.int .i64 0)).setCell (p := ⟨r, 16, none⟩) (Nat.le_refl _) (.int .i64 (L.length : Int)))
  clear S R B
  have wr1 := wr.out
  go_upto_region 8 with fail
  clear c0 c1 f0 f1 wr1
  generalize (w3.setCell ⟨r, L.length, none⟩ (.int .i64 0)).setCell ⟨r, 16, none⟩ (.int .i64 (L.length : Int)) = w4 at *
  refine wp_region_lit ?_
  refine list_load_all aggStk S2.out (stkL_size _) rfl (.tmp 1) rfl (by simp [Act.eval]) ?_
  simp only [Act.put, List.setIfInBounds_toArray, List.set_cons_zero, List.set_cons_succ]
  iterate 3 go_step
  refine list_store_all (ds := stkL L) aggStk R2.out (stkL_size _) (stkL_size _) (stkL_one _) rfl (.tmp 2) (.tmp 29) rfl (by simp [Act.eval, Act.put]) (by simp [Act.eval, Act.put]) ?_
  have R3 := Lib.hid (R2.out.store L)
  have B3 := Lib.hid (belowRowT B2.out (Nat.le_succ r) (stkL L))
  generalize w4.setRow (r + 1) (stkL L) = w5 at *
  iterate 10 go_step
  exact bodyPost_ret (results_cell_slots8 rfl _ _ (r + 1) _ _ _ _ _ rfl rfl rfl R3.out aggStk (stkL_size _)) rfl ⟨rfl, by rw [HR.out]; exact B3.out⟩
end Go.Proofs.Ytbgdkhbembjjlaa
