/- Contracts of stack.List, of the law's list. -/
import Derived.Test.YtbgdkhbembjjlaaStk
import Derived.Test.YtbgdkhbembjjlaaAddrRef
namespace Go.Proofs.Ytbgdkhbembjjlaa
open Go.RowKit Num
set_option linter.unusedVariables false
set_option linter.unusedSimpArgs false
set_option maxRecDepth 100000

set_option maxHeartbeats 2000000 in
/-- slices.Clone of a slice of ints that is not nil. -/
theorem iclone_any (ad : Addr) (n c : Nat) (L : List Int) (w : World) (H : Row (Value.int .i64) w (some ad) L) (hn : L.length = n) (n1 : n ≤ 100000) :
    Calls Try.prog 17 #[.slice (some ad) n c] w (GivesInts L w) := by
  have qN : ∀ (w : World) (a : Option Addr) (n c n' c' : Nat), (binOp .eql 22 (.slice a n c) (.slice none n' c')).run Try.prog w = .ok (.bool a.isNone) w := fun w a n c n' c' => Lib.run_eql_slice_nil w _ _ a n c n' c' Try.underlying22
  have HL := Lib.hid (And.intro H (And.intro hn n1))
  clear H hn n1
  go_enter Try.func17, Try.ntmps17
  have Q := Lib.hid (And.intro (own_emptyI w) (below_newT w (.cells #[] 3)))
  go_wp2_with (first
    | (at_builtin; refine wpList_append_row elemInt one_i64 rfl (.tmp 5) (.tmp 6) rfl w.heap.size _ 0 [] rfl Q.out.1 (some ad) n c L rfl (HL.out.1.below Q.out.2) HL.out.2.1 (by have := HL.out.2.2; omega) (by decide) (by simp) ?_; intro v1 w1 o1 g1; have P1 := Lib.hid (And.intro o1 (Q.out.2.grown g1 (by simp) fun j ej => (Q.out.1.lt j ej).1)); clear o1 g1))
  go_ret
  obtain ⟨o1, b1⟩ := P1.out
  rw [Nat.zero_add, List.nil_append] at o1
  obtain ⟨A2, c2, e2⟩ := own_form o1
  subst e2
  exact ⟨⟨A2, c2, by rw [HL.out.2.1]; rfl, Row.of_own o1⟩, b1⟩

set_option maxHeartbeats 4000000 in
theorem stlist_any (L : List Int) (hl : L.length ≤ 16) (w : World) :
    Calls Try.prog 15 #[.agg (stkL L)] w (GivesInts L w) := by
  have DP := Lib.hid fun w => depth_any L hl w
  have HL := Lib.hid hl
  have hI : (L.length : Int) ≤ 16 := by omega
  have h0 : (0 : Int) ≤ (L.length : Int) := by omega
  go_enter Try.func15, Try.ntmps15
  go_upto_region 1 with fail
  have S := Lib.hid (TB8.new w L)
  have B := Lib.hid (below_newT w (.cells (stkL L) 26))
  generalize w.alloc (.cells (stkL L) 26) = w1 at *
  obtain ⟨r, hr⟩ : ∃ r, w.heap.size = r := ⟨_, rfl⟩
  have HR := Lib.hid hr
  rw [hr] at S B ⊢
  clear hr
  refine wp_region_lit ?_
  iterate 3 go_step
  refine list_load_all aggStk S.out (stkL_size _) rfl (.tmp 1) rfl (by simp [Act.eval]) ?_
  simp only [Act.put, List.setIfInBounds_toArray, List.set_cons_zero, List.set_cons_succ]
  have Z := Lib.hid (Nat.le_of_lt S.out.lt)
  go_wp2_with fail
  refine (DP.out w1).mono ?_
  rintro e w2 ⟨rfl, b2⟩
  have S := Lib.hid (S.out.step b2)
  have B := Lib.hid (B.out.trans (b2.mono Z.out))
  clear b2 Z
  go_wp2_with fail
  refine (iclone_any _ _ _ L w2 (S.out.row HL.out) rfl (by have := HL.out; omega)).mono ?_
  rintro e w3 ⟨⟨A, c, rfl, hrow⟩, b3⟩
  have R := Lib.hid hrow
  have B := Lib.hid (B.out.trans (b3.mono (by have := S.out.lt; omega)))
  clear hrow b3
  go_wp2_with fail
  go_ret
  exact ⟨⟨A, c, rfl, R.out⟩, by rw [HR.out]; exact B.out⟩

set_option maxHeartbeats 4000000 in
theorem list17_any (L : List Int) (hl : L.length ≤ 16) (w : World) :
    Calls Try.prog 12 #[.agg (stkL L)] w (GivesInts L w) := by
  have DP := Lib.hid fun w => stlist_any L hl w
  have hI : (L.length : Int) ≤ 16 := by omega
  have h0 : (0 : Int) ≤ (L.length : Int) := by omega
  have g1 : decide ((16 : Int) < (L.length : Int)) = false := by simp; omega
  clear hl
  go_enter Try.func12, Try.ntmps12
  go_upto_region 1 with fail
  have S := Lib.hid (TB8.new w L)
  have B := Lib.hid (below_newT w (.cells (stkL L) 26))
  generalize w.alloc (.cells (stkL L) 26) = w1 at *
  obtain ⟨r, hr⟩ : ∃ r, w.heap.size = r := ⟨_, rfl⟩
  have HR := Lib.hid hr
  rw [hr] at S B ⊢
  clear hr
  have c0 := S.out.depth
  go_upto_region 3 with fail
  refine wp_region_lit ?_
  refine list_load_all aggStk S.out (stkL_size _) rfl (.tmp 1) rfl (by simp [Act.eval]) ?_
  simp only [Act.put, List.setIfInBounds_toArray, List.set_cons_zero, List.set_cons_succ]
  have Z := Lib.hid (Nat.le_of_lt S.out.lt)
  clear c0
  go_wp2_with fail
  refine (DP.out w1).mono ?_
  rintro e w3 ⟨⟨A, c, rfl, hrow⟩, b3⟩
  have R := Lib.hid hrow
  have B := Lib.hid (B.out.trans (b3.mono Z.out))
  clear hrow b3
  go_wp2_with fail
  go_ret
  exact ⟨⟨A, c, rfl, R.out⟩, by rw [HR.out]; exact B.out⟩
end Go.Proofs.Ytbgdkhbembjjlaa
