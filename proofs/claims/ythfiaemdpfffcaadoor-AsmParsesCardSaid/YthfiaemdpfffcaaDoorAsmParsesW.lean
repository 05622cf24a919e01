/- AsmParses: the walk. -/
import Derived.Test.YthfiaemdpfffcaaDoorAsmAwake
import Derived.Test.YthfiaemdpfffcaaDoorAsmText
import Derived.Lib.Hide
namespace Go.Proofs.YthfiaemdpfffcaaDoor
open Go.RowKit Num Dec
set_option linter.unusedVariables false
set_option linter.unusedSimpArgs false

theorem txtS_of {i : Ins} {s : ByteArray} (h : txtL i = s.data.toList) : txtS i = s := by
  unfold txtS
  rw [h]
theorem eq_zero (w : World) : (binOp .eql 25 (.agg #[.int .i64 0, .int .i64 0, .int .i64 0, .int .i64 0, .int .i64 0, .int .i64 0, .int .i64 0]) (.agg #[.int .i64 0, .int .i64 0, .int .i64 0, .int .i64 0, .int .i64 0, .int .i64 0, .int .i64 0])).run Tryd.prog w = .ok (.bool true) w := by
  have h := eql_ins ⟨0, 0, 0, 0, 0, 0, 0⟩ ⟨0, 0, 0, 0, 0, 0, 0⟩ w
  rw [insB_same] at h
  exact h

set_option maxRecDepth 100000 in
set_option maxHeartbeats 8000000 in
theorem asmParses_walk (s : ByteArray) (l : Int) (w0 : s.size ≤ maxLen) (w1 : (Lit.int .i64 l).wf = true) (W : World) (hL : AL W) :
    Calls Tryd.prog 5 #[.string s, .int .i64 l] W fun e w' => e = .returned (.bool true) ∧ Below W.heap.size W w' := by
  have HL := Lib.hid hL
  have AW := Lib.hid (fun w h => awake_any w h)
  have PF := Lib.hid (fun (hs : s.size ≤ 1000000) w h => parseF_any s l w1 hs w h)
  have EC := Lib.hid (fun i w h => encode_any i l w1 w h)
  clear hL w1
  by_cases hs : s.size ≤ 200
  · have PF := Lib.hid (PF.out (by omega))
    have hi : ¬ (200 : Int) < (s.size : Int) := by omega
    go_enter Tryd.func5, Tryd.ntmps5
    go_wp2_with fail
    refine (AW.out _ HL.out).mono ?_
    rintro e w2 ⟨rfl, b2⟩
    have B2 := Lib.hid b2
    clear b2
    go_wp2_with fail
    refine (PF.out _ (HL.out.step B2.out)).mono ?_
    rintro e w3 ⟨h, b3⟩
    have B3 := Lib.hid (B2.out.trans (b3.mono B2.out.size))
    clear b3
    rcases h with ⟨i, hg, ht, rfl⟩ | ⟨_, rfl⟩
    · have LG := Lib.hid hg
      have lv := hg.level
      have TY := Lib.hid (fun w h => text_yes (hg.mono lv.2 (by decide)) w h)
      have RT := Lib.hid (fun w => rtext_any hg w)
      rw [txtS_of ht] at TY RT
      have EC := Lib.hid (EC.out i)
      have rg := hg.rg
      have CL := Lib.hid hg.codeLen
      clear ht hg
      obtain ⟨o, x, y, n, nn, a, len⟩ := i
      unfold icells at TY RT EC ⊢
      simp only at TY RT EC CL rg ⊢
      have X4 := Lib.hid (Blk.new w3 25 #[.int .i64 o, .int .i64 x, .int .i64 y, .int .i64 n, .int .i64 nn, .int .i64 a, .int .i64 len])
      have B4 := Lib.hid (B3.out.alloc B3.out.size (.cells #[.int .i64 o, .int .i64 x, .int .i64 y, .int .i64 n, .int .i64 nn, .int .i64 a, .int .i64 len] 25))
      obtain ⟨g, hg⟩ : ∃ g, w3.heap.size = g := ⟨_, rfl⟩
      rw [hg] at X4
      go_upto_region 6 with fail
      try rw [hg]
      generalize World.alloc _ _ = w4 at X4 B4 ⊢
      clear hg
      have x0 : w4.cell? ⟨g, 0, none⟩ = some (.int .i64 o) := (X4.out.cell 0).trans rfl
      have x1 : w4.cell? ⟨g, 1, none⟩ = some (.int .i64 x) := (X4.out.cell 1).trans rfl
      have x2 : w4.cell? ⟨g, 2, none⟩ = some (.int .i64 y) := (X4.out.cell 2).trans rfl
      have x3 : w4.cell? ⟨g, 3, none⟩ = some (.int .i64 n) := (X4.out.cell 3).trans rfl
      have x4 : w4.cell? ⟨g, 4, none⟩ = some (.int .i64 nn) := (X4.out.cell 4).trans rfl
      have x5 : w4.cell? ⟨g, 5, none⟩ = some (.int .i64 a) := (X4.out.cell 5).trans rfl
      have x6 : w4.cell? ⟨g, 6, none⟩ = some (.int .i64 len) := (X4.out.cell 6).trans rfl
      go_wp2_with fail
      refine (EC.out _ (HL.out.step B4.out)).mono ?_
      clear x0 x1 x2 x3 x4 x5 x6
      rintro e w5 (⟨_, A2, c2, rfl, _, b5⟩ | ⟨hn, _⟩)
      rotate_left
      · exact absurd LG.out hn
      have X5 := Lib.hid (X4.out.step b5)
      have B5 := Lib.hid (B4.out.trans (b5.mono B4.out.size))
      clear b5
      obtain ⟨cl, hcl⟩ : ∃ cl, (codeL ⟨o, x, y, n, nn, a, len⟩).length = cl := ⟨_, rfl⟩
      rw [hcl] at CL ⊢
      obtain rfl : (cl : Int) = len := CL.out.1
      have l5 := X5.out.lt
      have x0 : w5.cell? ⟨g, 0, none⟩ = some (.int .i64 o) := (X5.out.cell 0).trans rfl
      have x1 : w5.cell? ⟨g, 1, none⟩ = some (.int .i64 x) := (X5.out.cell 1).trans rfl
      have x2 : w5.cell? ⟨g, 2, none⟩ = some (.int .i64 y) := (X5.out.cell 2).trans rfl
      have x3 : w5.cell? ⟨g, 3, none⟩ = some (.int .i64 n) := (X5.out.cell 3).trans rfl
      have x4 : w5.cell? ⟨g, 4, none⟩ = some (.int .i64 nn) := (X5.out.cell 4).trans rfl
      have x5 : w5.cell? ⟨g, 5, none⟩ = some (.int .i64 a) := (X5.out.cell 5).trans rfl
      have x6 : w5.cell? ⟨g, 6, none⟩ = some (.int .i64 (cl : Int)) := (X5.out.cell 6).trans rfl
      go_wp2_with fail
      refine (TY.out _ (HL.out.step B5.out)).mono ?_
      clear x0 x1 x2 x3 x4 x5 x6
      rintro e w6 ⟨rfl, b6⟩
      have X6 := Lib.hid (X5.out.step b6)
      have B6 := Lib.hid (B5.out.trans (b6.mono B5.out.size))
      clear b6
      have x0 : w6.cell? ⟨g, 0, none⟩ = some (.int .i64 o) := (X6.out.cell 0).trans rfl
      have x1 : w6.cell? ⟨g, 1, none⟩ = some (.int .i64 x) := (X6.out.cell 1).trans rfl
      have x2 : w6.cell? ⟨g, 2, none⟩ = some (.int .i64 y) := (X6.out.cell 2).trans rfl
      have x3 : w6.cell? ⟨g, 3, none⟩ = some (.int .i64 n) := (X6.out.cell 3).trans rfl
      have x4 : w6.cell? ⟨g, 4, none⟩ = some (.int .i64 nn) := (X6.out.cell 4).trans rfl
      have x5 : w6.cell? ⟨g, 5, none⟩ = some (.int .i64 a) := (X6.out.cell 5).trans rfl
      have x6 : w6.cell? ⟨g, 6, none⟩ = some (.int .i64 (cl : Int)) := (X6.out.cell 6).trans rfl
      have o1 : (1 : Int) ≤ o := rg.1.1
      have o2 : o ≤ 51 := rg.1.2
      go_wp2_with fail
      refine (RT.out _).mono ?_
      clear x0 x1 x2 x3 x4 x5 x6
      rintro e w7 ⟨rfl, b7⟩
      have B7 := Lib.hid (B6.out.trans (b7.mono B6.out.size))
      clear b7
      go_wp2_with fail
      go_ret
      exact ⟨rfl, B7.out⟩
    · unfold zeroI
      have hE := eq_zero
      have X4 := Lib.hid (Blk.new w3 25 #[.int .i64 0, .int .i64 0, .int .i64 0, .int .i64 0, .int .i64 0, .int .i64 0, .int .i64 0])
      have B4 := Lib.hid (B3.out.alloc B3.out.size (.cells #[.int .i64 0, .int .i64 0, .int .i64 0, .int .i64 0, .int .i64 0, .int .i64 0, .int .i64 0] 25))
      go_wp2_with fail
      go_ret
      exact ⟨rfl, B4.out⟩
  · have hi : (200 : Int) < (s.size : Int) := by omega
    go_enter Tryd.func5, Tryd.ntmps5
    go_wp2_with fail
    refine (AW.out _ HL.out).mono ?_
    rintro e w2 ⟨rfl, b2⟩
    have B2 := Lib.hid b2
    clear b2
    go_wp2_with fail
    refine (AW.out _ (HL.out.step B2.out)).mono ?_
    rintro e w3 ⟨rfl, b3⟩
    have B3 := Lib.hid (B2.out.trans (b3.mono B2.out.size))
    go_wp2_with fail
    go_ret
    exact ⟨rfl, B3.out⟩
end Go.Proofs.YthfiaemdpfffcaaDoor
