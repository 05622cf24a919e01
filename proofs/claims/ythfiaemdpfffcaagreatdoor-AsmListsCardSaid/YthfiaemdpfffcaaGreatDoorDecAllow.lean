/- Whether a rule is allowed for a level. -/
import Derived.Test.YthfiaemdpfffcaaGreatDoorDecFind
import Derived.Test.YthfiaemdpfffcaaGreatDoorFlaAllow
namespace Go.Proofs.YthfiaemdpfffcaaGreatDoor
open Go.RowKit Num Dec
set_option linter.unusedVariables false
set_option linter.unusedSimpArgs false

theorem below_new' (w : World) (o : Obj) : Below w.heap.size w (w.alloc o) := (Below.refl _ _).alloc (Nat.le_refl _) o
theorem alw_flag {r : Rl} {l x : Int} (h : (r.op : Int) = 43 ∨ (r.op : Int) = 44) : alw r l x = allow l x := by
  unfold alw
  rw [show (r.op == 43 || r.op == 44) = true by simp; omega]
  rfl
theorem alw_plain {r : Rl} {l x : Int} (h : ¬ (r.op : Int) = 43) (h' : ¬ (r.op : Int) = 44) : alw r l x = (decide ((r.level : Int) ≤ l) && decide (l ≤ 3)) := by
  unfold alw
  rw [show (r.op == 43 || r.op == 44) = false by simp; omega]
  rfl

set_option maxRecDepth 100000 in
set_option maxHeartbeats 2000000 in
theorem allows_any (r : Rl) (l x : Int) (w : World) (hl : (Lit.int .i64 l).wf = true) : Calls Tryz.prog 51 #[.agg (rcs r), .int .i64 l, .int .i64 x] w fun e w' => e = .returned (.bool (alw r l x)) ∧ Below w.heap.size w w' := by
  have HL := Lib.hid hl
  clear hl
  obtain ⟨m, c, o, lv, p⟩ := r
  unfold rcs
  simp only
  by_cases h1 : (o : Int) = 43
  · have F := Lib.hid (alw_flag (r := ⟨m, c, o, lv, p⟩) (l := l) (x := x) (.inl h1))
    have h1' : ((o : Int) == 43) = true := by simpa using h1
    go_enter Tryz.func51, Tryz.ntmps51
    go_wp2_with fail
    refine (allowed_any l x _ HL.out).mono ?_
    rintro e w1 ⟨rfl, b1⟩
    have B1 := Lib.hid b1
    clear b1
    go_wp2_with fail
    go_ret
    exact ⟨by rw [F.out]; rfl, (below_new' _ _).trans (B1.out.mono (by simp))⟩
  · have h1' : ((o : Int) == 43) = false := by simpa using h1
    by_cases h2 : (o : Int) = 44
    · have F := Lib.hid (alw_flag (r := ⟨m, c, o, lv, p⟩) (l := l) (x := x) (.inr h2))
      have h2' : ((o : Int) == 44) = true := by simpa using h2
      go_enter Tryz.func51, Tryz.ntmps51
      go_wp2_with fail
      refine (allowed_any l x _ HL.out).mono ?_
      rintro e w1 ⟨rfl, b1⟩
      have B1 := Lib.hid b1
      clear b1
      go_wp2_with fail
      go_ret
      exact ⟨by rw [F.out]; rfl, (below_new' _ _).trans (B1.out.mono (by simp))⟩
    · have F := Lib.hid (alw_plain (r := ⟨m, c, o, lv, p⟩) (l := l) (x := x) h1 h2)
      have h2' : ((o : Int) == 44) = false := by simpa using h2
      by_cases h3 : (lv : Int) ≤ l
      · have h3' : decide ((lv : Int) ≤ l) = true := by simpa using h3
        go_enter Tryz.func51, Tryz.ntmps51
        go_wp2
        go_ret
        exact ⟨by rw [F.out, h3']; rfl, below_new' _ _⟩
      · have h3' : decide ((lv : Int) ≤ l) = false := by simpa using h3
        go_enter Tryz.func51, Tryz.ntmps51
        go_wp2
        go_ret
        exact ⟨by rw [F.out, h3']; rfl, below_new' _ _⟩
end Go.Proofs.YthfiaemdpfffcaaGreatDoor
