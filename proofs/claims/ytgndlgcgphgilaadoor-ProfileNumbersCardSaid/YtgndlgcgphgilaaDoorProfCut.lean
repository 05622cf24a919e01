/- Contracts of strings.CutPrefix and of profile's parseLevel. -/
import Derived.Test.YtgndlgcgphgilaaDoorProfName
namespace Go.Proofs.YtgndlgcgphgilaaDoor
open Go.RowKit Num
set_option linter.unusedVariables false

/-- p is the beginning of s. -/
def preB (p s : ByteArray) : Bool := if p.size ≤ s.size then (s.extract 0 p.size).toList == p.toList else false
/-- s without p at its beginning. -/
def cutS (p s : ByteArray) : ByteArray := if preB p s then s.extract p.size s.size else s
theorem cutS_size (p s : ByteArray) : (cutS p s).size ≤ s.size := by
  unfold cutS
  split
  · simp
  · exact Nat.le_refl _

set_option maxHeartbeats 400000 in
theorem has_any (s p : ByteArray) (w : World) (hs : s.size ≤ maxLen) (hp : p.size ≤ 10) :
    Calls Tryd.prog 31 #[.string s, .string p] w fun e w' => e = .returned (.bool (preB p s)) ∧ w = w' := by
  unfold maxLen at hs
  by_cases h : p.size ≤ s.size
  all_goals
    go_enter Tryd.func31, Tryd.ntmps31
    go_wp2
    go_ret
    refine ⟨?_, rfl⟩
    unfold preB
    first | rw [if_pos h] | rw [if_neg h]
    rfl

set_option maxHeartbeats 400000 in
theorem cut_inner (s p : ByteArray) (w : World) (hs : s.size ≤ maxLen) (hp : p.size ≤ 10) :
    Calls Tryd.prog 30 #[.string s, .string p] w fun e w' => e = .returned (.tuple #[.string (cutS p s), .bool (preB p s)]) ∧ w = w' := by
  have hc := has_any s p w hs hp
  unfold maxLen at hs
  by_cases h : preB p s = true
  · have hle : p.size ≤ s.size := by
      unfold preB at h
      split at h
      · assumption
      · cases h
    have e : cutS p s = s.extract p.size s.size := by unfold cutS; rw [if_pos h]
    rw [e, h]
    rw [h] at hc
    have Hc := Lib.hid hc
    clear hc e h
    go_enter Tryd.func30, Tryd.ntmps30
    go_wp2_with fail
    refine Hc.out.mono ?_
    rintro e w' ⟨rfl, rfl⟩
    go_wp2
    go_ret2
    exact ⟨rfl, rfl⟩
  · have h : preB p s = false := by simpa using h
    have e : cutS p s = s := by unfold cutS; rw [h]; rfl
    rw [e, h]
    rw [h] at hc
    have Hc := Lib.hid hc
    clear hc e h
    go_enter Tryd.func30, Tryd.ntmps30
    go_wp2_with fail
    refine Hc.out.mono ?_
    rintro e w' ⟨rfl, rfl⟩
    go_wp2
    go_ret2
    exact ⟨rfl, rfl⟩

set_option maxHeartbeats 400000 in
theorem cut_any (s p : ByteArray) (w : World) (hs : s.size ≤ maxLen) (hp : p.size ≤ 10) :
    Calls Tryd.prog 22 #[.string s, .string p] w fun e w' => e = .returned (.tuple #[.string (cutS p s), .bool (preB p s)]) ∧ w = w' := by
  have Hc := Lib.hid (cut_inner s p w hs hp)
  go_enter Tryd.func22, Tryd.ntmps22
  go_wp2_with fail
  refine Hc.out.mono ?_
  rintro e w' ⟨rfl, rfl⟩
  go_wp2
  go_ret2
  exact ⟨rfl, rfl⟩

def c8 : ByteArray := ⟨#[99, 104, 105, 112, 56]⟩
def sc : ByteArray := ⟨#[115, 99, 104, 105, 112]⟩
def xo : ByteArray := ⟨#[120, 111, 99, 104, 105, 112]⟩
/-- The level whose word s begins with, or 0; and what follows. -/
def levOf (s : ByteArray) : Int := if preB c8 s then 1 else if preB sc s then 2 else if preB xo s then 3 else 0
def rest0 (s : ByteArray) : ByteArray := if preB c8 s then cutS c8 s else if preB sc s then cutS sc s else if preB xo s then cutS xo s else s

theorem words_at : (∀ w : World, (Instr.index 50 (.agg #[.string ⟨#[99, 104, 105, 112, 56]⟩, .string ⟨#[115, 99, 104, 105, 112]⟩, .string ⟨#[120, 111, 99, 104, 105, 112]⟩]) (.int .i64 0)).run Tryd.prog w = .ok (.string c8) w) ∧
    (∀ w : World, (Instr.index 50 (.agg #[.string ⟨#[99, 104, 105, 112, 56]⟩, .string ⟨#[115, 99, 104, 105, 112]⟩, .string ⟨#[120, 111, 99, 104, 105, 112]⟩]) (.int .i64 1)).run Tryd.prog w = .ok (.string sc) w) ∧
    (∀ w : World, (Instr.index 50 (.agg #[.string ⟨#[99, 104, 105, 112, 56]⟩, .string ⟨#[115, 99, 104, 105, 112]⟩, .string ⟨#[120, 111, 99, 104, 105, 112]⟩]) (.int .i64 2)).run Tryd.prog w = .ok (.string xo) w) :=
  ⟨fun _ => by kernel_rfl, fun _ => by kernel_rfl, fun _ => by kernel_rfl⟩

set_option maxHeartbeats 2000000 in
theorem level_any (s : ByteArray) (w : World) (hs : s.size ≤ maxLen) (hL : Laid w) :
    Calls Tryd.prog 21 #[.string s] w fun e w' => e = .returned (.tuple #[profV (levOf s) false false false false false false false, .string (rest0 s)]) ∧ Below w.heap.size w w' := by
  obtain ⟨i0, i1, i2⟩ := words_at
  obtain ⟨z0, g0, g1, g2⟩ := hL
  have H1 := Lib.hid fun w => cut_any s c8 w hs (by decide)
  have H2 := Lib.hid fun w => cut_any s sc w hs (by decide)
  have H3 := Lib.hid fun w => cut_any s xo w hs (by decide)
  clear hs
  by_cases h1 : preB c8 s = true
  · have e1 : levOf s = 1 := by unfold levOf; rw [h1]; rfl
    have e2 : rest0 s = cutS c8 s := by unfold rest0; rw [h1]; rfl
    rw [e1, e2]
    rw [h1] at H1
    clear h1 e1 e2
    go_enter Tryd.func21, Tryd.ntmps21
    go_wp2
    refine wp_loop_rounds 4 ?_
    rw [rounds_succ]
    go_wp2_with fail
    refine (H1.out _).mono ?_
    rintro e w' ⟨rfl, rfl⟩
    go_wp2
    go_returns
    exact ⟨rfl, by go_grown⟩
  · have h1 : preB c8 s = false := by simpa using h1
    by_cases h2 : preB sc s = true
    · have e1 : levOf s = 2 := by unfold levOf; rw [h1, h2]; rfl
      have e2 : rest0 s = cutS sc s := by unfold rest0; rw [h1, h2]; rfl
      rw [e1, e2]
      rw [h1] at H1
      rw [h2] at H2
      clear h1 h2 e1 e2
      go_enter Tryd.func21, Tryd.ntmps21
      go_wp2
      refine wp_loop_rounds 4 ?_
      rw [rounds_succ]
      go_wp2_with fail
      refine (H1.out _).mono ?_
      rintro e w' ⟨rfl, rfl⟩
      go_wp2
      rw [rounds_succ]
      go_wp2_with fail
      refine (H2.out _).mono ?_
      rintro e w' ⟨rfl, rfl⟩
      go_wp2
      go_returns
      exact ⟨rfl, by go_grown⟩
    · have h2 : preB sc s = false := by simpa using h2
      by_cases h3 : preB xo s = true
      · have e1 : levOf s = 3 := by unfold levOf; rw [h1, h2, h3]; rfl
        have e2 : rest0 s = cutS xo s := by unfold rest0; rw [h1, h2, h3]; rfl
        rw [e1, e2]
        rw [h1] at H1
        rw [h2] at H2
        rw [h3] at H3
        clear h1 h2 h3 e1 e2
        go_enter Tryd.func21, Tryd.ntmps21
        go_wp2
        refine wp_loop_rounds 4 ?_
        rw [rounds_succ]
        go_wp2_with fail
        refine (H1.out _).mono ?_
        rintro e w' ⟨rfl, rfl⟩
        go_wp2
        rw [rounds_succ]
        go_wp2_with fail
        refine (H2.out _).mono ?_
        rintro e w' ⟨rfl, rfl⟩
        go_wp2
        rw [rounds_succ]
        go_wp2_with fail
        refine (H3.out _).mono ?_
        rintro e w' ⟨rfl, rfl⟩
        go_wp2
        go_returns
        exact ⟨rfl, by go_grown⟩
      · have h3 : preB xo s = false := by simpa using h3
        have e1 : levOf s = 0 := by unfold levOf; rw [h1, h2, h3]; rfl
        have e2 : rest0 s = s := by unfold rest0; rw [h1, h2, h3]; rfl
        rw [e1, e2]
        rw [h1] at H1
        rw [h2] at H2
        rw [h3] at H3
        clear h1 h2 h3 e1 e2
        go_enter Tryd.func21, Tryd.ntmps21
        go_wp2
        refine wp_loop_rounds 4 ?_
        rw [rounds_succ]
        go_wp2_with fail
        refine (H1.out _).mono ?_
        rintro e w' ⟨rfl, rfl⟩
        go_wp2
        rw [rounds_succ]
        go_wp2_with fail
        refine (H2.out _).mono ?_
        rintro e w' ⟨rfl, rfl⟩
        go_wp2
        rw [rounds_succ]
        go_wp2_with fail
        refine (H3.out _).mono ?_
        rintro e w' ⟨rfl, rfl⟩
        go_wp2
        rw [rounds_succ]
        go_wp2
        go_returns
        exact ⟨rfl, by go_grown⟩
end Go.Proofs.YtgndlgcgphgilaaDoor
