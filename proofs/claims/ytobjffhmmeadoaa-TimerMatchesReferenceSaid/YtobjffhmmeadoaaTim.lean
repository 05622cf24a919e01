/- Contracts of package timer, and of its reference. -/
import Derived.Test.YtobjffhmmeadoaaTimNum
import Derived.Test.YtobjffhmmeadoaaNum
import Derived.Test.YtobjffhmmeadoaaTail
import Derived.Lib.MinMax
import Derived.Test.YtobjffhmmeadoaaRows
import Derived.Handy
import Derived.Below
namespace Go.Proofs.Ytobjffhmmeadoaa
open Go.RowKit Num
set_option linter.unusedVariables false

theorem still_of {f : FuncId} {args : Array Value} {v : Value} {w : World} (h : Calls Try.prog f args w fun e w' => e = .returned v ∧ w = w') : Calls Try.prog f args w fun e w' => e = .returned v ∧ w' = w :=
  h.mono fun _ _ ⟨he, hw⟩ => ⟨he, hw.symm⟩
set_option maxHeartbeats 1000000 in
theorem lower_any (v n : Int) (w : World) (h0 : 0 ≤ v) (h1 : v ≤ 255) (hn : n ≤ 9223372036854775807) :
    Calls Try.prog 14 #[.int .u8 v, .int .i64 n] w fun e w' => e = .returned (.int .u8 (lw v n)) ∧ w = w' := by
  by_cases c : n ≤ 0
  · clear hn
    have E := Lib.hid (lw_neg h0 c)
    go_enter Try.func14, Try.ntmps14
    go_wp2
    go_ret
    exact ⟨ret_int E.out, rfl⟩
  · by_cases d : v ≤ n
    · have E := Lib.hid (lw_big h0 d)
      go_enter Try.func14, Try.ntmps14
      go_wp2
      go_ret
      exact ⟨ret_int E.out, rfl⟩
    · have E := Lib.hid (lw_mid (by omega) (by omega : n < v))
      have n0 : 0 ≤ n := by omega
      have n1 : n ≤ 255 := by omega
      clear hn
      go_enter Try.func14, Try.ntmps14
      go_wp2
      go_ret
      exact ⟨ret_int E.out, rfl⟩
set_option maxHeartbeats 1000000 in
theorem rtick_any (v : Int) (w : World) (h0 : 0 ≤ v) (h1 : v ≤ 255) :
    Calls Try.prog 9 #[.int .u8 v] w fun e w' => e = .returned (.int .u8 (lw v 1)) ∧ w = w' := by
  by_cases c : v = 0
  · subst c
    have E := Lib.hid (lw_big (v := 0) (n := 1) (by omega) (by omega))
    go_enter Try.func9, Try.ntmps9
    go_wp2
    go_ret
    exact ⟨ret_int E.out, rfl⟩
  · have E := Lib.hid (show v - 1 = lw v 1 by unfold lw; omega)
    have v1 : 1 ≤ v := by omega
    go_enter Try.func9, Try.ntmps9
    go_wp2
    go_ret
    exact ⟨ret_int E.out, rfl⟩
theorem set_two {w : World} {b : Nat} {T : TypeId} {d s : Value} (u v : Value) (c0 : w.cell? ⟨b, 0, none⟩ = some d) (c1 : w.cell? ⟨b, 1, none⟩ = some s) :
    ((w.setCell ⟨b, 0, none⟩ u).setCell ⟨b, 1, none⟩ v).cell? ⟨b, 0, none⟩ = some u ∧ ((w.setCell ⟨b, 0, none⟩ u).setCell ⟨b, 1, none⟩ v).cell? ⟨b, 1, none⟩ = some v := by
  have h0 := World.cell?_setCell_same w (a := ⟨b, 0, none⟩) u c0
  have h1 := World.cell?_setCell_other w ⟨b, 0, none⟩ ⟨b, 1, none⟩ u (by intro c; cases c)
  exact ⟨(World.cell?_setCell_other _ ⟨b, 1, none⟩ ⟨b, 0, none⟩ v (by intro c; cases c)).trans h0, World.cell?_setCell_same _ (a := ⟨b, 1, none⟩) v (h1.trans c1)⟩
set_option maxHeartbeats 2000000 in
theorem after_any (d s n : Int) (w : World) (d0 : 0 ≤ d) (d1 : d ≤ 255) (s0 : 0 ≤ s) (s1 : s ≤ 255) (hn : n ≤ 9223372036854775807) :
    Calls Try.prog 10 #[.agg #[.int .u8 d, .int .u8 s], .int .i64 n] w fun e w' => e = .returned (.agg #[.int .u8 (lw d n), .int .u8 (lw s n)]) ∧ Below w.heap.size w w' := by
  have HD := Lib.hid fun w => still_of (lower_any d n w d0 d1 hn)
  have HS := Lib.hid fun w => still_of (lower_any s n w s0 s1 hn)
  clear hn
  generalize lw d n = u at *
  generalize lw s n = v at *
  go_enter Try.func10, Try.ntmps10
  go_wp2_with fail
  refine tail_region 9 (by kernel_rfl) (by kernel_rfl) ?_
  intro wd hwd
  have k0 : wd.cell? ⟨w.heap.size, 0, none⟩ = some (.int .u8 d) := by rw [hwd]; simp
  have k1 : wd.cell? ⟨w.heap.size, 1, none⟩ = some (.int .u8 s) := by rw [hwd]; simp
  have c0 : wd.cell? ⟨w.heap.size + 1, 0, none⟩ = some (.int .u8 0) := by rw [hwd]; simp
  have c1 : wd.cell? ⟨w.heap.size + 1, 1, none⟩ = some (.int .u8 0) := by rw [hwd]; simp
  have f0 : wd.frozen? ⟨w.heap.size + 1, 0, none⟩ = false := by rw [hwd]; simp
  have f1 : wd.frozen? ⟨w.heap.size + 1, 1, none⟩ = false := by rw [hwd]; simp
  have kb : Below w.heap.size w wd := by rw [hwd]; go_grown
  clear hwd
  simp only [List.take_succ_cons, List.take_zero, List.drop_succ_cons, List.drop_zero]
  repeat still_step
  still_call (HD.out _)
  repeat still_step
  still_call (HS.out _)
  repeat still_step
  refine wpStill_nil ?_
  have X := Lib.hid (set_two (T := 0) (.int .u8 u) (.int .u8 v) c0 c1)
  have B := Lib.hid ((kb.setCell (p := ⟨w.heap.size + 1, 0, none⟩) (Nat.le_succ _) (.int .u8 u)).setCell (p := ⟨w.heap.size + 1, 1, none⟩) (Nat.le_succ _) (.int .u8 v))
  go_wp2
  generalize (wd.setCell ⟨w.heap.size + 1, 0, none⟩ (.int .u8 u)).setCell ⟨w.heap.size + 1, 1, none⟩ (.int .u8 v) = wz at *
  obtain ⟨x0, x1⟩ := X.out
  exact bodyPost_ret (v := .agg #[.int .u8 u, .int .u8 v]) (by simp [results, Try.results10, go_sem, x0, x1]) rfl ⟨rfl, B.out⟩
set_option maxHeartbeats 2000000 in
theorem tick_any (d s : Int) (w : World) (d0 : 0 ≤ d) (d1 : d ≤ 255) (s0 : 0 ≤ s) (s1 : s ≤ 255) :
    Calls Try.prog 8 #[.agg #[.int .u8 d, .int .u8 s]] w fun e w' => e = .returned (.agg #[.int .u8 (lw d 1), .int .u8 (lw s 1)]) ∧ Below w.heap.size w w' := by
  have HA := Lib.hid fun w => after_any d s 1 w d0 d1 s0 s1 (by omega)
  generalize lw d 1 = u at *
  generalize lw s 1 = v at *
  go_enter Try.func8, Try.ntmps8
  go_wp2_with fail
  refine (HA.out _).mono ?_
  rintro e w1 ⟨rfl, hb⟩
  have z := hb.size
  simp only [World.size_alloc] at z
  have c0 : w1.cell? ⟨w.heap.size + 1, 0, none⟩ = some (.int .u8 0) := (hb.cell (p := ⟨w.heap.size + 1, 0, none⟩) (by simp)).trans (by simp)
  have c1 : w1.cell? ⟨w.heap.size + 1, 1, none⟩ = some (.int .u8 0) := (hb.cell (p := ⟨w.heap.size + 1, 1, none⟩) (by simp)).trans (by simp)
  have f0 : w1.frozen? ⟨w.heap.size + 1, 0, none⟩ = false := (hb.frozen (p := ⟨w.heap.size + 1, 0, none⟩) (by simp)).trans (by simp)
  have f1 : w1.frozen? ⟨w.heap.size + 1, 1, none⟩ = false := (hb.frozen (p := ⟨w.heap.size + 1, 1, none⟩) (by simp)).trans (by simp)
  have kb : Below w.heap.size w w1 := (((Below.refl w.heap.size w).alloc (Nat.le_refl _) _).alloc (by simp) _).trans (hb.mono (by simp; omega))
  clear hb
  have X := Lib.hid (set_two (T := 0) (.int .u8 u) (.int .u8 v) c0 c1)
  have B := Lib.hid ((kb.setCell (p := ⟨w.heap.size + 1, 0, none⟩) (Nat.le_succ _) (.int .u8 u)).setCell (p := ⟨w.heap.size + 1, 1, none⟩) (Nat.le_succ _) (.int .u8 v))
  go_wp2
  generalize (w1.setCell ⟨w.heap.size + 1, 0, none⟩ (.int .u8 u)).setCell ⟨w.heap.size + 1, 1, none⟩ (.int .u8 v) = wz at *
  obtain ⟨x0, x1⟩ := X.out
  exact bodyPost_ret (v := .agg #[.int .u8 u, .int .u8 v]) (by simp [results, Try.results8, go_sem, x0, x1]) rfl ⟨rfl, B.out⟩
/-- Is the sound on? -/
def onB (s : Int) : Bool := !decide (s = 0)
theorem on_any (d s : Int) (w : World) :
    Calls Try.prog 12 #[.agg #[.int .u8 d, .int .u8 s]] w fun e w' => e = .returned (.bool (onB s)) ∧ Below w.heap.size w w' := by
  have E := Lib.hid (show (!decide (s = 0)) = onB s from rfl)
  go_enter Try.func12, Try.ntmps12
  go_wp2
  go_ret
  exact ⟨by rw [← E.out]; rfl, by go_grown⟩
theorem left_any (d s : Int) (w : World) (d0 : 0 ≤ d) (d1 : d ≤ 255) (s0 : 0 ≤ s) (s1 : s ≤ 255) :
    Calls Try.prog 13 #[.agg #[.int .u8 d, .int .u8 s]] w fun e w' => e = .returned (.int .i64 (max d s)) ∧ Below w.heap.size w w' := by
  have m0 : 0 ≤ max d s := by omega
  have m1 : max d s ≤ 255 := by omega
  go_enter Try.func13, Try.ntmps13
  go_wp2
  go_ret
  exact ⟨rfl, by go_grown⟩
set_option maxHeartbeats 2000000 in
theorem rafter_any (v n : Int) (w : World) (h0 : 0 ≤ v) (h1 : v ≤ 255) (hn : n ≤ 9223372036854775807) :
    Calls Try.prog 11 #[.int .u8 v, .int .i64 n] w fun e w' => e = .returned (.int .u8 (lw v n)) ∧ w = w' := by
  have HN := Lib.hid hn
  clear hn
  go_enter Try.func11, Try.ntmps11
  go_wp2
  go_loop [0, 5] (fun u i => ∃ k : Nat, (k : Int) ≤ v ∧ ((k : Int) ≤ n ∨ k = 0) ∧ i = .int .i64 k ∧ u = .int .u8 (v - k)) (fun _ i => (v - intOf i).toNat)
  case atStart => exact ⟨0, by omega, .inr rfl, rfl, by simp⟩
  case round =>
    obtain ⟨k, hk, hkn, rfl, rfl⟩ := hrel
    by_cases c : (k : Int) < n
    · by_cases d : 0 < v - (k : Int)
      · have T := Lib.hid fun w => rtick_any (v - k) w (by omega) (by omega)
        have E : lw (v - k) 1 = v - (k : Int) - 1 := by unfold lw; omega
        rw [E] at T
        clear E
        go_wp2_with (go_at_call 9; refine (T.out _).mono ?_; rintro e w' ⟨rfl, rfl⟩)
        go_round
        case rel => exact ⟨k + 1, by omega, .inl (by omega), by go_num, by rw [show v - (k : Int) - 1 = v - ((k + 1 : Nat) : Int) by omega]⟩
        case measure => simp [intOf]; omega
      · have E := Lib.hid (show v - (k : Int) = lw v n by unfold lw; omega)
        go_wp2
        go_ret
        exact ⟨ret_int E.out, rfl⟩
    · have E := Lib.hid (show v - (k : Int) = lw v n by unfold lw; omega)
      go_wp2
      go_ret
      exact ⟨ret_int E.out, rfl⟩
end Go.Proofs.Ytobjffhmmeadoaa
