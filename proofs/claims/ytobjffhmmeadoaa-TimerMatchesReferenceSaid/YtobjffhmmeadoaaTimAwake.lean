/- 'awake' of the law package of layer 10 returns true. -/
import Derived.Test.YtobjffhmmeadoaaTim
import Derived.Test.YtobjffhmmeadoaaCalm
namespace Go.Proofs.Ytobjffhmmeadoaa
open Go.RowKit Num
set_option linter.unusedVariables false

/-- Block b is a variable of two timers. -/
def TB (b : Nat) (d s : Int) (w : World) : Prop := b < w.heap.size ∧ w.cell? ⟨b, 0, none⟩ = some (.int .u8 d) ∧ w.cell? ⟨b, 1, none⟩ = some (.int .u8 s)
theorem TB.new (w : World) (d s : Int) (T : TypeId) : TB w.heap.size d s (w.alloc (.cells #[.int .u8 d, .int .u8 s] T)) := ⟨by simp, by simp, by simp⟩
theorem TB.step {b : Nat} {d s : Int} {w w' : World} (h : TB b d s w) (hb : Below w.heap.size w w') : TB b d s w' :=
  ⟨Nat.lt_of_lt_of_le h.1 hb.size, (hb.cell (p := ⟨b, 0, none⟩) h.1).trans h.2.1, (hb.cell (p := ⟨b, 1, none⟩) h.1).trans h.2.2⟩
theorem TB.calm {b : Nat} {d s : Int} {w : World} (h : TB b d s w) : (∀ x : Calm w, x.w.cell? ⟨b, 0, none⟩ = some (.int .u8 d)) ∧ (∀ x : Calm w, x.w.cell? ⟨b, 1, none⟩ = some (.int .u8 s)) :=
  ⟨Calm.cell h.2.1 h.1, Calm.cell h.2.2 h.1⟩
theorem TB.set {b : Nat} {d s : Int} {w : World} (h : TB b d s w) (u v : Int) : TB b u v ((w.setCell ⟨b, 0, none⟩ (.int .u8 u)).setCell ⟨b, 1, none⟩ (.int .u8 v)) :=
  ⟨by simp [h.1], (set_two (T := 0) _ _ h.2.1 h.2.2).1, (set_two (T := 0) _ _ h.2.1 h.2.2).2⟩

set_option maxRecDepth 100000 in
set_option maxHeartbeats 4000000 in
theorem awake10 (w : World) : Calls Try.prog 7 #[] w fun e w' => e = .returned (.bool true) ∧ Below w.heap.size w w' := by
  have A3 := Lib.hid fun w => after_any 2 5 3 w (by omega) (by omega) (by omega) (by omega) (by omega)
  have A1 := Lib.hid fun w => after_any 2 5 (-1) w (by omega) (by omega) (by omega) (by omega) (by omega)
  have TK := Lib.hid fun w => tick_any 2 5 w (by omega) (by omega) (by omega) (by omega)
  have O1 := Lib.hid fun w => on_any 2 5 w
  have O0 := Lib.hid fun w => on_any 1 0 w
  have L5 := Lib.hid fun w => left_any 2 5 w (by omega) (by omega) (by omega) (by omega)
  rw [show lw 2 3 = 0 by decide, show lw 5 3 = 2 by decide] at A3
  rw [show lw 2 (-1) = 2 by decide, show lw 5 (-1) = 5 by decide] at A1
  rw [show lw 2 1 = 1 by decide, show lw 5 1 = 4 by decide] at TK
  rw [show onB 5 = true by decide] at O1
  rw [show onB 0 = false by decide] at O0
  rw [show max (2 : Int) 5 = 5 by decide] at L5
  go_enter Try.func7, Try.ntmps7
  go_wp2_with fail
  have P := Lib.hid (TB.new w 2 5 24)
  have B := Lib.hid ((Below.refl w.heap.size w).alloc (Nat.le_refl _) (.cells #[.int .u8 2, .int .u8 5] 24))
  generalize w.alloc (.cells #[.int .u8 2, .int .u8 5] 24) = w1 at *
  obtain ⟨k0, k1⟩ := P.out.calm
  refine calm_region (by kernel_rfl) (by kernel_rfl) ?_
  repeat (go_big_quiet_step ((first
    | (go_at_call 10; (first | with_reducible exact calm_call (A3.out _) | with_reducible exact calm_call (A1.out _)))
    | (go_at_call 8; exact calm_call (TK.out _))
    | (go_at_call 12; (first | with_reducible exact calm_call (O1.out _) | with_reducible exact calm_call (O0.out _)))
    | (go_at_call 13; exact calm_call (L5.out _)))))
  refine wpQuiet_nil ?_
  intro _ hw'
  obtain ⟨x, rfl⟩ := hw'
  have hb := x.below
  generalize x.w = w2 at *
  go_wp2_with fail
  go_ret
  exact ⟨rfl, B.out.trans (hb.mono B.out.size)⟩
end Go.Proofs.Ytobjffhmmeadoaa
