/- The contract of 'awake' of layer 9. -/
import Derived.Test.YtdlomdkapepkbaaKeyAll
import Derived.Test.YtdlomdkapepkbaaKeyLow
import Derived.Test.YtdlomdkapepkbaaKeyRef
import Derived.Test.YtdlomdkapepkbaaPlain
namespace Go.Proofs.Ytdlomdkapepkbaa
open Go.RowKit Num
set_option linter.unusedVariables false
set_option linter.unusedSimpArgs false

def evs9 : List Ev := [⟨5, true⟩, ⟨5, false⟩, ⟨6, false⟩, ⟨16, true⟩, ⟨9, true⟩]
theorem rls9 : rls up evs9 = [5] := by decide +kernel
theorem dn25 : isDn (aft up evs9) 25 = true := by decide +kernel
theorem dn5 : isDn (aft up evs9) 5 = false := by decide +kernel
theorem dn7 : isDn (aft up evs9) (-7) = false := by decide +kernel
theorem low9 : low (aft up evs9) = 9 := by decide +kernel
theorem lowUp : low up = -1 := by decide +kernel

def cells9 : Array Value := #[.int .i64 5, .bool true, .int .i64 5, .bool false, .int .i64 6, .bool false, .int .i64 16, .bool true, .int .i64 9, .bool true]
theorem evs9_new (w : World) : Evs (w.alloc (.cells cells9 30)) (some ⟨w.heap.size, 0, none⟩) 5 evs9 :=
  ⟨rfl, by unfold maxLen; omega, fun i hi => by
    have B := Blk.new w 30 cells9
    have hi5 : i < 5 := hi
    refine ⟨w.heap.size, 0, rfl, by simp, ?_⟩
    rw [B.cell, B.cell]
    rcases (show i = 0 ∨ i = 1 ∨ i = 2 ∨ i = 3 ∨ i = 4 by omega) with rfl | rfl | rfl | rfl | rfl <;> exact ⟨rfl, rfl, by simp [Ev.ok, evs9]⟩⟩
set_option maxRecDepth 100000 in
set_option maxHeartbeats 4000000 in
theorem awake9 (w : World) : Calls Try.prog 7 #[] w fun e w' => e = .returned (.bool true) ∧ Below w.heap.size w w' := by
  obtain ⟨K, hK⟩ : ∃ K, K = aft up evs9 := ⟨_, rfl⟩
  have H25 := Lib.hid fun w => (hK ▸ dn25) ▸ isDown_any K 25 w (by omega)
  have H5 := Lib.hid fun w => (hK ▸ dn5) ▸ isDown_any K 5 w (by omega)
  have H7 := Lib.hid fun w => (hK ▸ dn7) ▸ isDown_any K (-7) w (by omega)
  have L9 := Lib.hid fun w => lowest_any K 9 (by rw [hK]; exact low9.symm) w
  have LU := Lib.hid fun w => lowest_any up (-1) lowUp.symm w
  have AL := Lib.hid fun A c w (h : Evs w A 5 evs9) => all_any up K [5] A 5 c evs9 w h (by omega) hK rls9.symm
  clear hK
  go_enter Try.func7, Try.ntmps7
  go_upto_region 1 with fail
  refine wp_region_lit ?_
  refine list_build_all (cs := kc up) rfl rfl (by simp [Act.eval]; exact built_pad) ?_
  simp only [Act.put, List.setIfInBounds_toArray, List.set_cons_zero, List.set_cons_succ]
  go_wp2_with fail
  have E0 := Lib.hid (evs9_new w)
  have B0 := Lib.hid (below_newK w (.cells cells9 30))
  unfold cells9 at E0 B0
  refine (AL.out _ _ _ E0.out).mono ?_
  rintro e w2 ⟨⟨A, c, rfl, hrow⟩, b1⟩
  have R := Lib.hid hrow
  have B := Lib.hid (B0.out.trans (b1.mono B0.out.size))
  clear hrow b1 AL E0 B0
  simp only []
  go_at_K
  iterate 10 go_step
  refine list_var_all (ds := kc K) aggPad zeroPad (kc_size _) (kc_size _) (kc_one _) rfl rfl rfl (.tmp 1) (.tmp 12) rfl (by simp [Act.eval, Act.put]) (by simp [Act.eval, Act.put]) ?_
  simp only [Act.put, List.setIfInBounds_toArray, List.set_cons_zero, List.set_cons_succ]
  have P := Lib.hid (KB.new w2 K)
  have BA := below_newK w2 (.cells (kc K) 26)
  have R := Lib.hid (R.out.below BA)
  have B := Lib.hid (B.out.trans (BA.mono B.out.size))
  clear BA
  obtain ⟨p, hp⟩ : ∃ p, w2.heap.size = p := ⟨_, rfl⟩
  generalize w2.alloc (.cells (kc K) 26) = w3 at *
  rw [hp] at P ⊢
  clear hp
  go_wp2_with fail
  have P := Lib.hid (P.out.step (below_newK w3 (.cells #[.int .i64 5] 3)))
  have RB := Lib.hid (show Row (Value.int .i64) (w3.alloc (.cells #[.int .i64 5] 3)) (some ⟨w3.heap.size, 0, none⟩) [5] from fun _ => ⟨w3.heap.size, 0, rfl, by simp, fun j hj => by
    have hj1 : j < 1 := hj
    obtain rfl : j = 0 := by omega
    exact (Blk.new w3 3 #[.int .i64 5]).cell 0⟩)
  have BA := below_newK w3 (.cells #[.int .i64 5] 3)
  have R := Lib.hid (R.out.below BA)
  have B := Lib.hid (B.out.trans (BA.mono B.out.size))
  clear BA
  generalize w3.alloc (.cells #[.int .i64 5] 3) = w4 at *
  refine (numbersK _ _ c 1 1 [5] w4 rfl (by omega) R.out RB.out).mono ?_
  rintro e w5 ⟨rfl, b5⟩
  have P := Lib.hid (P.out.step b5)
  have B := Lib.hid (B.out.trans (b5.mono B.out.size))
  clear b5 R RB
  simp only []
  go_at_K
  go_step
  have KP := Lib.hid (fun (w' : World) (hw : ∃ u : Calm w5, w' = u.w) => show KB p K w' by obtain ⟨u, rfl⟩ := hw; exact P.out.step u.below)
  refine list_of_quiet (C := fun w' => ∃ u : Calm w5, w' = u.w) _ _ _ ⟨⟨w5, Below.refl _ _⟩, rfl⟩ ?_
  repeat (first
    | (refine quiet_load_all aggPad KP.out (kc_size _) ?_ (.tmp 1) ?_ ?_ ?_; (focus rfl); (focus rfl); (focus (simp [Act.eval]; done)); simp only [Act.put, List.setIfInBounds_toArray, List.set_cons_zero, List.set_cons_succ])
    | (refine quiet_build_all (cs := kc up) ?_ ?_ ?_ ?_; (focus rfl); (focus rfl); (focus (simp [Act.eval]; exact built_pad)); simp only [Act.put, List.setIfInBounds_toArray, List.set_cons_zero, List.set_cons_succ])
    | go_big_quiet_step ((first
      | (go_at_call 15; (first | with_reducible exact calm_call (H25.out _) | with_reducible exact calm_call (H5.out _) | with_reducible exact calm_call (H7.out _)))
      | (go_at_call 14; (first | with_reducible exact calm_call (L9.out _) | exact calm_call (LU.out _))))))
  refine wpQuiet_nil ?_
  intro _ hw'
  obtain ⟨u, rfl⟩ := hw'
  have B := Lib.hid (B.out.trans (u.below.mono B.out.size))
  clear KP P
  iterate 3 go_step
  go_ret
  exact ⟨rfl, B.out⟩
end Go.Proofs.Ytdlomdkapepkbaa
