/- The contract of 'awake' of layer 11. -/
import Derived.Test.YtojgblpgbfpcbaaAudSil
import Derived.Test.YtojgblpgbfpcbaaAudOps
namespace Go.Proofs.Ytojgblpgbfpcbaa
open Go.RowKit Num
set_option linter.unusedVariables false
set_option linter.unusedSimpArgs false

/-- The pattern that begins with the byte 128. -/
def p128 : Nat → Int := pad [128]
theorem s128_0 : smp p128 0 = true := by decide +kernel
theorem s128_128 : smp p128 128 = true := by decide +kernel
theorem s128_neg : smp p128 (-128) = true := by decide +kernel
theorem s128_1 : smp p128 1 = false := by decide +kernel
theorem sil128 : sil p128 = false := by decide +kernel
theorem silZero : sil zeroP = true := by decide +kernel
theorem p128_0 : p128 0 = 128 := by decide +kernel
theorem eq_new : eqA zeroP zeroP 64 64 = true := by decide +kernel

set_option maxRecDepth 100000 in
set_option maxHeartbeats 4000000 in
theorem awake11 (w : World) : Calls Try.prog 7 #[] w fun e w' => e = .returned (.bool true) ∧ Below w.heap.size w w' := by
  have LD := Lib.hid fun (w : World) (g : Nat) (h : Blk g 5 #[.int .u8 128] w) => (show _ from load_any zeroP 64 (some ⟨g, 0, none⟩) 1 1 [128] w (fun _ => ⟨_, rfl, h.lt, fun j hj => by
    have hj1 : j < 1 := hj
    obtain rfl : j = 0 := by omega
    exact h.cell 0⟩) rfl : Calls Try.prog 9 #[.agg (ac zeroP 64), .slice (some ⟨g, 0, none⟩) 1 1] w fun e w' => e = .returned (.agg (ac p128 64)) ∧ Below w.heap.size w w')
  have S0 := Lib.hid fun w : World => s128_0 ▸ sample_any p128 64 0 w
  have S1 := Lib.hid fun w : World => s128_1 ▸ sample_any p128 64 1 w
  have SP := Lib.hid fun w : World => s128_128 ▸ sample_any p128 64 128 w
  have SN := Lib.hid fun w : World => s128_neg ▸ sample_any p128 64 (-128) w
  have SL := Lib.hid fun w : World => sil128 ▸ silent_any p128 64 w
  have SZ := Lib.hid fun w : World => silZero ▸ silent_any zeroP 64 w
  have TN := Lib.hid fun w : World => tune_any p128 64 7 w
  have P0 := p128_0
  generalize p128 = P at *
  go_enter Try.func7, Try.ntmps7
  go_wp2_with fail
  refine (new_any _).mono ?_
  rintro e w1 ⟨rfl, b1⟩
  have B := Lib.hid b1
  clear b1
  go_wp2_with fail
  have BN := Lib.hid (Blk.new w1 5 #[.int .u8 128])
  have B := Lib.hid (B.out.alloc B.out.size (.cells #[.int .u8 128] 5))
  generalize w1.alloc (.cells #[.int .u8 128] 5) = w2 at *
  refine (LD.out _ _ BN.out).mono ?_
  rintro e w3 ⟨rfl, b3⟩
  have B := Lib.hid (B.out.trans (b3.mono B.out.size))
  clear b3 BN LD
  simp only []
  go_at_K
  go_step
  refine list_var_all (ds := ac P 64) aggAud zeroAud (ac_size _ _) (ac_size _ _) (ac_one _ _) rfl rfl rfl (.tmp 1) (.tmp 4) rfl (by simp [Act.eval, Act.put]) (by simp [Act.eval, Act.put]) ?_
  simp only [Act.put, List.setIfInBounds_toArray, List.set_cons_zero, List.set_cons_succ]
  have A := Lib.hid (AB.new w3 P 64)
  have B := Lib.hid (B.out.trans ((below_new w3 (.cells (ac P 64) 26)).mono B.out.size))
  obtain ⟨b, hb⟩ : ∃ b, w3.heap.size = b := ⟨_, rfl⟩
  generalize w3.alloc (.cells (ac P 64) 26) = w4 at *
  rw [hb] at A ⊢
  clear hb
  go_upto_region 2 with fail
  have KA := Lib.hid A.out.calm
  have c0 := Calm.cell (W := w4) (by have h := A.out.cell (j := 0) (by omega); rw [P0] at h; exact h) A.out.lt
  have c16 := Calm.cell (W := w4) A.out.pitch A.out.lt
  refine calm_plain ?_
  repeat (first
    | (refine quiet_loadA KA.out ?_ (.tmp 1) ?_ ?_ ?_; (focus rfl); (focus rfl); (focus (simp [Act.eval]; done)); simp only [Act.put, List.setIfInBounds_toArray, List.set_cons_zero, List.set_cons_succ])
    | (refine quiet_litA ?_ ?_ ?_; (focus rfl); (focus rfl); simp only [Act.put, List.setIfInBounds_toArray, List.set_cons_zero, List.set_cons_succ])
    | (refine quiet_eqA (P := zeroP) (Q := zeroP) (p := 64) (q := 64) ?_ (.tmp 5) (.tmp 6) 26 ?_ ?_ ?_ ?_; (focus rfl); (focus rfl); (focus (simp [Act.eval]; done)); (focus (simp [Act.eval]; done)); rw [eq_new]; simp only [Act.put, List.setIfInBounds_toArray, List.set_cons_zero, List.set_cons_succ])
    | (refine quiet_pitchOf (P := P) (p := 7) ?_ (.tmp 47) ?_ ?_ ?_; (focus rfl); (focus rfl); (focus (simp [Act.eval]; done)); simp only [Act.put, List.setIfInBounds_toArray, List.set_cons_zero, List.set_cons_succ])
    | go_big_quiet_step ((first
      | (go_at_call 10; exact calm_call (new_any _))
      | (go_at_call 13; (first | with_reducible exact calm_call (S0.out _) | with_reducible exact calm_call (S1.out _) | with_reducible exact calm_call (SP.out _) | with_reducible exact calm_call (SN.out _)))
      | (go_at_call 15; (first | with_reducible exact calm_call (SL.out _) | with_reducible exact calm_call (SZ.out _)))
      | (go_at_call 8; exact calm_call (TN.out _)))))
  refine wpQuiet_nil ?_
  intro _ hw'
  obtain ⟨u, rfl⟩ := hw'
  have B := Lib.hid (B.out.trans (u.below.mono B.out.size))
  clear KA A c0 c16
  iterate 3 go_step
  go_ret
  exact ⟨rfl, B.out⟩
end Go.Proofs.Ytojgblpgbfpcbaa
