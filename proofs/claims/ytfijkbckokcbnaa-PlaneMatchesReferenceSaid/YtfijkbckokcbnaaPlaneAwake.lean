/- 'awake' of the law package of layer 7 returns true. -/
import Derived.Test.YtfijkbckokcbnaaPlaneLaw
namespace Go.Proofs.Ytfijkbckokcbnaa
open Go.RowKit Num
set_option linter.unusedVariables false
set_option linter.unusedSimpArgs false

/-- The planes of 'awake'. -/
def awS : Pl := spr (nth [128]) 1 8 63 31 64 32 true
def awA : Pl := drawn (fun _ => 0#128) awS
def awB : Pl := drawn awA awS
def awC : Pl := scroll awA (-63) (-31) 64 32
theorem aw_facts : hitB (fun _ => 0#128) awS = false ∧ hitB awA awS = true ∧ ((pcount awA : Nat) : Int) = 1 ∧ ((pcount awB : Nat) : Int) = 0 ∧ pget awA 63 31 = true ∧ pget awA 0 (-1) = false ∧ pget awA 63 64 = false ∧ pget awC 0 0 = true := by
  decide +kernel
theorem lowRes : Res false 64 32 := .inr ⟨rfl, rfl, rfl⟩
theorem slice16 (w : World) : Rd16 (w.alloc (.cells #[.int .u16 128] 54)) (some ⟨w.heap.size, 0, none⟩) [128] := fun _ =>
  ⟨_, rfl, by simp, fun j hj => by
    obtain rfl : j = 0 := by simp at hj; omega
    rw [show (⟨w.heap.size, 0, none⟩ : Addr).add 0 = ⟨w.heap.size, 0, none⟩ from rfl, World.cell?_alloc_at _ _ _ _ rfl]
    rfl⟩
set_option maxRecDepth 100000 in
set_option maxHeartbeats 4000000 in
theorem awake7 (w : World) : Calls Try.prog 9 #[] w fun e w' => e = .returned (.bool true) ∧ Below w.heap.size w w' := by
  obtain ⟨f1, f2, f3, f4, f5, f6, f7, f8⟩ := aw_facts
  have F1 := Lib.hid fun w => drW (Z := awA) rfl f1 w
  have F2 := Lib.hid fun w => drW (Z := awB) rfl f2 w
  have F3 := Lib.hid fun w => ctW f3 w
  have F4 := Lib.hid fun w => ctW f4 w
  have F5 := Lib.hid fun w => pxW f5 (by decide) (by decide) (by decide) (by decide) w
  have F6 := Lib.hid fun w => pxW f6 (by decide) (by decide) (by decide) (by decide) w
  have F7 := Lib.hid fun w => pxW f7 (by decide) (by decide) (by decide) (by decide) w
  have F8 := Lib.hid fun w => pxW f8 (by decide) (by decide) (by decide) (by decide) w
  have F9 := Lib.hid fun w => scW (A := awA) (Z := awC) lowRes rfl (by decide) (by decide) (by decide) (by decide) w
  clear f1 f2 f3 f4 f5 f6 f7 f8
  have hS : spr (nth [128]) 1 8 63 31 64 32 true = awS := rfl
  have HS := Lib.hid hS
  clear hS
  generalize awS = S at *
  generalize awA = PA at *
  generalize awB = PB at *
  generalize awC = PC at *
  go_enter Try.func9, Try.ntmps9
  go_wp2_with fail
  have BB := Lib.hid (below_new w (.cells #[.int .u16 128] 54))
  have R16 := Lib.hid (slice16 w)
  generalize w.alloc (.cells #[.int .u16 128] 54) = v0 at *
  refine (spW lowRes R16.out (by simp) rfl (by decide) (.inl rfl) (by decide) (by decide) rfl rfl rfl HS.out).mono ?_
  rintro e v1 ⟨rfl, b1⟩
  have BB := Lib.hid (BB.out.trans (b1.mono BB.out.size))
  clear b1
  simp only []
  go_at_K
  go_step
  refine list_var (A := S) rfl rfl rfl (.tmp 1) (.tmp 9) rfl (by simp [Act.eval, Act.put]) (by simp [Act.eval, Act.put]) ?_
  have A1 := Lib.hid (PBox.new v1 S 35)
  have BB := Lib.hid (BB.out.alloc BB.out.size (.cells (pcells S) 35))
  obtain ⟨q1, hq⟩ : ∃ q, v1.heap.size = q := ⟨_, rfl⟩
  generalize v1.alloc (.cells (pcells S) 35) = v2 at *
  rw [hq] at A1 ⊢
  clear hq
  go_upto_region 2 with fail
  refine wp_region_lit ?_
  refine list_build rfl rfl ?_
  refine list_plane A1.out rfl (.tmp 1) rfl (by simp [Act.eval, Act.put]) ?_
  go_wp2_with fail
  refine (F1.out _).mono ?_
  rintro e v3 ⟨rfl, b1⟩
  have A1 := Lib.hid (A1.out.step b1)
  have BB := Lib.hid (BB.out.trans (b1.mono BB.out.size))
  clear b1
  simp only []
  go_at_K
  go_step
  go_step
  go_step
  go_step
  go_step
  go_step
  go_step
  go_step
  go_step
  go_step
  refine list_var (A := PA) rfl rfl rfl (.tmp 2) (.tmp 14) rfl (by simp [Act.eval, Act.put]) (by simp [Act.eval, Act.put]) ?_
  have A2 := Lib.hid (PBox.new v3 PA 35)
  have A1 := Lib.hid (A1.out.alloc (.cells (pcells PA) 35))
  have BB := Lib.hid (BB.out.alloc BB.out.size (.cells (pcells PA) 35))
  obtain ⟨q2, hq⟩ : ∃ q, v3.heap.size = q := ⟨_, rfl⟩
  generalize v3.alloc (.cells (pcells PA) 35) = v4 at *
  rw [hq] at A2 ⊢
  clear hq
  go_upto_region 3 with fail
  refine wp_region_lit ?_
  refine list_plane A2.out rfl (.tmp 2) rfl (by simp [Act.eval, Act.put]) ?_
  refine list_plane A1.out rfl (.tmp 1) rfl (by simp [Act.eval, Act.put]) ?_
  go_wp2_with fail
  refine (F2.out _).mono ?_
  rintro e v5 ⟨rfl, b1⟩
  have A1 := Lib.hid (A1.out.step b1)
  have A2 := Lib.hid (A2.out.step b1)
  have BB := Lib.hid (BB.out.trans (b1.mono BB.out.size))
  clear b1
  simp only []
  go_at_K
  go_step
  go_step
  go_step
  go_step
  go_step
  go_step
  go_step
  go_step
  go_step
  go_step
  refine list_var (A := PB) rfl rfl rfl (.tmp 4) (.tmp 20) rfl (by simp [Act.eval, Act.put]) (by simp [Act.eval, Act.put]) ?_
  have A3 := Lib.hid (PBox.new v5 PB 35)
  have A1 := Lib.hid (A1.out.alloc (.cells (pcells PB) 35))
  have A2 := Lib.hid (A2.out.alloc (.cells (pcells PB) 35))
  have BB := Lib.hid (BB.out.alloc BB.out.size (.cells (pcells PB) 35))
  obtain ⟨q3, hq⟩ : ∃ q, v5.heap.size = q := ⟨_, rfl⟩
  generalize v5.alloc (.cells (pcells PB) 35) = v6 at *
  rw [hq] at A3 ⊢
  clear hq
  go_wp2_with fail
  refine (size_any lowRes _).mono ?_
  rintro e w' ⟨rfl, rfl⟩
  go_upto_region 5 with fail
  refine calm_plain ?_
  repeat (first
    | (refine quiet_plane A1.out ?_ (.tmp 1) rfl ?_ ?_; (focus rfl); (focus (simp [Act.eval]; done)); simp only [Act.put, List.setIfInBounds_toArray, List.set_cons_zero, List.set_cons_succ])
    | (refine quiet_plane A2.out ?_ (.tmp 2) rfl ?_ ?_; (focus rfl); (focus (simp [Act.eval]; done)); simp only [Act.put, List.setIfInBounds_toArray, List.set_cons_zero, List.set_cons_succ])
    | (refine quiet_plane A3.out ?_ (.tmp 4) rfl ?_ ?_; (focus rfl); (focus (simp [Act.eval]; done)); simp only [Act.put, List.setIfInBounds_toArray, List.set_cons_zero, List.set_cons_succ])
    | go_big_quiet_step ((first
      | (go_at_call_of 25 PA; exact calm_call (F3.out _))
      | (go_at_call_of 25 PB; exact calm_call (F4.out _))
      | (go_at_call_of 16 PC; exact calm_call (F8.out _))
      | (go_at_call 18; exact calm_call (F9.out _))
      | (go_at_call 16; with_reducible exact calm_call (F5.out _))
      | (go_at_call 16; with_reducible exact calm_call (F6.out _))
      | (go_at_call 16; with_reducible exact calm_call (F7.out _)))))
  refine wpQuiet_nil ?_
  intro _ hw'
  obtain ⟨x, rfl⟩ := hw'
  have A1 := Lib.hid (A1.out.step x.below)
  have A2 := Lib.hid (A2.out.step x.below)
  have A3 := Lib.hid (A3.out.step x.below)
  have BB := Lib.hid (BB.out.trans (x.below.mono BB.out.size))
  generalize x.w = v7 at *
  go_wp2
  go_ret
  exact ⟨rfl, BB.out⟩
end Go.Proofs.Ytfijkbckokcbnaa
