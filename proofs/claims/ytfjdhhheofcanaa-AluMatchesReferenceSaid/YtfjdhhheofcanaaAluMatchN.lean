/- Stage 18: The walk of AluMatchesReference where the operands are out of range. -/
import Derived.Test.YtfjdhhheofcanaaAluMatchW
namespace Go.Proofs.Ytfjdhhheofcanaa
open Go.RowKit Num Dec Cpu
set_option linter.unusedVariables false
set_option linter.unusedSimpArgs false
set_option maxRecDepth 100000

set_option maxHeartbeats 8000000 in
theorem match18_no (S : AluSpec) (v : Nat → Nat) (i : Ins) (q : Pr) (b : Int) (w : World) (h : ¬ Right18 i) :
    Calls Try.prog 3 #[.agg (rg v), .agg (icells i), .agg (prc q), .int .u8 b] w fun e w' => e = .returned (.bool true) ∧ Below w.heap.size w w' := by
  have A0 := Lib.hid (awake18 S)
  have RT := Lib.hid (fun w => right18_no i w h)
  clear S h
  have hI : (icells i).size = 7 := rfl
  have hP : (prc q).size = 8 := rfl
  generalize icells i = I at *
  generalize prc q = P at *
  obtain ⟨v0, hv0⟩ : ∃ v0, v0 = w := ⟨_, rfl⟩
  subst hv0
  have BV := Lib.hid (Below.refl v0.heap.size v0)
  go_enter Try.func3, Try.ntmps3
  go_upto_region 0 with fail
  refine wp_region_lit ?_
  refine list_box_all rfl _ (.tmp 0) rfl (rg v) rfl ?_
  simp only [Act.put, List.setIfInBounds_toArray, List.set_cons_zero, List.set_cons_succ]
  have KV := Lib.hid (Blk.new v0 22 (rg v))
  have BA := below_newP v0 (.cells (rg v) 22)
  have BV := Lib.hid (BV.out.trans (BA.mono BV.out.size))
  clear BA
  obtain ⟨bKV, hq⟩ : ∃ q, v0.heap.size = q := ⟨_, rfl⟩
  generalize v0.alloc (.cells (rg v) 22) = w2 at *
  rw [hq] at KV ⊢
  clear hq
  refine list_box_all rfl _ (.tmp 1) rfl (I) rfl ?_
  simp only [Act.put, List.setIfInBounds_toArray, List.set_cons_zero, List.set_cons_succ]
  have KI := Lib.hid (Blk.new w2 24 (I))
  have BA := below_newP w2 (.cells (I) 24)
  have KV := Lib.hid (KV.out.step BA)
  have BV := Lib.hid (BV.out.trans (BA.mono BV.out.size))
  clear BA
  obtain ⟨bKI, hq⟩ : ∃ q, w2.heap.size = q := ⟨_, rfl⟩
  generalize w2.alloc (.cells (I) 24) = w3 at *
  rw [hq] at KI ⊢
  clear hq
  refine list_box_all rfl _ (.tmp 2) rfl (P) rfl ?_
  simp only [Act.put, List.setIfInBounds_toArray, List.set_cons_zero, List.set_cons_succ]
  have KP := Lib.hid (Blk.new w3 26 (P))
  have BA := below_newP w3 (.cells (P) 26)
  have KV := Lib.hid (KV.out.step BA)
  have KI := Lib.hid (KI.out.step BA)
  have BV := Lib.hid (BV.out.trans (BA.mono BV.out.size))
  clear BA
  obtain ⟨bKP, hq⟩ : ∃ q, w3.heap.size = q := ⟨_, rfl⟩
  generalize w3.alloc (.cells (P) 26) = w4 at *
  rw [hq] at KP ⊢
  clear hq
  go_upto_region 1 with fail
  have CI := Lib.hid (calm_blk KI.out)
  refine calm_plain ?_
  repeat (first
    | (refine quiet_load_all aggInstr CI.out hI ?_ (.tmp 5) ?_ ?_ ?_; (focus rfl); (focus rfl); (focus (simp [Act.eval]; done)); simp only [Act.put, List.setIfInBounds_toArray, List.set_cons_zero, List.set_cons_succ])
    | go_big_quiet_step ((first | (go_at_call 8; exact calm_call (A0.out _)) | (go_at_call 9; exact calm_call (RT.out _)))))
  refine wpQuiet_nil ?_
  intro _ hw'
  obtain ⟨u, rfl⟩ := hw'
  have b1 := u.below
  generalize u.w = w5 at *
  have KV := Lib.hid (KV.out.step b1)
  have KI := Lib.hid (KI.out.step b1)
  have KP := Lib.hid (KP.out.step b1)
  have BV := Lib.hid (BV.out.trans (b1.mono BV.out.size))
  clear b1
  clear CI RT KV KI KP
  go_wp2_with fail
  refine (A0.out _).mono ?_
  rintro e w6 ⟨rfl, b1⟩
  have BV := Lib.hid (BV.out.trans (b1.mono BV.out.size))
  clear b1
  go_wp2
  go_ret
  exact ⟨rfl, BV.out⟩
end Go.Proofs.Ytfjdhhheofcanaa
