/- AsmEncodes: the walk. -/
import Derived.Test.YthfiaemdpfffcaaDoorAsmAwake
import Derived.Test.YthfiaemdpfffcaaDoorDecRef6
import Derived.Lib.Hide
namespace Go.Proofs.YthfiaemdpfffcaaDoor
open Go.RowKit Num Dec
set_option linter.unusedVariables false
set_option linter.unusedSimpArgs false

/-- The bytes of a legal instruction, as they are read back. -/
theorem code_back {l : Int} {i : Ins} (h : Lg l i) : ∃ c0 c1 c2 c3 : Nat, c0 < 256 ∧ c1 < 256 ∧ c2 < 256 ∧ c3 < 256 ∧ atL (codeL i) 0 = (c0 : Int) ∧ atL (codeL i) 1 = (c1 : Int) ∧ atL (codeL i) 2 = (c2 : Int) ∧ atL (codeL i) 3 = (c3 : Int) ∧ dec c0 c1 c2 c3 l = i := by
  have hb := h.back
  have hr := h.rg
  have h48 := hb.2.2.2.2.1
  rcases hb.2.2.2.2.2.1 with e | e
  · refine ⟨encN i / 256, encN i % 256, 0, 0, by omega, by omega, by omega, by omega, ?_, ?_, ?_, ?_, hb.2.2.2.2.2.2 0 0 (by omega) (by omega) (fun c => by have := h48.1 c; omega)⟩
    all_goals (unfold atL codeL; rw [e]; rfl)
  · refine ⟨encN i / 256, encN i % 256, (i.addr / 256).toNat, (i.addr % 256).toNat, by omega, by omega, by omega, by omega, ?_, ?_, ?_, ?_, hb.2.2.2.2.2.2 _ _ (by omega) (by omega) (fun c => by omega)⟩
    · unfold atL codeL; rw [e]; rfl
    · unfold atL codeL; rw [e]; rfl
    · unfold atL codeL
      rw [e]
      show i.addr / 256 = _
      omega
    · unfold atL codeL
      rw [e]
      show i.addr % 256 = _
      omega

theorem lg_dec4 {b0 b1 b2 b3 : Nat} {l : Int} {i : Ins} (h0 : b0 < 256) (h1 : b1 < 256) (h2 : b2 < 256) (h3 : b3 < 256) (hi : dec b0 b1 b2 b3 l = i) (ho : i.op ≠ 0) : Lg l i := by
  refine ⟨b0, b1, b2, b3, h0, h1, h2, h3, ?_, hi⟩
  cases hk : ok b0 b1 l
  · rw [decNo hk] at hi
    rw [← hi] at ho
    exact absurd rfl ho
  · rfl
set_option maxRecDepth 100000 in
set_option maxHeartbeats 16000000 in
theorem asmEncodes_walk (o x y n nn a len l : Int) (w0 : (Lit.int .i64 o).wf = true) (w1 : (Lit.int .i64 x).wf = true) (w2 : (Lit.int .i64 y).wf = true) (w3 : (Lit.int .i64 n).wf = true) (w4 : (Lit.int .i64 nn).wf = true) (w5 : (Lit.int .i64 a).wf = true) (w6 : (Lit.int .i64 len).wf = true) (wl : (Lit.int .i64 l).wf = true) (W : World) (hL : AL W) :
    Calls Tryd.prog 4 #[.agg #[.int .i64 o, .int .i64 x, .int .i64 y, .int .i64 n, .int .i64 nn, .int .i64 a, .int .i64 len], .int .i64 l] W fun e w' => e = .returned (.bool true) ∧ Below W.heap.size W w' := by
  have HL := Lib.hid hL
  have AW := Lib.hid (fun w h => awake_any w h)
  have EC := Lib.hid (fun w h => encode_any ⟨o, x, y, n, nn, a, len⟩ l wl w h)
  have RD := Lib.hid (fun (c0 c1 c2 c3 : Nat) w => rdecode_any c0 c1 c2 c3 l w)
  unfold icells at EC
  simp only at EC
  have X1 := Lib.hid (Blk.new W 25 #[.int .i64 o, .int .i64 x, .int .i64 y, .int .i64 n, .int .i64 nn, .int .i64 a, .int .i64 len])
  have B1 := Lib.hid (below_new' W (.cells #[.int .i64 o, .int .i64 x, .int .i64 y, .int .i64 n, .int .i64 nn, .int .i64 a, .int .i64 len] 25))
  clear hL w0 w1 w2 w3 w4 w6
  go_enter Tryd.func4, Tryd.ntmps4
  go_wp2_with fail
  refine (AW.out _ (HL.out.step B1.out)).mono ?_
  rintro e v2 ⟨rfl, b2⟩
  have X2 := Lib.hid (X1.out.step b2)
  have B2 := Lib.hid (B1.out.trans (b2.mono B1.out.size))
  have l2 := X2.out.lt
  clear b2 X1 B1
  have x0 : v2.cell? ⟨W.heap.size, 0, none⟩ = some (.int .i64 o) := (X2.out.cell 0).trans rfl
  have x1 : v2.cell? ⟨W.heap.size, 1, none⟩ = some (.int .i64 x) := (X2.out.cell 1).trans rfl
  have x2 : v2.cell? ⟨W.heap.size, 2, none⟩ = some (.int .i64 y) := (X2.out.cell 2).trans rfl
  have x3 : v2.cell? ⟨W.heap.size, 3, none⟩ = some (.int .i64 n) := (X2.out.cell 3).trans rfl
  have x4 : v2.cell? ⟨W.heap.size, 4, none⟩ = some (.int .i64 nn) := (X2.out.cell 4).trans rfl
  have x5 : v2.cell? ⟨W.heap.size, 5, none⟩ = some (.int .i64 a) := (X2.out.cell 5).trans rfl
  have x6 : v2.cell? ⟨W.heap.size, 6, none⟩ = some (.int .i64 len) := (X2.out.cell 6).trans rfl
  go_wp2_with fail
  refine (EC.out _ (HL.out.step B2.out)).mono ?_
  clear x0 x1 x2 x3 x4 x5 x6 l2
  rintro e v3 (⟨hg, A, c, rfl, ho, b3⟩ | ⟨hn, rfl, b3⟩)
  · have X3 := Lib.hid (X2.out.step b3)
    have B3 := Lib.hid (B2.out.trans (b3.mono B2.out.size))
    have R3 := Lib.hid (Rd.of_row (Row.of_own ho))
    obtain ⟨c0, c1, c2, c3, h0, h1, h2, h3, a0, a1, a2, a3, hd⟩ := code_back hg
    have CL := hg.codeLen
    have rg := hg.rg.1
    obtain ⟨cl, hcl⟩ : ∃ cl, (codeL ⟨o, x, y, n, nn, a, len⟩).length = cl := ⟨_, rfl⟩
    have AT := Lib.hid (fun (k : Nat) (hk : k ≤ 100) (u : Calm v3) => at_any A cl c k (codeL ⟨o, x, y, n, nn, a, len⟩) u.w (R3.out.below u.below) hcl (by have := CL.2; simp only at this CL; omega) (by omega))
    rw [hcl] at CL ⊢
    obtain rfl : (cl : Int) = len := CL.1
    have AT0 := Lib.hid (fun u : Calm v3 => (show Calls Tryd.prog 14 #[.slice A cl c, .int .i64 0] u.w fun e w' => e = .returned (.int .u8 (c0 : Int)) ∧ u.w = w' from by have h := AT.out 0 (by decide) u; rw [a0] at h; exact h))
    have AT1 := Lib.hid (fun u : Calm v3 => (show Calls Tryd.prog 14 #[.slice A cl c, .int .i64 1] u.w fun e w' => e = .returned (.int .u8 (c1 : Int)) ∧ u.w = w' from by have h := AT.out 1 (by decide) u; rw [a1] at h; exact h))
    have AT2 := Lib.hid (fun u : Calm v3 => (show Calls Tryd.prog 14 #[.slice A cl c, .int .i64 2] u.w fun e w' => e = .returned (.int .u8 (c2 : Int)) ∧ u.w = w' from by have h := AT.out 2 (by decide) u; rw [a2] at h; exact h))
    have AT3 := Lib.hid (fun u : Calm v3 => (show Calls Tryd.prog 14 #[.slice A cl c, .int .i64 3] u.w fun e w' => e = .returned (.int .u8 (c3 : Int)) ∧ u.w = w' from by have h := AT.out 3 (by decide) u; rw [a3] at h; exact h))
    have RD := Lib.hid (fun w => RD.out c0 c1 c2 c3 w h0 h1 h2 h3)
    rw [hd] at RD
    unfold icells at RD
    simp only at RD rg
    have o0 : 0 < o := by omega
    clear b3 ho hg a0 a1 a2 a3 hd h0 h1 h2 h3 CL AT R3
    go_upto_region 5 with fail
    have k0 := Calm.cell ((X3.out.cell 0).trans rfl) X3.out.lt
    have k6 := Calm.cell ((X3.out.cell 6).trans rfl) X3.out.lt
    refine calm_region (by kernel_rfl) (by kernel_rfl) ?_
    iterate 12 (go_big_quiet_step (fail))
    go_big_quiet_step ((go_at_call 14; exact calm_same (AT0.out _)))
    go_big_quiet_step (fail)
    go_big_quiet_step ((go_at_call 14; exact calm_same (AT1.out _)))
    go_big_quiet_step (fail)
    go_big_quiet_step ((go_at_call 14; exact calm_same (AT2.out _)))
    go_big_quiet_step (fail)
    go_big_quiet_step ((go_at_call 14; exact calm_same (AT3.out _)))
    go_big_quiet_step (fail)
    go_big_quiet_step ((go_at_call 8; exact calm_call (RD.out _)))
    refine quiet_load_all aggInstr (fun w9 hw9 => by obtain ⟨u, rfl⟩ := hw9; exact X3.out.step u.below) rfl ?_ (.tmp 2) ?_ ?_ ?_
    · rfl
    · rfl
    · rfl
    simp only [Act.put, List.setIfInBounds_toArray, List.set_cons_zero, List.set_cons_succ]
    refine quiet_eqI ⟨o, x, y, n, nn, a, (cl : Int)⟩ ⟨o, x, y, n, nn, a, (cl : Int)⟩ (by rfl) (.tmp 38) (.tmp 39) 25 rfl rfl rfl ?_
    rw [insB_same]
    simp only [Act.put, List.setIfInBounds_toArray, List.set_cons_zero, List.set_cons_succ]
    repeat (go_big_quiet_step (fail))
    refine wpQuiet_nil ?_
    intro _ hw'
    obtain ⟨u, rfl⟩ := hw'
    have BB := Lib.hid (B3.out.trans (u.below.mono B3.out.size))
    go_wp2_with fail
    go_ret
    exact ⟨rfl, BB.out⟩
  · have X3 := Lib.hid (X2.out.step b3)
    have B3 := Lib.hid (B2.out.trans (b3.mono B2.out.size))
    have NL := Lib.hid hn
    clear b3 hn X2 B2
    go_wp2_with fail
    go_loopw [7] (fun v7 wr => ∃ k : Nat, k ≤ 65536 ∧ v7 = .int .i64 (k : Int) ∧ Below v3.heap.size v3 wr) (fun v7 _ => 65536 - (intOf v7).toNat)
    case atStart => exact ⟨0, Nat.zero_le _, rfl, Below.refl _ _⟩
    case round =>
      obtain ⟨k, hk, rfl, hb⟩ := hrel
      have HB := Lib.hid hb
      have XR := Lib.hid (X3.out.step hb)
      clear hb
      by_cases hlt : k < 65536
      · have hki : (k : Int) < 65536 := by omega
        have HK := Lib.hid hlt
        go_upto_region 11 with fail
        have k0 := Calm.cell ((XR.out.cell 0).trans rfl) XR.out.lt
        have k5 := Calm.cell ((XR.out.cell 5).trans rfl) XR.out.lt
        obtain ⟨J, hJ⟩ : ∃ J, dec (k / 256) (k % 256) (wrap64 (a.tdiv 256) % 256).toNat (a % 256).toNat l = J := ⟨_, rfl⟩
        have RK := Lib.hid (fun u : Calm wr => by
          have h := RD.out (k / 256) (k % 256) (wrap64 (a.tdiv 256) % 256).toNat (a % 256).toNat u.w (by omega) (by omega) (by omega) (by omega)
          rw [hJ, show ((k / 256 : Nat) : Int) = (k : Int) / 256 by omega, show ((k % 256 : Nat) : Int) = (k : Int) % 256 by omega, Int.toNat_of_nonneg (Int.emod_nonneg _ (by decide)), Int.toNat_of_nonneg (Int.emod_nonneg _ (by decide))] at h
          exact h)
        obtain ⟨jb, hjb⟩ : ∃ jb, insB J ⟨o, x, y, n, nn, a, len⟩ = jb := ⟨_, rfl⟩
        have NB := Lib.hid (show jb = true → ¬ 0 < o from fun h c => by
          have e : J = ⟨o, x, y, n, nn, a, len⟩ := by
            by_cases e : J = ⟨o, x, y, n, nn, a, len⟩
            · exact e
            · rw [insB_ne e] at hjb
              rw [← hjb] at h
              cases h
          rw [e] at hJ
          exact NL.out (lg_dec4 (by omega) (by omega) (by omega) (by omega) hJ (by simp only; omega)))
        have HJ := Lib.hid hjb
        clear hJ hjb
        refine calm_region (by kernel_rfl) (by kernel_rfl) ?_
        iterate 13 (go_big_quiet_step (fail))
        go_big_quiet_step ((go_at_call 8; exact calm_call (RK.out _)))
        refine quiet_load_all aggInstr (fun w9 hw9 => by obtain ⟨u, rfl⟩ := hw9; exact XR.out.step u.below) rfl ?_ (.tmp 2) ?_ ?_ ?_
        · rfl
        · rfl
        · rfl
        simp only [Act.put, List.setIfInBounds_toArray, List.set_cons_zero, List.set_cons_succ]
        refine quiet_eqI J ⟨o, x, y, n, nn, a, len⟩ (by rfl) (.tmp 66) (.tmp 67) 25 rfl rfl rfl ?_
        rw [HJ.out]
        simp only [Act.put, List.setIfInBounds_toArray, List.set_cons_zero, List.set_cons_succ]
        cases jb
        · repeat (go_big_quiet_step (fail))
          refine wpQuiet_nil ?_
          intro _ hw'
          obtain ⟨u, rfl⟩ := hw'
          have BB := Lib.hid (HB.out.trans (u.below.mono HB.out.size))
          go_wp2_with fail
          exact ⟨⟨k + 1, HK.out, rfl, BB.out⟩, by have := HK.out; simp [intOf]; omega⟩
        · have no := NB.out rfl
          repeat (go_big_quiet_step (fail))
          refine wpQuiet_nil ?_
          intro _ hw'
          obtain ⟨u, rfl⟩ := hw'
          have BB := Lib.hid (HB.out.trans (u.below.mono HB.out.size))
          go_wp2_with fail
          exact ⟨⟨k + 1, HK.out, rfl, BB.out⟩, by have := HK.out; simp [intOf]; omega⟩
      · have hk2 : ¬ (k : Int) < 65536 := by omega
        clear hlt hk
        go_wp2_with fail
        go_ret
        exact ⟨rfl, B3.out.trans (HB.out.mono B3.out.size)⟩
end Go.Proofs.YthfiaemdpfffcaaDoor
