/- AsmInverse: the walk. -/
import Derived.Test.YthfiaemdpfffcaaDoorAsmWordsW
import Derived.Test.YthfiaemdpfffcaaDoorAsmParsesW
namespace Go.Proofs.YthfiaemdpfffcaaDoor
open Go.RowKit Num Dec
set_option linter.unusedVariables false
set_option linter.unusedSimpArgs false

theorem code_first {l : Int} {b0 b1 b2 b3 : Nat} (h0 : b0 < 256) (h1 : b1 < 256) (h2 : b2 < 256) (h3 : b3 < 256) {i : Ins} (hi : dec b0 b1 b2 b3 l = i) (hg : Lg l i) : codeL i = [(b0 : Int), b1, b2, b3].take i.len.toNat := by
  have hk : ok b0 b1 l = true := by
    cases hk : ok b0 b1 l
    · rw [decNo hk] at hi
      have := hg.rg.1.1
      rw [← hi] at this
      exact absurd this (by simp)
    · rfl
  have he := enc_dec (b2 := b2) (b3 := b3) h0 h1 hk
  rw [hi] at he
  have hb := hg.back
  unfold codeL
  rw [he, show (b0 * 256 + b1) / 256 = b0 by omega, show (b0 * 256 + b1) % 256 = b1 by omega]
  rcases hb.2.2.2.2.2.1 with e | e
  · rw [e]
    rfl
  · have h48 := hb.2.2.2.2.1.2 e
    have ha : i.addr = (b2 : Int) * 256 + b3 := by
      rcases dec_tail b0 b1 b2 b3 b2 b3 l h0 h1 with ⟨_, _, t, _⟩ | ⟨t, _⟩
      · rw [hi] at t
        exact t
      · rw [hi] at t
        exact absurd h48 t
    rw [ha, show ((b2 : Int) * 256 + b3) / 256 = b2 by omega, show ((b2 : Int) * 256 + b3) % 256 = b3 by omega]

set_option maxRecDepth 100000 in
set_option maxHeartbeats 16000000 in
theorem asmInverse_walk (b0 b1 b2 b3 : Nat) (l : Int) (h0 : b0 < 256) (h1 : b1 < 256) (h2 : b2 < 256) (h3 : b3 < 256) (wl : (Lit.int .u8 l).wf = true) (W : World) (hL : AL W) :
    Calls Tryd.prog 3 #[b4V b0 b1 b2 b3, .int .u8 l] W fun e w' => e = .returned (.bool true) ∧ Below W.heap.size W w' := by
  obtain ⟨u0, u1⟩ := bd_u8 wl
  obtain ⟨k, hk⟩ : ∃ k, 1 + l % 3 = k := ⟨_, rfl⟩
  have hk1 : 1 ≤ k := by omega
  have hk3 : k ≤ 3 := by omega
  have wk : (Lit.int .i64 k).wf = true := by simp [Lit.wf, IntKind.min, IntKind.max, IntKind.signed, IntKind.bits]; omega
  have HL := Lib.hid hL
  have AW := Lib.hid (fun w h => awake_any w h)
  have DI := Lib.hid (fun w => rdecode_any b0 b1 b2 b3 k w h0 h1 h2 h3)
  obtain ⟨i, hi⟩ : ∃ i, dec b0 b1 b2 b3 k = i := ⟨_, rfl⟩
  rw [hi] at DI
  have EC := Lib.hid (fun w h => encode_any i k wk w h)
  have LI := Lib.hid (fun ho => lg_dec h0 h1 h2 h3 hi ho)
  have CF := Lib.hid (fun hg => code_first h0 h1 h2 h3 hi hg)
  have PF := Lib.hid (fun (hg : Lg k i) w h => parseF_any (txtS i) k wk (by have := txt_size hg; omega) w h)
  have X1 := Lib.hid (Blk.new W 22 #[.int .u8 (b0 : Int), .int .u8 (b1 : Int), .int .u8 (b2 : Int), .int .u8 (b3 : Int)])
  have B1 := Lib.hid (below_new' W (.cells #[.int .u8 (b0 : Int), .int .u8 (b1 : Int), .int .u8 (b2 : Int), .int .u8 (b3 : Int)] 22))
  clear hi h0 h1 h2 h3 hL wl wk
  unfold b4V
  go_enter Tryd.func3, Tryd.ntmps3
  go_wp2_with fail
  refine (AW.out _ (HL.out.step B1.out)).mono ?_
  rintro e w2 ⟨rfl, bb⟩
  have X2 := Lib.hid (X1.out.step bb)
  have B2 := Lib.hid (B1.out.trans (bb.mono B1.out.size))
  have l2 := X2.out.lt
  clear bb X1 B1
  have c0 : w2.cell? ⟨W.heap.size, 0, none⟩ = some (.int .u8 (b0 : Int)) := (X2.out.cell 0).trans rfl
  have c1 : w2.cell? ⟨W.heap.size, 1, none⟩ = some (.int .u8 (b1 : Int)) := (X2.out.cell 1).trans rfl
  have c2 : w2.cell? ⟨W.heap.size, 2, none⟩ = some (.int .u8 (b2 : Int)) := (X2.out.cell 2).trans rfl
  have c3 : w2.cell? ⟨W.heap.size, 3, none⟩ = some (.int .u8 (b3 : Int)) := (X2.out.cell 3).trans rfl
  go_wp2_with fail
  try rw [hk]
  refine (DI.out _).mono ?_
  clear c0 c1 c2 c3 l2
  rintro e w3 ⟨rfl, bb⟩
  have X3 := Lib.hid (X2.out.step bb)
  have B3 := Lib.hid (B2.out.trans (bb.mono B2.out.size))
  clear bb X2 B2
  by_cases io : i.op = 0
  · have T3 := Lib.hid (fun w h => text_no (show ¬ Lg 3 i from fun hg => by have := hg.rg.1.1; omega) w h)
    have NL := Lib.hid (show ¬ Lg k i from fun hg => by have := hg.rg.1.1; omega)
    clear LI CF PF
    obtain ⟨o, x, y, n, nn, a, len⟩ := i
    simp only at io
    subst io
    unfold icells at EC T3 ⊢
    simp only at EC T3 ⊢
    have G4 := Lib.hid (Blk.new w3 25 #[.int .i64 0, .int .i64 x, .int .i64 y, .int .i64 n, .int .i64 nn, .int .i64 a, .int .i64 len])
    have B4 := Lib.hid (B3.out.alloc B3.out.size (.cells #[.int .i64 0, .int .i64 x, .int .i64 y, .int .i64 n, .int .i64 nn, .int .i64 a, .int .i64 len] 25))
    go_upto_region 5 with fail
    obtain ⟨g, hg⟩ : ∃ g, w3.heap.size = g := ⟨_, rfl⟩
    rw [hg] at G4 ⊢
    generalize World.alloc _ _ = w4 at G4 B4 ⊢
    clear hg
    have x0 : w4.cell? ⟨g, 0, none⟩ = some (.int .i64 0) := (G4.out.cell 0).trans rfl
    have x1 : w4.cell? ⟨g, 1, none⟩ = some (.int .i64 x) := (G4.out.cell 1).trans rfl
    have x2 : w4.cell? ⟨g, 2, none⟩ = some (.int .i64 y) := (G4.out.cell 2).trans rfl
    have x3 : w4.cell? ⟨g, 3, none⟩ = some (.int .i64 n) := (G4.out.cell 3).trans rfl
    have x4 : w4.cell? ⟨g, 4, none⟩ = some (.int .i64 nn) := (G4.out.cell 4).trans rfl
    have x5 : w4.cell? ⟨g, 5, none⟩ = some (.int .i64 a) := (G4.out.cell 5).trans rfl
    have x6 : w4.cell? ⟨g, 6, none⟩ = some (.int .i64 len) := (G4.out.cell 6).trans rfl
    go_wp2_with fail
    try rw [hk]
    refine (EC.out _ (HL.out.step B4.out)).mono ?_
    clear x0 x1 x2 x3 x4 x5 x6
    rintro e w5 (⟨hy, _⟩ | ⟨_, rfl, bb⟩)
    · exact absurd hy NL.out
    have G5 := Lib.hid (G4.out.step bb)
    have B5 := Lib.hid (B4.out.trans (bb.mono B4.out.size))
    have l5 := G5.out.lt
    clear bb
    have x0 : w5.cell? ⟨g, 0, none⟩ = some (.int .i64 0) := (G5.out.cell 0).trans rfl
    have x1 : w5.cell? ⟨g, 1, none⟩ = some (.int .i64 x) := (G5.out.cell 1).trans rfl
    have x2 : w5.cell? ⟨g, 2, none⟩ = some (.int .i64 y) := (G5.out.cell 2).trans rfl
    have x3 : w5.cell? ⟨g, 3, none⟩ = some (.int .i64 n) := (G5.out.cell 3).trans rfl
    have x4 : w5.cell? ⟨g, 4, none⟩ = some (.int .i64 nn) := (G5.out.cell 4).trans rfl
    have x5 : w5.cell? ⟨g, 5, none⟩ = some (.int .i64 a) := (G5.out.cell 5).trans rfl
    have x6 : w5.cell? ⟨g, 6, none⟩ = some (.int .i64 len) := (G5.out.cell 6).trans rfl
    go_wp2_with fail
    refine (T3.out _ (HL.out.step B5.out)).mono ?_
    clear x0 x1 x2 x3 x4 x5 x6 l5
    rintro e w6 ⟨rfl, bb⟩
    have B6 := Lib.hid (B5.out.trans (bb.mono B5.out.size))
    clear bb
    go_wp2_with fail
    go_ret
    exact ⟨rfl, B6.out⟩
  · have hg := LI.out io
    have LG := Lib.hid hg
    have TY := Lib.hid (fun w h => text_yes (hg.mono hk3 (by decide)) w h)
    have RT := Lib.hid (fun w => rtext_any hg w)
    have PF2 := Lib.hid (fun w h => PF.out hg w h)
    have PY := Lib.hid (fun e (h : ParF (txtS i).data.toList k e) => h.yes hg rfl)
    have CE := Lib.hid (CF.out hg)
    have hl := hg.codeLen
    have hl2 := hl.2
    have io : (i.op == 0) = false := by simpa using io
    clear PF
    generalize txtS i = S at TY RT PF2 PY
    clear LI CF hg
    obtain ⟨o, x, y, n, nn, a, len⟩ := i
    unfold icells at EC TY RT PY ⊢
    simp only at EC TY RT PY io hl2 hl CE ⊢
    have G4 := Lib.hid (Blk.new w3 25 #[.int .i64 o, .int .i64 x, .int .i64 y, .int .i64 n, .int .i64 nn, .int .i64 a, .int .i64 len])
    have X4 := Lib.hid (X3.out.alloc (.cells #[.int .i64 o, .int .i64 x, .int .i64 y, .int .i64 n, .int .i64 nn, .int .i64 a, .int .i64 len] 25))
    have B4 := Lib.hid (B3.out.alloc B3.out.size (.cells #[.int .i64 o, .int .i64 x, .int .i64 y, .int .i64 n, .int .i64 nn, .int .i64 a, .int .i64 len] 25))
    go_upto_region 5 with fail
    obtain ⟨g, hg⟩ : ∃ g, w3.heap.size = g := ⟨_, rfl⟩
    rw [hg] at G4 ⊢
    generalize World.alloc _ _ = w4 at G4 X4 B4 ⊢
    clear hg
    have x0 : w4.cell? ⟨g, 0, none⟩ = some (.int .i64 o) := (G4.out.cell 0).trans rfl
    have x1 : w4.cell? ⟨g, 1, none⟩ = some (.int .i64 x) := (G4.out.cell 1).trans rfl
    have x2 : w4.cell? ⟨g, 2, none⟩ = some (.int .i64 y) := (G4.out.cell 2).trans rfl
    have x3 : w4.cell? ⟨g, 3, none⟩ = some (.int .i64 n) := (G4.out.cell 3).trans rfl
    have x4 : w4.cell? ⟨g, 4, none⟩ = some (.int .i64 nn) := (G4.out.cell 4).trans rfl
    have x5 : w4.cell? ⟨g, 5, none⟩ = some (.int .i64 a) := (G4.out.cell 5).trans rfl
    have x6 : w4.cell? ⟨g, 6, none⟩ = some (.int .i64 len) := (G4.out.cell 6).trans rfl
    go_wp2_with fail
    try rw [hk]
    refine (EC.out _ (HL.out.step B4.out)).mono ?_
    clear x0 x1 x2 x3 x4 x5 x6
    rintro e w5 (⟨_, A, c, rfl, ho, bb⟩ | ⟨hn, _⟩)
    rotate_left
    · exact absurd LG.out hn
    have G5 := Lib.hid (G4.out.step bb)
    have X5 := Lib.hid (X4.out.step bb)
    have R5 := Lib.hid (Rd.of_row (Row.of_own ho))
    have B5 := Lib.hid (B4.out.trans (bb.mono B4.out.size))
    have l5 := G5.out.lt
    clear bb ho
    obtain ⟨CL, hCL⟩ : ∃ CL, codeL ⟨o, x, y, n, nn, a, len⟩ = CL := ⟨_, rfl⟩
    rw [hCL] at R5 hl CE ⊢
    obtain ⟨cl, hcl⟩ : ∃ cl, CL.length = cl := ⟨_, rfl⟩
    rw [hcl] at hl ⊢
    have HC := Lib.hid hcl
    clear hCL hcl
    obtain rfl : (cl : Int) = len := hl.1
    have x0 : w5.cell? ⟨g, 0, none⟩ = some (.int .i64 o) := (G5.out.cell 0).trans rfl
    have x1 : w5.cell? ⟨g, 1, none⟩ = some (.int .i64 x) := (G5.out.cell 1).trans rfl
    have x2 : w5.cell? ⟨g, 2, none⟩ = some (.int .i64 y) := (G5.out.cell 2).trans rfl
    have x3 : w5.cell? ⟨g, 3, none⟩ = some (.int .i64 n) := (G5.out.cell 3).trans rfl
    have x4 : w5.cell? ⟨g, 4, none⟩ = some (.int .i64 nn) := (G5.out.cell 4).trans rfl
    have x5 : w5.cell? ⟨g, 5, none⟩ = some (.int .i64 a) := (G5.out.cell 5).trans rfl
    have x6 : w5.cell? ⟨g, 6, none⟩ = some (.int .i64 (cl : Int)) := (G5.out.cell 6).trans rfl
    go_wp2_with fail
    refine (RT.out _).mono ?_
    clear x0 x1 x2 x3 x4 x5 x6 l5
    rintro e w6 ⟨rfl, bb⟩
    have G6 := Lib.hid (G5.out.step bb)
    have X6 := Lib.hid (X5.out.step bb)
    have R6 := Lib.hid (R5.out.below bb)
    have B6 := Lib.hid (B5.out.trans (bb.mono B5.out.size))
    clear bb
    go_wp2_with fail
    try rw [hk]
    refine (PF2.out _ (HL.out.step B6.out)).mono ?_
    rintro e w7 ⟨hp, bb⟩
    obtain rfl := PY.out e hp
    have G7 := Lib.hid (G6.out.step bb)
    have X7 := Lib.hid (X6.out.step bb)
    have R7 := Lib.hid (R6.out.below bb)
    have B7 := Lib.hid (B6.out.trans (bb.mono B6.out.size))
    clear bb hp PF2 PY
    have H8 := Lib.hid (Blk.new w7 25 #[.int .i64 o, .int .i64 x, .int .i64 y, .int .i64 n, .int .i64 nn, .int .i64 a, .int .i64 (cl : Int)])
    have b8 := below_new' w7 (.cells #[.int .i64 o, .int .i64 x, .int .i64 y, .int .i64 n, .int .i64 nn, .int .i64 a, .int .i64 (cl : Int)] 25)
    have G8 := Lib.hid (G7.out.step b8)
    have X8 := Lib.hid (X7.out.step b8)
    have R8 := Lib.hid (R7.out.below b8)
    have B8 := Lib.hid (B7.out.trans (b8.mono B7.out.size))
    clear b8
    go_upto_region 9 with fail
    obtain ⟨h, hh⟩ : ∃ h, w7.heap.size = h := ⟨_, rfl⟩
    rw [hh] at H8 ⊢
    generalize World.alloc _ _ = w8 at G8 X8 R8 B8 H8 ⊢
    clear hh G4 G5 G6 G7 X4 X5 X6 X7 R5 R6 R7 B4 B5 B6 B7
    have SA := Lib.hid (fun u : Calm w8 => same_eq A (some ⟨W.heap.size, 0, none⟩) c 4 cl CL u.w HC.out (by omega) (R8.out.below u.below) (fun _ => ⟨_, rfl, Nat.lt_of_lt_of_le X8.out.lt u.below.size, fun j hj => by
      have hj2 := hj
      rw [HC.out] at hj2
      have e : CL[j]? = ([(b0 : Int), b1, b2, b3].take cl)[j]? := by rw [CE.out]; rfl
      rw [List.getElem?_eq_getElem hj, List.getElem?_take, if_pos hj2] at e
      have h4 : j = 0 ∨ j = 1 ∨ j = 2 ∨ j = 3 := by omega
      have hx := X8.out.step u.below
      rcases h4 with rfl | rfl | rfl | rfl
      · refine (hx.cell 0).trans ?_; injection e with e; rw [e]; rfl
      · refine (hx.cell 1).trans ?_; injection e with e; rw [e]; rfl
      · refine (hx.cell 2).trans ?_; injection e with e; rw [e]; rfl
      · refine (hx.cell 3).trans ?_; injection e with e; rw [e]; rfl⟩))
    have TC := Lib.hid (fun u : Calm w8 => TY.out u.w (HL.out.step (B8.out.trans (u.below.mono B8.out.size))))
    have RC := Lib.hid (fun u : Calm w8 => RT.out u.w)
    have k6 := Calm.cell (b := g) (o := 6) (v := .int .i64 (cl : Int)) ((G8.out.cell 6).trans rfl) G8.out.lt
    have cl4 : (cl : Int) ≤ 4 := by omega
    have cl0 : 0 ≤ (cl : Int) := by omega
    clear TY RT
    refine calm_region (by kernel_rfl) (by kernel_rfl) ?_
    iterate 7 (go_big_quiet_step (fail))
    go_big_quiet_step ((go_at_call 13; exact calm_call (SA.out _)))
    iterate 2 (go_big_quiet_step (fail))
    refine quiet_load_all aggInstr (fun w9 hw9 => by obtain ⟨u, rfl⟩ := hw9; exact G8.out.step u.below) rfl ?_ (.tmp 6) ?_ ?_ ?_
    · rfl
    · rfl
    · rfl
    simp only [Act.put, List.setIfInBounds_toArray, List.set_cons_zero, List.set_cons_succ]
    go_big_quiet_step ((go_at_call 10; exact calm_call (TC.out _)))
    refine quiet_load_all aggInstr (fun w9 hw9 => by obtain ⟨u, rfl⟩ := hw9; exact G8.out.step u.below) rfl ?_ (.tmp 6) ?_ ?_ ?_
    · rfl
    · rfl
    · rfl
    simp only [Act.put, List.setIfInBounds_toArray, List.set_cons_zero, List.set_cons_succ]
    go_big_quiet_step ((go_at_call 12; exact calm_call (RC.out _)))
    iterate 3 (go_big_quiet_step (fail))
    refine quiet_load_all aggInstr (fun w9 hw9 => by obtain ⟨u, rfl⟩ := hw9; exact H8.out.step u.below) rfl ?_ (.tmp 9) ?_ ?_ ?_
    · rfl
    · rfl
    · rfl
    simp only [Act.put, List.setIfInBounds_toArray, List.set_cons_zero, List.set_cons_succ]
    refine quiet_load_all aggInstr (fun w9 hw9 => by obtain ⟨u, rfl⟩ := hw9; exact G8.out.step u.below) rfl ?_ (.tmp 6) ?_ ?_ ?_
    · rfl
    · rfl
    · rfl
    simp only [Act.put, List.setIfInBounds_toArray, List.set_cons_zero, List.set_cons_succ]
    refine quiet_eqI ⟨o, x, y, n, nn, a, (cl : Int)⟩ ⟨o, x, y, n, nn, a, (cl : Int)⟩ (by rfl) (.tmp 72) (.tmp 73) 25 rfl rfl rfl ?_
    rw [insB_same]
    simp only [Act.put, List.setIfInBounds_toArray, List.set_cons_zero, List.set_cons_succ]
    repeat (go_big_quiet_step (fail))
    refine wpQuiet_nil ?_
    intro _ hw'
    obtain ⟨u, rfl⟩ := hw'
    have BB := Lib.hid (B8.out.trans (u.below.mono B8.out.size))
    go_wp2_with fail
    go_ret
    exact ⟨by simp, BB.out⟩
end Go.Proofs.YthfiaemdpfffcaaDoor
