/- AsmWords: the walk. -/
import Derived.Test.YthfiaemdpfffcaaDoorAsmAwake
import Derived.Test.YthfiaemdpfffcaaDoorDecRef6
import Derived.Test.YthfiaemdpfffcaaDoorDecOpen
import Derived.Lib.Hide
namespace Go.Proofs.YthfiaemdpfffcaaDoor
open Go.RowKit Num Dec
set_option linter.unusedVariables false
set_option linter.unusedSimpArgs false

theorem lg_dec {b0 b1 b2 b3 : Nat} {l : Int} {i : Ins} (h0 : b0 < 256) (h1 : b1 < 256) (h2 : b2 < 256) (h3 : b3 < 256) (hi : dec b0 b1 b2 b3 l = i) (ho : i.op ≠ 0) : Lg l i := by
  refine ⟨b0, b1, b2, b3, h0, h1, h2, h3, ?_, hi⟩
  cases hk : ok b0 b1 l
  · rw [decNo hk] at hi
    rw [← hi] at ho
    exact absurd rfl ho
  · rfl
theorem txt_size {l : Int} {i : Ins} (h : Lg l i) : (txtS i).size ≤ 100 := by
  rw [← pre_all]
  exact pre_size i _ (by have := h.rg.1; omega)
theorem txt_list (i : Ins) : (txtS i).toList = txtL i := by
  rw [ByteArray.toList_eq]
  rfl
theorem txt_same {l m : Int} {i j : Ins} (hi : Lg l i) (hj : Lg m j) : ((txtS i).toList == (txtS j).toList) = insB i j := by
  rw [txt_list, txt_list]
  by_cases e : i = j
  · rw [e, insB_same]
    simp
  · rw [insB_ne e]
    exact beq_false_of_ne (fun h => e (txt_inj hi hj h))
theorem fst_same {l m : Int} {i j : Ins} (hi : Lg l i) (hj : Lg m j) : ((fstS (txtS i)).toList == (fstS (txtS j)).toList) = (i.op == j.op) := by
  have e : ∀ i : Ins, (fstS (txtS i)).toList = fstL (txtL i) := fun i => by
    rw [ByteArray.toList_eq]
    rfl
  rw [e, e]
  by_cases h : i.op = j.op
  · rw [(hi.fst_eq hj).2 h, h]
    simp
  · rw [beq_false_of_ne h]
    exact beq_false_of_ne (fun c => h ((hi.fst_eq hj).1 c))

set_option maxRecDepth 100000 in
set_option maxHeartbeats 16000000 in
theorem asmWords_walk (b0 b1 b2 b3 c0 c1 c2 c3 : Nat) (h0 : b0 < 256) (h1 : b1 < 256) (h2 : b2 < 256) (h3 : b3 < 256) (k0 : c0 < 256) (k1 : c1 < 256) (k2 : c2 < 256) (k3 : c3 < 256) (W : World) (hL : AL W) :
    Calls Tryd.prog 6 #[b4V b0 b1 b2 b3, b4V c0 c1 c2 c3] W fun e w' => e = .returned (.bool true) ∧ Below W.heap.size W w' := by
  have HL := Lib.hid hL
  have AW := Lib.hid (fun w h => awake_any w h)
  have DI := Lib.hid (fun w => rdecode_any b0 b1 b2 b3 3 w h0 h1 h2 h3)
  have DJ := Lib.hid (fun w => rdecode_any c0 c1 c2 c3 3 w k0 k1 k2 k3)
  obtain ⟨i, hi⟩ : ∃ i, dec b0 b1 b2 b3 3 = i := ⟨_, rfl⟩
  obtain ⟨j, hj⟩ : ∃ j, dec c0 c1 c2 c3 3 = j := ⟨_, rfl⟩
  rw [hi] at DI
  rw [hj] at DJ
  have LI := Lib.hid (fun ho => lg_dec h0 h1 h2 h3 hi ho)
  have LJ := Lib.hid (fun ho => lg_dec k0 k1 k2 k3 hj ho)
  clear hi hj h0 h1 h2 h3 k0 k1 k2 k3 hL
  have TF := Lib.hid (fun (hi : Lg 3 i) (hj : Lg 3 j) => And.intro (txt_same hi hj) (And.intro (fst_same hi hj) (And.intro (text_yes hi) (And.intro (text_yes hj) (And.intro (txt_size hi) (txt_size hj))))))
  generalize txtS i = S at TF
  generalize txtS j = T at TF
  have IE := Lib.hid (fun a b (h : insB i j = b) (hw : a = b) => h)
  obtain ⟨o, x, y, n, nn, a, len⟩ := i
  obtain ⟨o', x', y', n', nn', a', len'⟩ := j
  unfold icells at DI DJ TF
  simp only at DI DJ TF LI LJ
  unfold b4V
  by_cases io : o = 0
  · subst io
    clear TF
    go_enter Tryd.func6, Tryd.ntmps6
    have P1 := Lib.hid ((Blk.new W 22 #[.int .u8 (b0 : Int), .int .u8 (b1 : Int), .int .u8 (b2 : Int), .int .u8 (b3 : Int)]).alloc (.cells #[.int .u8 (c0 : Int), .int .u8 (c1 : Int), .int .u8 (c2 : Int), .int .u8 (c3 : Int)] 22))
    have Q1 := Lib.hid (show Blk (W.heap.size + 1) 22 #[.int .u8 (c0 : Int), .int .u8 (c1 : Int), .int .u8 (c2 : Int), .int .u8 (c3 : Int)] ((W.alloc (.cells #[.int .u8 (b0 : Int), .int .u8 (b1 : Int), .int .u8 (b2 : Int), .int .u8 (b3 : Int)] 22)).alloc (.cells #[.int .u8 (c0 : Int), .int .u8 (c1 : Int), .int .u8 (c2 : Int), .int .u8 (c3 : Int)] 22)) from by have := Blk.new (W.alloc (.cells #[.int .u8 (b0 : Int), .int .u8 (b1 : Int), .int .u8 (b2 : Int), .int .u8 (b3 : Int)] 22)) 22 #[.int .u8 (c0 : Int), .int .u8 (c1 : Int), .int .u8 (c2 : Int), .int .u8 (c3 : Int)]; simpa using this)
    have B1 := Lib.hid ((below_new' W (.cells #[.int .u8 (b0 : Int), .int .u8 (b1 : Int), .int .u8 (b2 : Int), .int .u8 (b3 : Int)] 22)).alloc (by simp) (.cells #[.int .u8 (c0 : Int), .int .u8 (c1 : Int), .int .u8 (c2 : Int), .int .u8 (c3 : Int)] 22))
    go_upto_region 1 with fail
    generalize World.alloc _ _ = w1 at P1 Q1 B1 ⊢
    have l1 := P1.out.lt
    have p0 : w1.cell? ⟨W.heap.size, 0, none⟩ = some (.int .u8 (b0 : Int)) := (P1.out.cell 0).trans rfl
    have p1 : w1.cell? ⟨W.heap.size, 1, none⟩ = some (.int .u8 (b1 : Int)) := (P1.out.cell 1).trans rfl
    have p2 : w1.cell? ⟨W.heap.size, 2, none⟩ = some (.int .u8 (b2 : Int)) := (P1.out.cell 2).trans rfl
    have p3 : w1.cell? ⟨W.heap.size, 3, none⟩ = some (.int .u8 (b3 : Int)) := (P1.out.cell 3).trans rfl
    go_wp2_with fail
    refine (DI.out _).mono ?_
    clear p0 p1 p2 p3 l1
    rintro e w2 ⟨rfl, b2'⟩
    have Q2 := Lib.hid (Q1.out.step b2')
    have B2 := Lib.hid (B1.out.trans (b2'.mono B1.out.size))
    clear b2'
    have X3 := Lib.hid (Blk.new w2 25 #[.int .i64 0, .int .i64 x, .int .i64 y, .int .i64 n, .int .i64 nn, .int .i64 a, .int .i64 len])
    have Q3 := Lib.hid (Q2.out.alloc (.cells #[.int .i64 0, .int .i64 x, .int .i64 y, .int .i64 n, .int .i64 nn, .int .i64 a, .int .i64 len] 25))
    have B3 := Lib.hid (B2.out.alloc B2.out.size (.cells #[.int .i64 0, .int .i64 x, .int .i64 y, .int .i64 n, .int .i64 nn, .int .i64 a, .int .i64 len] 25))
    obtain ⟨g, hg⟩ : ∃ g, w2.heap.size = g := ⟨_, rfl⟩
    rw [hg] at X3
    go_upto_region 2 with fail
    try rw [hg]
    generalize World.alloc _ _ = w3 at X3 Q3 B3 ⊢
    clear hg
    have l3 := Q3.out.lt
    have q0 : w3.cell? ⟨W.heap.size + 1, 0, none⟩ = some (.int .u8 (c0 : Int)) := (Q3.out.cell 0).trans rfl
    have q1 : w3.cell? ⟨W.heap.size + 1, 1, none⟩ = some (.int .u8 (c1 : Int)) := (Q3.out.cell 1).trans rfl
    have q2 : w3.cell? ⟨W.heap.size + 1, 2, none⟩ = some (.int .u8 (c2 : Int)) := (Q3.out.cell 2).trans rfl
    have q3 : w3.cell? ⟨W.heap.size + 1, 3, none⟩ = some (.int .u8 (c3 : Int)) := (Q3.out.cell 3).trans rfl
    go_wp2_with fail
    refine (DJ.out _).mono ?_
    clear q0 q1 q2 q3 l3
    rintro e w4 ⟨rfl, b4'⟩
    have X4 := Lib.hid (X3.out.step b4')
    have B4 := Lib.hid (B3.out.trans (b4'.mono B3.out.size))
    clear b4'
    have Y5 := Lib.hid (Blk.new w4 25 #[.int .i64 o', .int .i64 x', .int .i64 y', .int .i64 n', .int .i64 nn', .int .i64 a', .int .i64 len'])
    have X5 := Lib.hid (X4.out.alloc (.cells #[.int .i64 o', .int .i64 x', .int .i64 y', .int .i64 n', .int .i64 nn', .int .i64 a', .int .i64 len'] 25))
    have B5 := Lib.hid (B4.out.alloc B4.out.size (.cells #[.int .i64 o', .int .i64 x', .int .i64 y', .int .i64 n', .int .i64 nn', .int .i64 a', .int .i64 len'] 25))
    obtain ⟨h, hh⟩ : ∃ h, w4.heap.size = h := ⟨_, rfl⟩
    rw [hh] at Y5
    go_upto_region 3 with fail
    try rw [hh]
    generalize World.alloc _ _ = w5 at X5 Y5 B5 ⊢
    clear hh
    go_wp2_with fail
    refine (AW.out _ (HL.out.step B5.out)).mono ?_
    rintro e w6 ⟨rfl, b6⟩
    have X6 := Lib.hid (X5.out.step b6)
    have Y6 := Lib.hid (Y5.out.step b6)
    have B6 := Lib.hid (B5.out.trans (b6.mono B5.out.size))
    clear b6
    have lx := X6.out.lt
    have ly := Y6.out.lt
    have z0 : w6.cell? ⟨g, 0, none⟩ = some (.int .i64 0) := (X6.out.cell 0).trans rfl
    have v0 : w6.cell? ⟨h, 0, none⟩ = some (.int .i64 o') := (Y6.out.cell 0).trans rfl
    clear lx ly
    go_wp2_with fail
    refine (AW.out _ (HL.out.step B6.out)).mono ?_
    clear z0 v0
    rintro e w7 ⟨rfl, b7⟩
    have B7 := Lib.hid (B6.out.trans (b7.mono B6.out.size))
    clear b7
    go_wp2_with fail
    go_ret
    exact ⟨rfl, B7.out⟩
  by_cases jo : o' = 0
  · subst jo
    have n0 : (o == 0) = false := by simpa using io
    clear TF
    go_enter Tryd.func6, Tryd.ntmps6
    have P1 := Lib.hid ((Blk.new W 22 #[.int .u8 (b0 : Int), .int .u8 (b1 : Int), .int .u8 (b2 : Int), .int .u8 (b3 : Int)]).alloc (.cells #[.int .u8 (c0 : Int), .int .u8 (c1 : Int), .int .u8 (c2 : Int), .int .u8 (c3 : Int)] 22))
    have Q1 := Lib.hid (show Blk (W.heap.size + 1) 22 #[.int .u8 (c0 : Int), .int .u8 (c1 : Int), .int .u8 (c2 : Int), .int .u8 (c3 : Int)] ((W.alloc (.cells #[.int .u8 (b0 : Int), .int .u8 (b1 : Int), .int .u8 (b2 : Int), .int .u8 (b3 : Int)] 22)).alloc (.cells #[.int .u8 (c0 : Int), .int .u8 (c1 : Int), .int .u8 (c2 : Int), .int .u8 (c3 : Int)] 22)) from by have := Blk.new (W.alloc (.cells #[.int .u8 (b0 : Int), .int .u8 (b1 : Int), .int .u8 (b2 : Int), .int .u8 (b3 : Int)] 22)) 22 #[.int .u8 (c0 : Int), .int .u8 (c1 : Int), .int .u8 (c2 : Int), .int .u8 (c3 : Int)]; simpa using this)
    have B1 := Lib.hid ((below_new' W (.cells #[.int .u8 (b0 : Int), .int .u8 (b1 : Int), .int .u8 (b2 : Int), .int .u8 (b3 : Int)] 22)).alloc (by simp) (.cells #[.int .u8 (c0 : Int), .int .u8 (c1 : Int), .int .u8 (c2 : Int), .int .u8 (c3 : Int)] 22))
    go_upto_region 1 with fail
    generalize World.alloc _ _ = w1 at P1 Q1 B1 ⊢
    have l1 := P1.out.lt
    have p0 : w1.cell? ⟨W.heap.size, 0, none⟩ = some (.int .u8 (b0 : Int)) := (P1.out.cell 0).trans rfl
    have p1 : w1.cell? ⟨W.heap.size, 1, none⟩ = some (.int .u8 (b1 : Int)) := (P1.out.cell 1).trans rfl
    have p2 : w1.cell? ⟨W.heap.size, 2, none⟩ = some (.int .u8 (b2 : Int)) := (P1.out.cell 2).trans rfl
    have p3 : w1.cell? ⟨W.heap.size, 3, none⟩ = some (.int .u8 (b3 : Int)) := (P1.out.cell 3).trans rfl
    go_wp2_with fail
    refine (DI.out _).mono ?_
    clear p0 p1 p2 p3 l1
    rintro e w2 ⟨rfl, b2'⟩
    have Q2 := Lib.hid (Q1.out.step b2')
    have B2 := Lib.hid (B1.out.trans (b2'.mono B1.out.size))
    clear b2'
    have X3 := Lib.hid (Blk.new w2 25 #[.int .i64 o, .int .i64 x, .int .i64 y, .int .i64 n, .int .i64 nn, .int .i64 a, .int .i64 len])
    have Q3 := Lib.hid (Q2.out.alloc (.cells #[.int .i64 o, .int .i64 x, .int .i64 y, .int .i64 n, .int .i64 nn, .int .i64 a, .int .i64 len] 25))
    have B3 := Lib.hid (B2.out.alloc B2.out.size (.cells #[.int .i64 o, .int .i64 x, .int .i64 y, .int .i64 n, .int .i64 nn, .int .i64 a, .int .i64 len] 25))
    obtain ⟨g, hg⟩ : ∃ g, w2.heap.size = g := ⟨_, rfl⟩
    rw [hg] at X3
    go_upto_region 2 with fail
    try rw [hg]
    generalize World.alloc _ _ = w3 at X3 Q3 B3 ⊢
    clear hg
    have l3 := Q3.out.lt
    have q0 : w3.cell? ⟨W.heap.size + 1, 0, none⟩ = some (.int .u8 (c0 : Int)) := (Q3.out.cell 0).trans rfl
    have q1 : w3.cell? ⟨W.heap.size + 1, 1, none⟩ = some (.int .u8 (c1 : Int)) := (Q3.out.cell 1).trans rfl
    have q2 : w3.cell? ⟨W.heap.size + 1, 2, none⟩ = some (.int .u8 (c2 : Int)) := (Q3.out.cell 2).trans rfl
    have q3 : w3.cell? ⟨W.heap.size + 1, 3, none⟩ = some (.int .u8 (c3 : Int)) := (Q3.out.cell 3).trans rfl
    go_wp2_with fail
    refine (DJ.out _).mono ?_
    clear q0 q1 q2 q3 l3
    rintro e w4 ⟨rfl, b4'⟩
    have X4 := Lib.hid (X3.out.step b4')
    have B4 := Lib.hid (B3.out.trans (b4'.mono B3.out.size))
    clear b4'
    have Y5 := Lib.hid (Blk.new w4 25 #[.int .i64 0, .int .i64 x', .int .i64 y', .int .i64 n', .int .i64 nn', .int .i64 a', .int .i64 len'])
    have X5 := Lib.hid (X4.out.alloc (.cells #[.int .i64 0, .int .i64 x', .int .i64 y', .int .i64 n', .int .i64 nn', .int .i64 a', .int .i64 len'] 25))
    have B5 := Lib.hid (B4.out.alloc B4.out.size (.cells #[.int .i64 0, .int .i64 x', .int .i64 y', .int .i64 n', .int .i64 nn', .int .i64 a', .int .i64 len'] 25))
    obtain ⟨h, hh⟩ : ∃ h, w4.heap.size = h := ⟨_, rfl⟩
    rw [hh] at Y5
    go_upto_region 3 with fail
    try rw [hh]
    generalize World.alloc _ _ = w5 at X5 Y5 B5 ⊢
    clear hh
    go_wp2_with fail
    refine (AW.out _ (HL.out.step B5.out)).mono ?_
    rintro e w6 ⟨rfl, b6⟩
    have X6 := Lib.hid (X5.out.step b6)
    have Y6 := Lib.hid (Y5.out.step b6)
    have B6 := Lib.hid (B5.out.trans (b6.mono B5.out.size))
    clear b6
    have lx := X6.out.lt
    have ly := Y6.out.lt
    have z0 : w6.cell? ⟨g, 0, none⟩ = some (.int .i64 o) := (X6.out.cell 0).trans rfl
    have v0 : w6.cell? ⟨h, 0, none⟩ = some (.int .i64 0) := (Y6.out.cell 0).trans rfl
    clear lx ly
    go_wp2_with fail
    refine (AW.out _ (HL.out.step B6.out)).mono ?_
    clear z0 v0
    rintro e w7 ⟨rfl, b7⟩
    have B7 := Lib.hid (B6.out.trans (b7.mono B6.out.size))
    clear b7
    go_wp2_with fail
    go_ret
    exact ⟨rfl, B7.out⟩
  · have n0 : (o == 0) = false := by simpa using io
    have n1 : (o' == 0) = false := by simpa using jo
    have TF := Lib.hid (TF.out (LI.out io) (LJ.out jo))
    clear LI LJ IE
    go_enter Tryd.func6, Tryd.ntmps6
    have P1 := Lib.hid ((Blk.new W 22 #[.int .u8 (b0 : Int), .int .u8 (b1 : Int), .int .u8 (b2 : Int), .int .u8 (b3 : Int)]).alloc (.cells #[.int .u8 (c0 : Int), .int .u8 (c1 : Int), .int .u8 (c2 : Int), .int .u8 (c3 : Int)] 22))
    have Q1 := Lib.hid (show Blk (W.heap.size + 1) 22 #[.int .u8 (c0 : Int), .int .u8 (c1 : Int), .int .u8 (c2 : Int), .int .u8 (c3 : Int)] ((W.alloc (.cells #[.int .u8 (b0 : Int), .int .u8 (b1 : Int), .int .u8 (b2 : Int), .int .u8 (b3 : Int)] 22)).alloc (.cells #[.int .u8 (c0 : Int), .int .u8 (c1 : Int), .int .u8 (c2 : Int), .int .u8 (c3 : Int)] 22)) from by have := Blk.new (W.alloc (.cells #[.int .u8 (b0 : Int), .int .u8 (b1 : Int), .int .u8 (b2 : Int), .int .u8 (b3 : Int)] 22)) 22 #[.int .u8 (c0 : Int), .int .u8 (c1 : Int), .int .u8 (c2 : Int), .int .u8 (c3 : Int)]; simpa using this)
    have B1 := Lib.hid ((below_new' W (.cells #[.int .u8 (b0 : Int), .int .u8 (b1 : Int), .int .u8 (b2 : Int), .int .u8 (b3 : Int)] 22)).alloc (by simp) (.cells #[.int .u8 (c0 : Int), .int .u8 (c1 : Int), .int .u8 (c2 : Int), .int .u8 (c3 : Int)] 22))
    go_upto_region 1 with fail
    generalize World.alloc _ _ = w1 at P1 Q1 B1 ⊢
    have l1 := P1.out.lt
    have p0 : w1.cell? ⟨W.heap.size, 0, none⟩ = some (.int .u8 (b0 : Int)) := (P1.out.cell 0).trans rfl
    have p1 : w1.cell? ⟨W.heap.size, 1, none⟩ = some (.int .u8 (b1 : Int)) := (P1.out.cell 1).trans rfl
    have p2 : w1.cell? ⟨W.heap.size, 2, none⟩ = some (.int .u8 (b2 : Int)) := (P1.out.cell 2).trans rfl
    have p3 : w1.cell? ⟨W.heap.size, 3, none⟩ = some (.int .u8 (b3 : Int)) := (P1.out.cell 3).trans rfl
    go_wp2_with fail
    refine (DI.out _).mono ?_
    clear p0 p1 p2 p3 l1
    rintro e w2 ⟨rfl, b2'⟩
    have Q2 := Lib.hid (Q1.out.step b2')
    have B2 := Lib.hid (B1.out.trans (b2'.mono B1.out.size))
    clear b2'
    have X3 := Lib.hid (Blk.new w2 25 #[.int .i64 o, .int .i64 x, .int .i64 y, .int .i64 n, .int .i64 nn, .int .i64 a, .int .i64 len])
    have Q3 := Lib.hid (Q2.out.alloc (.cells #[.int .i64 o, .int .i64 x, .int .i64 y, .int .i64 n, .int .i64 nn, .int .i64 a, .int .i64 len] 25))
    have B3 := Lib.hid (B2.out.alloc B2.out.size (.cells #[.int .i64 o, .int .i64 x, .int .i64 y, .int .i64 n, .int .i64 nn, .int .i64 a, .int .i64 len] 25))
    obtain ⟨g, hg⟩ : ∃ g, w2.heap.size = g := ⟨_, rfl⟩
    rw [hg] at X3
    go_upto_region 2 with fail
    try rw [hg]
    generalize World.alloc _ _ = w3 at X3 Q3 B3 ⊢
    clear hg
    have l3 := Q3.out.lt
    have q0 : w3.cell? ⟨W.heap.size + 1, 0, none⟩ = some (.int .u8 (c0 : Int)) := (Q3.out.cell 0).trans rfl
    have q1 : w3.cell? ⟨W.heap.size + 1, 1, none⟩ = some (.int .u8 (c1 : Int)) := (Q3.out.cell 1).trans rfl
    have q2 : w3.cell? ⟨W.heap.size + 1, 2, none⟩ = some (.int .u8 (c2 : Int)) := (Q3.out.cell 2).trans rfl
    have q3 : w3.cell? ⟨W.heap.size + 1, 3, none⟩ = some (.int .u8 (c3 : Int)) := (Q3.out.cell 3).trans rfl
    go_wp2_with fail
    refine (DJ.out _).mono ?_
    clear q0 q1 q2 q3 l3
    rintro e w4 ⟨rfl, b4'⟩
    have X4 := Lib.hid (X3.out.step b4')
    have B4 := Lib.hid (B3.out.trans (b4'.mono B3.out.size))
    clear b4'
    have Y5 := Lib.hid (Blk.new w4 25 #[.int .i64 o', .int .i64 x', .int .i64 y', .int .i64 n', .int .i64 nn', .int .i64 a', .int .i64 len'])
    have X5 := Lib.hid (X4.out.alloc (.cells #[.int .i64 o', .int .i64 x', .int .i64 y', .int .i64 n', .int .i64 nn', .int .i64 a', .int .i64 len'] 25))
    have B5 := Lib.hid (B4.out.alloc B4.out.size (.cells #[.int .i64 o', .int .i64 x', .int .i64 y', .int .i64 n', .int .i64 nn', .int .i64 a', .int .i64 len'] 25))
    obtain ⟨h, hh⟩ : ∃ h, w4.heap.size = h := ⟨_, rfl⟩
    rw [hh] at Y5
    go_upto_region 3 with fail
    try rw [hh]
    generalize World.alloc _ _ = w5 at X5 Y5 B5 ⊢
    clear hh
    go_wp2_with fail
    refine (AW.out _ (HL.out.step B5.out)).mono ?_
    rintro e w6 ⟨rfl, b6⟩
    have X6 := Lib.hid (X5.out.step b6)
    have Y6 := Lib.hid (Y5.out.step b6)
    have B6 := Lib.hid (B5.out.trans (b6.mono B5.out.size))
    clear b6
    have lx := X6.out.lt
    have ly := Y6.out.lt
    have z0 : w6.cell? ⟨g, 0, none⟩ = some (.int .i64 o) := (X6.out.cell 0).trans rfl
    have v0 : w6.cell? ⟨h, 0, none⟩ = some (.int .i64 o') := (Y6.out.cell 0).trans rfl
    clear lx ly
    have xx0 : w6.cell? ⟨g, 0, none⟩ = some (.int .i64 o) := (X6.out.cell 0).trans rfl
    have x1 : w6.cell? ⟨g, 1, none⟩ = some (.int .i64 x) := (X6.out.cell 1).trans rfl
    have x2 : w6.cell? ⟨g, 2, none⟩ = some (.int .i64 y) := (X6.out.cell 2).trans rfl
    have x3 : w6.cell? ⟨g, 3, none⟩ = some (.int .i64 n) := (X6.out.cell 3).trans rfl
    have x4 : w6.cell? ⟨g, 4, none⟩ = some (.int .i64 nn) := (X6.out.cell 4).trans rfl
    have x5 : w6.cell? ⟨g, 5, none⟩ = some (.int .i64 a) := (X6.out.cell 5).trans rfl
    have x6 : w6.cell? ⟨g, 6, none⟩ = some (.int .i64 len) := (X6.out.cell 6).trans rfl
    go_wp2_with fail
    refine (TF.out.2.2.1 _ (HL.out.step B6.out)).mono ?_
    clear xx0 x1 x2 x3 x4 x5 x6 z0 v0
    rintro e w7 ⟨rfl, b7⟩
    have X7 := Lib.hid (X6.out.step b7)
    have Y7 := Lib.hid (Y6.out.step b7)
    have B7 := Lib.hid (B6.out.trans (b7.mono B6.out.size))
    clear b7
    have y0 : w7.cell? ⟨h, 0, none⟩ = some (.int .i64 o') := (Y7.out.cell 0).trans rfl
    have y1 : w7.cell? ⟨h, 1, none⟩ = some (.int .i64 x') := (Y7.out.cell 1).trans rfl
    have y2 : w7.cell? ⟨h, 2, none⟩ = some (.int .i64 y') := (Y7.out.cell 2).trans rfl
    have y3 : w7.cell? ⟨h, 3, none⟩ = some (.int .i64 n') := (Y7.out.cell 3).trans rfl
    have y4 : w7.cell? ⟨h, 4, none⟩ = some (.int .i64 nn') := (Y7.out.cell 4).trans rfl
    have y5 : w7.cell? ⟨h, 5, none⟩ = some (.int .i64 a') := (Y7.out.cell 5).trans rfl
    have y6 : w7.cell? ⟨h, 6, none⟩ = some (.int .i64 len') := (Y7.out.cell 6).trans rfl
    go_wp2_with fail
    refine (TF.out.2.2.2.1 _ (HL.out.step B7.out)).mono ?_
    clear y0 y1 y2 y3 y4 y5 y6
    rintro e w8 ⟨rfl, b8⟩
    have X8 := Lib.hid (X7.out.step b8)
    have Y8 := Lib.hid (Y7.out.step b8)
    have B8 := Lib.hid (B7.out.trans (b8.mono B7.out.size))
    clear b8
    have e1 := TF.out.1
    have e2 := TF.out.2.1
    obtain ⟨eb, heb⟩ : ∃ eb, insB ⟨o, x, y, n, nn, a, len⟩ ⟨o', x', y', n', nn', a', len'⟩ = eb := ⟨_, rfl⟩
    have HE := Lib.hid heb
    rw [heb] at e1
    obtain ⟨ob, hob⟩ : ∃ ob, (o == o') = ob := ⟨_, rfl⟩
    rw [hob] at e2
    have FS := Lib.hid (fun w => first_any S w (by have := TF.out.2.2.2.2.1; omega))
    have FT := Lib.hid (fun w => first_any T w (by have := TF.out.2.2.2.2.2; omega))
    generalize fstS S = US at FS e2
    generalize fstS T = UT at FT e2
    clear heb TF
    go_upto_region 7 with fail
    have kx := Calm.cell ((X8.out.cell 0).trans rfl) X8.out.lt
    have ky := Calm.cell ((Y8.out.cell 0).trans rfl) Y8.out.lt
    refine calm_region (by kernel_rfl) (by kernel_rfl) ?_
    iterate 3 (go_big_quiet_step (fail))
    refine quiet_load_all aggInstr (fun w9 hw9 => by obtain ⟨u, rfl⟩ := hw9; exact X8.out.step u.below) rfl ?_ (.tmp 5) ?_ ?_ ?_
    · rfl
    · rfl
    · rfl
    simp only [Act.put, List.setIfInBounds_toArray, List.set_cons_zero, List.set_cons_succ]
    refine quiet_load_all aggInstr (fun w9 hw9 => by obtain ⟨u, rfl⟩ := hw9; exact Y8.out.step u.below) rfl ?_ (.tmp 6) ?_ ?_ ?_
    · rfl
    · rfl
    · rfl
    simp only [Act.put, List.setIfInBounds_toArray, List.set_cons_zero, List.set_cons_succ]
    refine quiet_eqI ⟨o, x, y, n, nn, a, len⟩ ⟨o', x', y', n', nn', a', len'⟩ (by rfl) (.tmp 47) (.tmp 48) 25 rfl rfl rfl ?_
    rw [HE.out]
    simp only [Act.put, List.setIfInBounds_toArray, List.set_cons_zero, List.set_cons_succ]
    iterate 3 (go_big_quiet_step (fail))
    go_big_quiet_step ((go_at_call 15; with_reducible exact calm_same (FS.out _)))
    go_big_quiet_step (fail)
    go_big_quiet_step ((go_at_call 15; with_reducible exact calm_same (FT.out _)))
    repeat (go_big_quiet_step (fail))
    refine wpQuiet_nil ?_
    intro _ hw'
    obtain ⟨u, rfl⟩ := hw'
    have BB := Lib.hid (B8.out.trans (u.below.mono B8.out.size))
    go_wp2_with fail
    go_ret
    exact ⟨by simp, BB.out⟩
end Go.Proofs.YthfiaemdpfffcaaDoor
