/- Contract of row.Sprite. -/
import Derived.Test.YtplmmfgmbfcjpaaPix2
import Derived.Test.YtplmmfgmbfcjpaaFork
namespace Go.Proofs.Ytplmmfgmbfcjpaa
open Go.RowKit Num
set_option linter.unusedVariables false
set_option linter.unusedSimpArgs false

/-- Worlds in which two variables hold these rows. -/
def Two (b c : Nat) (h l h' l' : BitVec 64) : Type := { w : World // Box b h l w ∧ Box c h' l' w }
def Two.w {b c : Nat} {h l h' l' : BitVec 64} (x : Two b c h l h' l') : World := x.1
theorem Two.left {b c : Nat} {h l h' l' : BitVec 64} (x : Two b c h l h' l') : Box b h l x.w := x.2.1
theorem Two.right {b c : Nat} {h l h' l' : BitVec 64} (x : Two b c h l h' l') : Box c h' l' x.w := x.2.2

set_option maxRecDepth 100000 in
set_option maxHeartbeats 4000000 in
theorem sprite_8_true (b x width : Int) (p m1 m2 i1 i2 : BitVec 64) (w : World) (hp : IntKind.u64.wrap (b * 72057594037927936) = (p.toNat : Int)) (b0 : 0 ≤ b) (b1 : b ≤ 65535) (x0 : 0 ≤ x) (x1 : x ≤ 128) (w0 : 0 ≤ width) (w1 : width ≤ 128)
    (em : firsts width = m1 ++ m2) (ei : shift (p ++ 0#64) x width = i1 ++ i2) :
    Calls Try.prog 58 #[.int .u16 b, .int .i64 8, .int .i64 x, .int .i64 width, .bool true] w fun e w' => e = .returned (.agg #[.int .u64 (i1.toNat : Int), .int .u64 (i2.toNat : Int)]) ∧ Below w.heap.size w w' := by
  have f1 := IntWalk.i64_in (x - width) (by omega)
  have O1 := Lib.hid (firsts_words em w0 w1)
  have O2 := Lib.hid fun w b X => shift_words p 0#64 x width i1 i2 ei w b m1 m2 em X (by omega) (by omega)
  clear em ei
  go_enter Try.func58, Try.ntmps58
  go_wp2_with fail
  clear hp
  have X10 : Box w.heap.size 0 0 ((w.alloc (.cells #[.int .u64 0, .int .u64 0] 26)).alloc (.cells #[.int .u64 (p.toNat : Int), .int .u64 0] 26)) := (Box.new w 0 0 26).alloc _
  have X11 : Box (w.heap.size + 1) p 0#64 ((w.alloc (.cells #[.int .u64 0, .int .u64 0] 26)).alloc (.cells #[.int .u64 (p.toNat : Int), .int .u64 0] 26)) := by
    have := Box.new (w.alloc (.cells #[.int .u64 0, .int .u64 0] 26)) p 0#64 26
    rw [World.size_alloc] at this
    exact this
  have BB := Lib.hid ((((Below.refl _ w).alloc (Nat.le_refl _) (.cells #[.int .u64 0, .int .u64 0] 26)).alloc (by simp) (.cells #[.int .u64 (p.toNat : Int), .int .u64 0] 26)))
  have s1 := Lib.hid X11.lt
  have X10 := Lib.hid X10
  have X11 := Lib.hid X11
  generalize (w.alloc (.cells #[.int .u64 0, .int .u64 0] 26)).alloc (.cells #[.int .u64 (p.toNat : Int), .int .u64 0] 26) = wa at *
  have c0 : ∀ x : Calm wa, x.w.cell? ⟨w.heap.size + 1, 0, none⟩ = some (.int .u64 (p.toNat : Int)) := fun x => X11.out.c0 ▸ x.below.cell (p := ⟨w.heap.size + 1, 0, none⟩) s1.out
  have c1 : ∀ x : Calm wa, x.w.cell? ⟨w.heap.size + 1, 1, none⟩ = some (.int .u64 0) := fun x => X11.out.c1 ▸ x.below.cell (p := ⟨w.heap.size + 1, 1, none⟩) s1.out
  refine wp_region_fork (C := fun w' => ∃ x : Calm wa, w' = x.w) (.fork [0, 1, 2] 3 (.fork [] 4 (.fork [] 5 (.call [] 6 (.call [] 7 (.last []))) 6 (.call [] 5 (.call [] 7 (.last [])))) 6 (.call [] 4 (.call [] 5 (.call [] 7 (.last []))))) 6 (.call [] 3 (.call [] 4 (.call [] 5 (.call [] 7 (.last [])))))) (by kernel_rfl) (by kernel_rfl) (fun _ _ d _ _ h => by cases d <;> exact h) ⟨⟨wa.drew, (Below.refl _ _).drew⟩, rfl⟩ ?_
  intro wd hwd
  have DD := Lib.hid (show Below wa.heap.size wa wd by rw [hwd]; exact (Below.refl _ _).drew)
  clear hwd
  refine forkT_fork (by simp only [opsAt, List.getElem?_toArray, List.getElem?_cons_succ, List.getElem?_cons_zero]; rfl) ?_
  repeat (go_big_quiet_step (fail))
  refine wpQuiet_nil ?_
  refine ⟨?_, ?_⟩
  · skip
    refine oneT_call (by rfl) (by rfl) ?_
    intro K hK
    go_wp2_with fail
    refine (O1.out _).mono ?_
    rintro e v1 ⟨rfl, b2⟩
    have DD := Lib.hid (DD.out.trans (b2.mono DD.out.size))
    clear b2
    simp only []
    refine hK _ _ ⟨⟨v1, DD.out⟩, rfl⟩ ?_
    clear hK K
    refine forkT_fork (by simp only [opsAt, List.getElem?_toArray, List.getElem?_cons_succ, List.getElem?_cons_zero]; rfl) ?_
    refine wpQuiet_nil ?_
    refine ⟨?_, ?_⟩
    · skip
      refine oneT_call (by rfl) (by rfl) ?_
      intro K hK
      go_wp2_with fail
      have MM := Lib.hid (Box.new v1 m1 m2 26)
      have DD := Lib.hid (DD.out.alloc DD.out.size (.cells #[.int .u64 (m1.toNat : Int), .int .u64 (m2.toNat : Int)] 26))
      refine hK _ _ ⟨⟨_, DD.out⟩, rfl⟩ ?_
      clear hK K
      generalize v1.alloc (.cells #[.int .u64 (m1.toNat : Int), .int .u64 (m2.toNat : Int)] 26) = v2 at *
      refine forkT_fork (by simp only [opsAt, List.getElem?_toArray, List.getElem?_cons_succ, List.getElem?_cons_zero]; rfl) ?_
      refine wpQuiet_nil ?_
      refine ⟨?_, ?_⟩
      · skip
        refine oneT_call (by rfl) (by rfl) ?_
        intro K hK
        go_wp2_with fail
        refine (O2.out _ _ MM.out).mono ?_
        rintro e v3 ⟨rfl, b2⟩
        have DD := Lib.hid (DD.out.trans (b2.mono DD.out.size))
        clear b2 MM
        simp only []
        refine hK _ _ ⟨⟨v3, DD.out⟩, rfl⟩ ?_
        clear hK K
        refine forkT_call (by simp only [opsAt, List.getElem?_toArray, List.getElem?_cons_succ, List.getElem?_cons_zero]; rfl) ?_
        refine wpQuiet_nil ?_
        refine oneT_call (by rfl) (by rfl) ?_
        intro K hK
        go_wp2_with fail
        have ZZ : Box v3.heap.size 0 0 (v3.alloc (.cells #[.int .u64 0, .int .u64 0] 26)) := Box.new v3 0 0 26
        have ZZ := Lib.hid ZZ
        have hz := Lib.hid DD.out.size
        have DD := Lib.hid (DD.out.alloc DD.out.size (.cells #[.int .u64 0, .int .u64 0] 26))
        refine hK _ _ ⟨⟨_, DD.out⟩, rfl⟩ ?_
        clear hK K
        obtain ⟨z, hzz⟩ : ∃ z, z = v3.heap.size := ⟨_, rfl⟩
        generalize v3.alloc (.cells #[.int .u64 0, .int .u64 0] 26) = v4 at *
        rw [← hzz] at ZZ hz ⊢
        clear hzz
        refine forkT_call (by simp only [opsAt, List.getElem?_toArray, List.getElem?_cons_succ, List.getElem?_cons_zero]; rfl) ?_
        refine wpQuiet_nil ?_
        refine oneT_call (by rfl) (by rfl) ?_
        intro K hK
        obtain ⟨y1, y2, y3, y4, y5⟩ := ZZ.out
        have ZZ := Lib.hid (ZZ.out.set i1 i2)
        have DD := Lib.hid ((DD.out.setCell (p := ⟨z, 0, none⟩) hz.out (.int .u64 (i1.toNat : Int))).setCell (p := ⟨z, 1, none⟩) hz.out (.int .u64 (i2.toNat : Int)))
        go_wp2_with fail
        generalize (v4.setCell ⟨z, 0, none⟩ (.int .u64 (i1.toNat : Int))).setCell ⟨z, 1, none⟩ (.int .u64 (i2.toNat : Int)) = wz at *
        refine hK _ _ ⟨⟨wz, DD.out⟩, rfl⟩ ?_
        clear hK K y1 y2 y3 y4 y5
        refine forkT_last (by simp only [opsAt, List.getElem?_toArray, List.getElem?_cons_succ, List.getElem?_cons_zero]; rfl) ?_
        refine wpQuiet_nil ?_
        have FB := Lib.hid (BB.out.trans (DD.out.mono BB.out.size))
        have F10 := Lib.hid (X10.out.below DD.out (Nat.lt_trans (Nat.lt_succ_self _) s1.out))
        have F11 := Lib.hid (X11.out.below DD.out s1.out)
        have hz0 : w.heap.size + 1 < z := Nat.lt_of_lt_of_le s1.out hz.out
        clear DD hz c0 c1
        obtain ⟨z1, z2, z3, z4, z5⟩ := ZZ.out
        obtain ⟨t1, t2, t3, t4, t5⟩ := F10.out
        go_wp2
        have FF := Lib.hid (F10.out.set i1 i2)
        have FB := Lib.hid ((FB.out.setCell (p := ⟨w.heap.size, 0, none⟩) (Nat.le_refl _) (.int .u64 (i1.toNat : Int))).setCell (p := ⟨w.heap.size, 1, none⟩) (Nat.le_refl _) (.int .u64 (i2.toNat : Int)))
        generalize (wz.setCell ⟨w.heap.size, 0, none⟩ (.int .u64 (i1.toNat : Int))).setCell ⟨w.heap.size, 1, none⟩ (.int .u64 (i2.toNat : Int)) = wf at *
        clear z1 z2 z3 z4 z5 t1 t2 t3 t4 t5
        obtain ⟨t1, t2, t3, t4, t5⟩ := FF.out
        exact bodyPost_ret (v := .agg #[.int .u64 (i1.toNat : Int), .int .u64 (i2.toNat : Int)]) (by simp [results, Try.results58, go_sem, t2, t3]) rfl ⟨rfl, FB.out⟩
      · skip
        refine oneT_call (by rfl) (by rfl) ?_
        intro K hK
        go_wp2_with fail
        have ZZ : Box v2.heap.size 0 0 (v2.alloc (.cells #[.int .u64 0, .int .u64 0] 26)) := Box.new v2 0 0 26
        have ZZ := Lib.hid ZZ
        have hz := Lib.hid DD.out.size
        have MM := Lib.hid (MM.out.alloc (.cells #[.int .u64 0, .int .u64 0] 26))
        have DD := Lib.hid (DD.out.alloc DD.out.size (.cells #[.int .u64 0, .int .u64 0] 26))
        refine hK _ _ ⟨⟨_, DD.out⟩, rfl⟩ ?_
        clear hK K
        obtain ⟨z, hzz⟩ : ∃ z, z = v2.heap.size := ⟨_, rfl⟩
        generalize v2.alloc (.cells #[.int .u64 0, .int .u64 0] 26) = v6 at *
        rw [← hzz] at ZZ hz ⊢
        clear hzz
        refine forkT_call (by simp only [opsAt, List.getElem?_toArray, List.getElem?_cons_succ, List.getElem?_cons_zero]; rfl) ?_
        refine wpQuiet_nil ?_
        refine oneT_call (by rfl) (by rfl) ?_
        intro K hK
        go_wp2_with fail
        refine (O2.out _ _ MM.out).mono ?_
        rintro e v7 ⟨rfl, b2⟩
        have DD := Lib.hid (DD.out.trans (b2.mono DD.out.size))
        have ZZ := Lib.hid (ZZ.out.step b2)
        clear b2 MM
        simp only []
        refine hK _ _ ⟨⟨v7, DD.out⟩, rfl⟩ ?_
        clear hK K
        refine forkT_call (by simp only [opsAt, List.getElem?_toArray, List.getElem?_cons_succ, List.getElem?_cons_zero]; rfl) ?_
        refine wpQuiet_nil ?_
        refine oneT_call (by rfl) (by rfl) ?_
        intro K hK
        obtain ⟨y1, y2, y3, y4, y5⟩ := ZZ.out
        have ZZ := Lib.hid (ZZ.out.set i1 i2)
        have DD := Lib.hid ((DD.out.setCell (p := ⟨z, 0, none⟩) hz.out (.int .u64 (i1.toNat : Int))).setCell (p := ⟨z, 1, none⟩) hz.out (.int .u64 (i2.toNat : Int)))
        go_wp2_with fail
        generalize (v7.setCell ⟨z, 0, none⟩ (.int .u64 (i1.toNat : Int))).setCell ⟨z, 1, none⟩ (.int .u64 (i2.toNat : Int)) = wz at *
        refine hK _ _ ⟨⟨wz, DD.out⟩, rfl⟩ ?_
        clear hK K y1 y2 y3 y4 y5
        refine forkT_last (by simp only [opsAt, List.getElem?_toArray, List.getElem?_cons_succ, List.getElem?_cons_zero]; rfl) ?_
        refine wpQuiet_nil ?_
        have FB := Lib.hid (BB.out.trans (DD.out.mono BB.out.size))
        have F10 := Lib.hid (X10.out.below DD.out (Nat.lt_trans (Nat.lt_succ_self _) s1.out))
        have F11 := Lib.hid (X11.out.below DD.out s1.out)
        have hz0 : w.heap.size + 1 < z := Nat.lt_of_lt_of_le s1.out hz.out
        clear DD hz c0 c1
        obtain ⟨z1, z2, z3, z4, z5⟩ := ZZ.out
        obtain ⟨t1, t2, t3, t4, t5⟩ := F10.out
        go_wp2
        have FF := Lib.hid (F10.out.set i1 i2)
        have FB := Lib.hid ((FB.out.setCell (p := ⟨w.heap.size, 0, none⟩) (Nat.le_refl _) (.int .u64 (i1.toNat : Int))).setCell (p := ⟨w.heap.size, 1, none⟩) (Nat.le_refl _) (.int .u64 (i2.toNat : Int)))
        generalize (wz.setCell ⟨w.heap.size, 0, none⟩ (.int .u64 (i1.toNat : Int))).setCell ⟨w.heap.size, 1, none⟩ (.int .u64 (i2.toNat : Int)) = wf at *
        clear z1 z2 z3 z4 z5 t1 t2 t3 t4 t5
        obtain ⟨t1, t2, t3, t4, t5⟩ := FF.out
        exact bodyPost_ret (v := .agg #[.int .u64 (i1.toNat : Int), .int .u64 (i2.toNat : Int)]) (by simp [results, Try.results58, go_sem, t2, t3]) rfl ⟨rfl, FB.out⟩
    · skip
      refine oneT_call (by rfl) (by rfl) ?_
      intro K hK
      go_wp2_with fail
      have ZZ : Box v1.heap.size 0 0 (v1.alloc (.cells #[.int .u64 0, .int .u64 0] 26)) := Box.new v1 0 0 26
      have ZZ := Lib.hid ZZ
      have hz := Lib.hid DD.out.size
      have DD := Lib.hid (DD.out.alloc DD.out.size (.cells #[.int .u64 0, .int .u64 0] 26))
      refine hK _ _ ⟨⟨_, DD.out⟩, rfl⟩ ?_
      clear hK K
      obtain ⟨z, hzz⟩ : ∃ z, z = v1.heap.size := ⟨_, rfl⟩
      generalize v1.alloc (.cells #[.int .u64 0, .int .u64 0] 26) = v9 at *
      rw [← hzz] at ZZ hz ⊢
      clear hzz
      refine forkT_call (by simp only [opsAt, List.getElem?_toArray, List.getElem?_cons_succ, List.getElem?_cons_zero]; rfl) ?_
      refine wpQuiet_nil ?_
      refine oneT_call (by rfl) (by rfl) ?_
      intro K hK
      go_wp2_with fail
      have MM := Lib.hid (Box.new v9 m1 m2 26)
      have ZZ := Lib.hid (ZZ.out.alloc (.cells #[.int .u64 (m1.toNat : Int), .int .u64 (m2.toNat : Int)] 26))
      have DD := Lib.hid (DD.out.alloc DD.out.size (.cells #[.int .u64 (m1.toNat : Int), .int .u64 (m2.toNat : Int)] 26))
      refine hK _ _ ⟨⟨_, DD.out⟩, rfl⟩ ?_
      clear hK K
      generalize v9.alloc (.cells #[.int .u64 (m1.toNat : Int), .int .u64 (m2.toNat : Int)] 26) = v10 at *
      refine forkT_call (by simp only [opsAt, List.getElem?_toArray, List.getElem?_cons_succ, List.getElem?_cons_zero]; rfl) ?_
      refine wpQuiet_nil ?_
      refine oneT_call (by rfl) (by rfl) ?_
      intro K hK
      go_wp2_with fail
      refine (O2.out _ _ MM.out).mono ?_
      rintro e v11 ⟨rfl, b2⟩
      have DD := Lib.hid (DD.out.trans (b2.mono DD.out.size))
      have ZZ := Lib.hid (ZZ.out.step b2)
      clear b2 MM
      simp only []
      refine hK _ _ ⟨⟨v11, DD.out⟩, rfl⟩ ?_
      clear hK K
      refine forkT_call (by simp only [opsAt, List.getElem?_toArray, List.getElem?_cons_succ, List.getElem?_cons_zero]; rfl) ?_
      refine wpQuiet_nil ?_
      refine oneT_call (by rfl) (by rfl) ?_
      intro K hK
      obtain ⟨y1, y2, y3, y4, y5⟩ := ZZ.out
      have ZZ := Lib.hid (ZZ.out.set i1 i2)
      have DD := Lib.hid ((DD.out.setCell (p := ⟨z, 0, none⟩) hz.out (.int .u64 (i1.toNat : Int))).setCell (p := ⟨z, 1, none⟩) hz.out (.int .u64 (i2.toNat : Int)))
      go_wp2_with fail
      generalize (v11.setCell ⟨z, 0, none⟩ (.int .u64 (i1.toNat : Int))).setCell ⟨z, 1, none⟩ (.int .u64 (i2.toNat : Int)) = wz at *
      refine hK _ _ ⟨⟨wz, DD.out⟩, rfl⟩ ?_
      clear hK K y1 y2 y3 y4 y5
      refine forkT_last (by simp only [opsAt, List.getElem?_toArray, List.getElem?_cons_succ, List.getElem?_cons_zero]; rfl) ?_
      refine wpQuiet_nil ?_
      have FB := Lib.hid (BB.out.trans (DD.out.mono BB.out.size))
      have F10 := Lib.hid (X10.out.below DD.out (Nat.lt_trans (Nat.lt_succ_self _) s1.out))
      have F11 := Lib.hid (X11.out.below DD.out s1.out)
      have hz0 : w.heap.size + 1 < z := Nat.lt_of_lt_of_le s1.out hz.out
      clear DD hz c0 c1
      obtain ⟨z1, z2, z3, z4, z5⟩ := ZZ.out
      obtain ⟨t1, t2, t3, t4, t5⟩ := F10.out
      go_wp2
      have FF := Lib.hid (F10.out.set i1 i2)
      have FB := Lib.hid ((FB.out.setCell (p := ⟨w.heap.size, 0, none⟩) (Nat.le_refl _) (.int .u64 (i1.toNat : Int))).setCell (p := ⟨w.heap.size, 1, none⟩) (Nat.le_refl _) (.int .u64 (i2.toNat : Int)))
      generalize (wz.setCell ⟨w.heap.size, 0, none⟩ (.int .u64 (i1.toNat : Int))).setCell ⟨w.heap.size, 1, none⟩ (.int .u64 (i2.toNat : Int)) = wf at *
      clear z1 z2 z3 z4 z5 t1 t2 t3 t4 t5
      obtain ⟨t1, t2, t3, t4, t5⟩ := FF.out
      exact bodyPost_ret (v := .agg #[.int .u64 (i1.toNat : Int), .int .u64 (i2.toNat : Int)]) (by simp [results, Try.results58, go_sem, t2, t3]) rfl ⟨rfl, FB.out⟩
  · skip
    refine oneT_call (by rfl) (by rfl) ?_
    intro K hK
    go_wp2_with fail
    have ZZ : Box wd.heap.size 0 0 (wd.alloc (.cells #[.int .u64 0, .int .u64 0] 26)) := Box.new wd 0 0 26
    have ZZ := Lib.hid ZZ
    have hz := Lib.hid DD.out.size
    have DD := Lib.hid (DD.out.alloc DD.out.size (.cells #[.int .u64 0, .int .u64 0] 26))
    refine hK _ _ ⟨⟨_, DD.out⟩, rfl⟩ ?_
    clear hK K
    obtain ⟨z, hzz⟩ : ∃ z, z = wd.heap.size := ⟨_, rfl⟩
    generalize wd.alloc (.cells #[.int .u64 0, .int .u64 0] 26) = v13 at *
    rw [← hzz] at ZZ hz ⊢
    clear hzz
    refine forkT_call (by simp only [opsAt, List.getElem?_toArray, List.getElem?_cons_succ, List.getElem?_cons_zero]; rfl) ?_
    refine wpQuiet_nil ?_
    refine oneT_call (by rfl) (by rfl) ?_
    intro K hK
    go_wp2_with fail
    refine (O1.out _).mono ?_
    rintro e v14 ⟨rfl, b2⟩
    have DD := Lib.hid (DD.out.trans (b2.mono DD.out.size))
    have ZZ := Lib.hid (ZZ.out.step b2)
    clear b2
    simp only []
    refine hK _ _ ⟨⟨v14, DD.out⟩, rfl⟩ ?_
    clear hK K
    refine forkT_call (by simp only [opsAt, List.getElem?_toArray, List.getElem?_cons_succ, List.getElem?_cons_zero]; rfl) ?_
    refine wpQuiet_nil ?_
    refine oneT_call (by rfl) (by rfl) ?_
    intro K hK
    go_wp2_with fail
    have MM := Lib.hid (Box.new v14 m1 m2 26)
    have ZZ := Lib.hid (ZZ.out.alloc (.cells #[.int .u64 (m1.toNat : Int), .int .u64 (m2.toNat : Int)] 26))
    have DD := Lib.hid (DD.out.alloc DD.out.size (.cells #[.int .u64 (m1.toNat : Int), .int .u64 (m2.toNat : Int)] 26))
    refine hK _ _ ⟨⟨_, DD.out⟩, rfl⟩ ?_
    clear hK K
    generalize v14.alloc (.cells #[.int .u64 (m1.toNat : Int), .int .u64 (m2.toNat : Int)] 26) = v15 at *
    refine forkT_call (by simp only [opsAt, List.getElem?_toArray, List.getElem?_cons_succ, List.getElem?_cons_zero]; rfl) ?_
    refine wpQuiet_nil ?_
    refine oneT_call (by rfl) (by rfl) ?_
    intro K hK
    go_wp2_with fail
    refine (O2.out _ _ MM.out).mono ?_
    rintro e v16 ⟨rfl, b2⟩
    have DD := Lib.hid (DD.out.trans (b2.mono DD.out.size))
    have ZZ := Lib.hid (ZZ.out.step b2)
    clear b2 MM
    simp only []
    refine hK _ _ ⟨⟨v16, DD.out⟩, rfl⟩ ?_
    clear hK K
    refine forkT_call (by simp only [opsAt, List.getElem?_toArray, List.getElem?_cons_succ, List.getElem?_cons_zero]; rfl) ?_
    refine wpQuiet_nil ?_
    refine oneT_call (by rfl) (by rfl) ?_
    intro K hK
    obtain ⟨y1, y2, y3, y4, y5⟩ := ZZ.out
    have ZZ := Lib.hid (ZZ.out.set i1 i2)
    have DD := Lib.hid ((DD.out.setCell (p := ⟨z, 0, none⟩) hz.out (.int .u64 (i1.toNat : Int))).setCell (p := ⟨z, 1, none⟩) hz.out (.int .u64 (i2.toNat : Int)))
    go_wp2_with fail
    generalize (v16.setCell ⟨z, 0, none⟩ (.int .u64 (i1.toNat : Int))).setCell ⟨z, 1, none⟩ (.int .u64 (i2.toNat : Int)) = wz at *
    refine hK _ _ ⟨⟨wz, DD.out⟩, rfl⟩ ?_
    clear hK K y1 y2 y3 y4 y5
    refine forkT_last (by simp only [opsAt, List.getElem?_toArray, List.getElem?_cons_succ, List.getElem?_cons_zero]; rfl) ?_
    refine wpQuiet_nil ?_
    have FB := Lib.hid (BB.out.trans (DD.out.mono BB.out.size))
    have F10 := Lib.hid (X10.out.below DD.out (Nat.lt_trans (Nat.lt_succ_self _) s1.out))
    have F11 := Lib.hid (X11.out.below DD.out s1.out)
    have hz0 : w.heap.size + 1 < z := Nat.lt_of_lt_of_le s1.out hz.out
    clear DD hz c0 c1
    obtain ⟨z1, z2, z3, z4, z5⟩ := ZZ.out
    obtain ⟨t1, t2, t3, t4, t5⟩ := F10.out
    go_wp2
    have FF := Lib.hid (F10.out.set i1 i2)
    have FB := Lib.hid ((FB.out.setCell (p := ⟨w.heap.size, 0, none⟩) (Nat.le_refl _) (.int .u64 (i1.toNat : Int))).setCell (p := ⟨w.heap.size, 1, none⟩) (Nat.le_refl _) (.int .u64 (i2.toNat : Int)))
    generalize (wz.setCell ⟨w.heap.size, 0, none⟩ (.int .u64 (i1.toNat : Int))).setCell ⟨w.heap.size, 1, none⟩ (.int .u64 (i2.toNat : Int)) = wf at *
    clear z1 z2 z3 z4 z5 t1 t2 t3 t4 t5
    obtain ⟨t1, t2, t3, t4, t5⟩ := FF.out
    exact bodyPost_ret (v := .agg #[.int .u64 (i1.toNat : Int), .int .u64 (i2.toNat : Int)]) (by simp [results, Try.results58, go_sem, t2, t3]) rfl ⟨rfl, FB.out⟩

set_option maxRecDepth 100000 in
set_option maxHeartbeats 4000000 in
theorem sprite_8_false (b x width : Int) (p m1 m2 i1 i2 : BitVec 64) (j1 j2 q1 q2 : BitVec 64) (ej : mv (p ++ 0#64) (x - width) = j1 ++ j2) (hq1 : i1 ^^^ j1 = q1) (hq2 : i2 ^^^ j2 = q2) (w : World) (hp : IntKind.u64.wrap (b * 72057594037927936) = (p.toNat : Int)) (b0 : 0 ≤ b) (b1 : b ≤ 65535) (x0 : 0 ≤ x) (x1 : x ≤ 128) (w0 : 0 ≤ width) (w1 : width ≤ 128)
    (em : firsts width = m1 ++ m2) (ei : shift (p ++ 0#64) x width = i1 ++ i2) :
    Calls Try.prog 58 #[.int .u16 b, .int .i64 8, .int .i64 x, .int .i64 width, .bool false] w fun e w' => e = .returned (.agg #[.int .u64 (q1.toNat : Int), .int .u64 (q2.toNat : Int)]) ∧ Below w.heap.size w w' := by
  have f1 := IntWalk.i64_in (x - width) (by omega)
  have O1 := Lib.hid (firsts_words em w0 w1)
  have O2 := Lib.hid fun w b X => shift_words p 0#64 x width i1 i2 ei w b m1 m2 em X (by omega) (by omega)
  have O3 := Lib.hid (move0_words ej (by omega) (by omega))
  have O4 := Lib.hid (xor_words hq1 hq2)
  clear ej hq1 hq2
  clear em ei
  go_enter Try.func58, Try.ntmps58
  go_wp2_with fail
  clear hp
  have X10 : Box w.heap.size 0 0 ((w.alloc (.cells #[.int .u64 0, .int .u64 0] 26)).alloc (.cells #[.int .u64 (p.toNat : Int), .int .u64 0] 26)) := (Box.new w 0 0 26).alloc _
  have X11 : Box (w.heap.size + 1) p 0#64 ((w.alloc (.cells #[.int .u64 0, .int .u64 0] 26)).alloc (.cells #[.int .u64 (p.toNat : Int), .int .u64 0] 26)) := by
    have := Box.new (w.alloc (.cells #[.int .u64 0, .int .u64 0] 26)) p 0#64 26
    rw [World.size_alloc] at this
    exact this
  have BB := Lib.hid ((((Below.refl _ w).alloc (Nat.le_refl _) (.cells #[.int .u64 0, .int .u64 0] 26)).alloc (by simp) (.cells #[.int .u64 (p.toNat : Int), .int .u64 0] 26)))
  have s1 := Lib.hid X11.lt
  have X10 := Lib.hid X10
  have X11 := Lib.hid X11
  generalize (w.alloc (.cells #[.int .u64 0, .int .u64 0] 26)).alloc (.cells #[.int .u64 (p.toNat : Int), .int .u64 0] 26) = wa at *
  have c0 : ∀ x : Calm wa, x.w.cell? ⟨w.heap.size + 1, 0, none⟩ = some (.int .u64 (p.toNat : Int)) := fun x => X11.out.c0 ▸ x.below.cell (p := ⟨w.heap.size + 1, 0, none⟩) s1.out
  have c1 : ∀ x : Calm wa, x.w.cell? ⟨w.heap.size + 1, 1, none⟩ = some (.int .u64 0) := fun x => X11.out.c1 ▸ x.below.cell (p := ⟨w.heap.size + 1, 1, none⟩) s1.out
  refine wp_region_fork (C := fun w' => ∃ x : Calm wa, w' = x.w) (.fork [0, 1, 2] 3 (.fork [] 4 (.fork [] 5 (.call [] 6 (.call [] 7 (.last []))) 6 (.call [] 5 (.call [] 7 (.last [])))) 6 (.call [] 4 (.call [] 5 (.call [] 7 (.last []))))) 6 (.call [] 3 (.call [] 4 (.call [] 5 (.call [] 7 (.last [])))))) (by kernel_rfl) (by kernel_rfl) (fun _ _ d _ _ h => by cases d <;> exact h) ⟨⟨wa.drew, (Below.refl _ _).drew⟩, rfl⟩ ?_
  intro wd hwd
  have DD := Lib.hid (show Below wa.heap.size wa wd by rw [hwd]; exact (Below.refl _ _).drew)
  clear hwd
  refine forkT_fork (by simp only [opsAt, List.getElem?_toArray, List.getElem?_cons_succ, List.getElem?_cons_zero]; rfl) ?_
  repeat (go_big_quiet_step (fail))
  refine wpQuiet_nil ?_
  refine ⟨?_, ?_⟩
  · skip
    refine oneT_call (by rfl) (by rfl) ?_
    intro K hK
    go_wp2_with fail
    refine (O1.out _).mono ?_
    rintro e v1 ⟨rfl, b2⟩
    have DD := Lib.hid (DD.out.trans (b2.mono DD.out.size))
    clear b2
    simp only []
    refine hK _ _ ⟨⟨v1, DD.out⟩, rfl⟩ ?_
    clear hK K
    refine forkT_fork (by simp only [opsAt, List.getElem?_toArray, List.getElem?_cons_succ, List.getElem?_cons_zero]; rfl) ?_
    refine wpQuiet_nil ?_
    refine ⟨?_, ?_⟩
    · skip
      refine oneT_call (by rfl) (by rfl) ?_
      intro K hK
      go_wp2_with fail
      have MM := Lib.hid (Box.new v1 m1 m2 26)
      have DD := Lib.hid (DD.out.alloc DD.out.size (.cells #[.int .u64 (m1.toNat : Int), .int .u64 (m2.toNat : Int)] 26))
      refine hK _ _ ⟨⟨_, DD.out⟩, rfl⟩ ?_
      clear hK K
      generalize v1.alloc (.cells #[.int .u64 (m1.toNat : Int), .int .u64 (m2.toNat : Int)] 26) = v2 at *
      refine forkT_fork (by simp only [opsAt, List.getElem?_toArray, List.getElem?_cons_succ, List.getElem?_cons_zero]; rfl) ?_
      refine wpQuiet_nil ?_
      refine ⟨?_, ?_⟩
      · skip
        refine oneT_call (by rfl) (by rfl) ?_
        intro K hK
        go_wp2_with fail
        refine (O2.out _ _ MM.out).mono ?_
        rintro e v3 ⟨rfl, b2⟩
        have DD := Lib.hid (DD.out.trans (b2.mono DD.out.size))
        clear b2 MM
        simp only []
        refine hK _ _ ⟨⟨v3, DD.out⟩, rfl⟩ ?_
        clear hK K
        refine forkT_call (by simp only [opsAt, List.getElem?_toArray, List.getElem?_cons_succ, List.getElem?_cons_zero]; rfl) ?_
        refine wpQuiet_nil ?_
        refine oneT_call (by rfl) (by rfl) ?_
        intro K hK
        go_wp2_with fail
        have ZZ : Box v3.heap.size 0 0 (v3.alloc (.cells #[.int .u64 0, .int .u64 0] 26)) := Box.new v3 0 0 26
        have ZZ := Lib.hid ZZ
        have hz := Lib.hid DD.out.size
        have DD := Lib.hid (DD.out.alloc DD.out.size (.cells #[.int .u64 0, .int .u64 0] 26))
        refine hK _ _ ⟨⟨_, DD.out⟩, rfl⟩ ?_
        clear hK K
        obtain ⟨z, hzz⟩ : ∃ z, z = v3.heap.size := ⟨_, rfl⟩
        generalize v3.alloc (.cells #[.int .u64 0, .int .u64 0] 26) = v4 at *
        rw [← hzz] at ZZ hz ⊢
        clear hzz
        refine forkT_call (by simp only [opsAt, List.getElem?_toArray, List.getElem?_cons_succ, List.getElem?_cons_zero]; rfl) ?_
        refine wpQuiet_nil ?_
        refine oneT_call (by rfl) (by rfl) ?_
        intro K hK
        obtain ⟨y1, y2, y3, y4, y5⟩ := ZZ.out
        have ZZ := Lib.hid (ZZ.out.set i1 i2)
        have DD := Lib.hid ((DD.out.setCell (p := ⟨z, 0, none⟩) hz.out (.int .u64 (i1.toNat : Int))).setCell (p := ⟨z, 1, none⟩) hz.out (.int .u64 (i2.toNat : Int)))
        go_wp2_with fail
        generalize (v4.setCell ⟨z, 0, none⟩ (.int .u64 (i1.toNat : Int))).setCell ⟨z, 1, none⟩ (.int .u64 (i2.toNat : Int)) = wz at *
        refine hK _ _ ⟨⟨wz, DD.out⟩, rfl⟩ ?_
        clear hK K y1 y2 y3 y4 y5
        refine forkT_last (by simp only [opsAt, List.getElem?_toArray, List.getElem?_cons_succ, List.getElem?_cons_zero]; rfl) ?_
        refine wpQuiet_nil ?_
        have FB := Lib.hid (BB.out.trans (DD.out.mono BB.out.size))
        have F10 := Lib.hid (X10.out.below DD.out (Nat.lt_trans (Nat.lt_succ_self _) s1.out))
        have F11 := Lib.hid (X11.out.below DD.out s1.out)
        have hz0 : w.heap.size + 1 < z := Nat.lt_of_lt_of_le s1.out hz.out
        clear DD hz c0 c1
        obtain ⟨z1, z2, z3, z4, z5⟩ := ZZ.out
        obtain ⟨t1, t2, t3, t4, t5⟩ := F10.out
        clear t1 t2 t3 t4 t5 z1 z2 z3 z4 z5
        go_wp2_with fail
        haveI : Nonempty (Two (w.heap.size + 1) z p 0#64 i1 i2) := ⟨⟨wz, F11.out, ZZ.out⟩⟩
        have d0 : ∀ x : Two (w.heap.size + 1) z p 0#64 i1 i2, x.w.cell? ⟨w.heap.size + 1, 0, none⟩ = some (.int .u64 (p.toNat : Int)) := fun x => x.left.c0
        have d1 : ∀ x : Two (w.heap.size + 1) z p 0#64 i1 i2, x.w.cell? ⟨w.heap.size + 1, 1, none⟩ = some (.int .u64 0) := fun x => x.left.c1
        have d2 : ∀ x : Two (w.heap.size + 1) z p 0#64 i1 i2, x.w.cell? ⟨z, 0, none⟩ = some (.int .u64 (i1.toNat : Int)) := fun x => x.right.c0
        have d3 : ∀ x : Two (w.heap.size + 1) z p 0#64 i1 i2, x.w.cell? ⟨z, 1, none⟩ = some (.int .u64 (i2.toNat : Int)) := fun x => x.right.c1
        have G10 := Lib.hid F10.out.drew
        have G11 := Lib.hid F11.out.drew
        have GZ := Lib.hid ZZ.out.drew
        have GB := Lib.hid FB.out.drew
        clear F10 F11 ZZ FB
        refine wp_region_mix (C := fun w' => ∃ x : Two (w.heap.size + 1) z p 0#64 i1 i2, w' = x.w) [([0, 1, 2, 3, 4], 5), ([], 6), ([], 7)] [] (by kernel_rfl) (by kernel_rfl) (fun _ _ d _ _ h => by cases d <;> exact h) ⟨⟨wz.drew, G11.out, GZ.out⟩, rfl⟩ ?_
        intro wy hwy
        generalize wz.drew = wq at *
        subst hwy
        refine mix_run (by simp only [opsAt, List.getElem?_toArray, List.getElem?_cons_succ, List.getElem?_cons_zero]; rfl) (by rfl) ?_
        repeat (go_big_quiet_step (fail))
        refine wpQuiet_nil ?_
        refine mix_call (by rfl) ?_
        intro K hK
        clear d0 d1 d2 d3
        go_wp2_with fail
        refine (O3.out _).mono ?_
        rintro e wr ⟨rfl, b2⟩
        have G10 := Lib.hid (G10.out.step b2)
        have G11 := Lib.hid (G11.out.step b2)
        have GZ := Lib.hid (GZ.out.step b2)
        have GB := Lib.hid (GB.out.trans (b2.mono GB.out.size))
        clear b2
        simp only []
        refine hK _ _ ⟨⟨wr, G11.out, GZ.out⟩, rfl⟩ ?_
        clear hK K
        refine mix_run (by simp only [opsAt, List.getElem?_toArray, List.getElem?_cons_succ, List.getElem?_cons_zero]; rfl) (by rfl) ?_
        refine wpQuiet_nil ?_
        refine mix_call (by rfl) ?_
        intro K hK
        go_wp2_with fail
        refine (O4.out _).mono ?_
        rintro e ws ⟨rfl, b2⟩
        have G10 := Lib.hid (G10.out.step b2)
        have G11 := Lib.hid (G11.out.step b2)
        have GZ := Lib.hid (GZ.out.step b2)
        have GB := Lib.hid (GB.out.trans (b2.mono GB.out.size))
        clear b2
        simp only []
        refine hK _ _ ⟨⟨ws, G11.out, GZ.out⟩, rfl⟩ ?_
        clear hK K
        refine mix_run (by simp only [opsAt, List.getElem?_toArray, List.getElem?_cons_succ, List.getElem?_cons_zero]; rfl) (by rfl) ?_
        refine wpQuiet_nil ?_
        refine mix_call (by rfl) ?_
        intro K hK
        obtain ⟨t1, t2, t3, t4, t5⟩ := G10.out
        have FF := Lib.hid (G10.out.set q1 q2)
        have G11 := Lib.hid ((G11.out.other (g := w.heap.size) (by omega) 0 (.int .u64 (q1.toNat : Int))).other (g := w.heap.size) (by omega) 1 (.int .u64 (q2.toNat : Int)))
        have GZ := Lib.hid ((GZ.out.other (g := w.heap.size) (by omega) 0 (.int .u64 (q1.toNat : Int))).other (g := w.heap.size) (by omega) 1 (.int .u64 (q2.toNat : Int)))
        have FB := Lib.hid ((GB.out.setCell (p := ⟨w.heap.size, 0, none⟩) (Nat.le_refl _) (.int .u64 (q1.toNat : Int))).setCell (p := ⟨w.heap.size, 1, none⟩) (Nat.le_refl _) (.int .u64 (q2.toNat : Int)))
        go_wp2_with fail
        generalize (ws.setCell ⟨w.heap.size, 0, none⟩ (.int .u64 (q1.toNat : Int))).setCell ⟨w.heap.size, 1, none⟩ (.int .u64 (q2.toNat : Int)) = wf at *
        refine hK _ _ ⟨⟨wf, G11.out, GZ.out⟩, rfl⟩ ?_
        clear hK K t1 t2 t3 t4 t5
        refine mix_last (by simp only [opsAt, List.getElem?_toArray, List.getElem?_cons_succ, List.getElem?_cons_zero]; rfl) ?_
        refine wpQuiet_nil ?_
        obtain ⟨t1, t2, t3, t4, t5⟩ := FF.out
        go_wp2
        exact bodyPost_ret (v := .agg #[.int .u64 (q1.toNat : Int), .int .u64 (q2.toNat : Int)]) (by simp [results, Try.results58, go_sem, t2, t3]) rfl ⟨rfl, FB.out⟩
      · skip
        refine oneT_call (by rfl) (by rfl) ?_
        intro K hK
        go_wp2_with fail
        have ZZ : Box v2.heap.size 0 0 (v2.alloc (.cells #[.int .u64 0, .int .u64 0] 26)) := Box.new v2 0 0 26
        have ZZ := Lib.hid ZZ
        have hz := Lib.hid DD.out.size
        have MM := Lib.hid (MM.out.alloc (.cells #[.int .u64 0, .int .u64 0] 26))
        have DD := Lib.hid (DD.out.alloc DD.out.size (.cells #[.int .u64 0, .int .u64 0] 26))
        refine hK _ _ ⟨⟨_, DD.out⟩, rfl⟩ ?_
        clear hK K
        obtain ⟨z, hzz⟩ : ∃ z, z = v2.heap.size := ⟨_, rfl⟩
        generalize v2.alloc (.cells #[.int .u64 0, .int .u64 0] 26) = v6 at *
        rw [← hzz] at ZZ hz ⊢
        clear hzz
        refine forkT_call (by simp only [opsAt, List.getElem?_toArray, List.getElem?_cons_succ, List.getElem?_cons_zero]; rfl) ?_
        refine wpQuiet_nil ?_
        refine oneT_call (by rfl) (by rfl) ?_
        intro K hK
        go_wp2_with fail
        refine (O2.out _ _ MM.out).mono ?_
        rintro e v7 ⟨rfl, b2⟩
        have DD := Lib.hid (DD.out.trans (b2.mono DD.out.size))
        have ZZ := Lib.hid (ZZ.out.step b2)
        clear b2 MM
        simp only []
        refine hK _ _ ⟨⟨v7, DD.out⟩, rfl⟩ ?_
        clear hK K
        refine forkT_call (by simp only [opsAt, List.getElem?_toArray, List.getElem?_cons_succ, List.getElem?_cons_zero]; rfl) ?_
        refine wpQuiet_nil ?_
        refine oneT_call (by rfl) (by rfl) ?_
        intro K hK
        obtain ⟨y1, y2, y3, y4, y5⟩ := ZZ.out
        have ZZ := Lib.hid (ZZ.out.set i1 i2)
        have DD := Lib.hid ((DD.out.setCell (p := ⟨z, 0, none⟩) hz.out (.int .u64 (i1.toNat : Int))).setCell (p := ⟨z, 1, none⟩) hz.out (.int .u64 (i2.toNat : Int)))
        go_wp2_with fail
        generalize (v7.setCell ⟨z, 0, none⟩ (.int .u64 (i1.toNat : Int))).setCell ⟨z, 1, none⟩ (.int .u64 (i2.toNat : Int)) = wz at *
        refine hK _ _ ⟨⟨wz, DD.out⟩, rfl⟩ ?_
        clear hK K y1 y2 y3 y4 y5
        refine forkT_last (by simp only [opsAt, List.getElem?_toArray, List.getElem?_cons_succ, List.getElem?_cons_zero]; rfl) ?_
        refine wpQuiet_nil ?_
        have FB := Lib.hid (BB.out.trans (DD.out.mono BB.out.size))
        have F10 := Lib.hid (X10.out.below DD.out (Nat.lt_trans (Nat.lt_succ_self _) s1.out))
        have F11 := Lib.hid (X11.out.below DD.out s1.out)
        have hz0 : w.heap.size + 1 < z := Nat.lt_of_lt_of_le s1.out hz.out
        clear DD hz c0 c1
        obtain ⟨z1, z2, z3, z4, z5⟩ := ZZ.out
        obtain ⟨t1, t2, t3, t4, t5⟩ := F10.out
        clear t1 t2 t3 t4 t5 z1 z2 z3 z4 z5
        go_wp2_with fail
        haveI : Nonempty (Two (w.heap.size + 1) z p 0#64 i1 i2) := ⟨⟨wz, F11.out, ZZ.out⟩⟩
        have d0 : ∀ x : Two (w.heap.size + 1) z p 0#64 i1 i2, x.w.cell? ⟨w.heap.size + 1, 0, none⟩ = some (.int .u64 (p.toNat : Int)) := fun x => x.left.c0
        have d1 : ∀ x : Two (w.heap.size + 1) z p 0#64 i1 i2, x.w.cell? ⟨w.heap.size + 1, 1, none⟩ = some (.int .u64 0) := fun x => x.left.c1
        have d2 : ∀ x : Two (w.heap.size + 1) z p 0#64 i1 i2, x.w.cell? ⟨z, 0, none⟩ = some (.int .u64 (i1.toNat : Int)) := fun x => x.right.c0
        have d3 : ∀ x : Two (w.heap.size + 1) z p 0#64 i1 i2, x.w.cell? ⟨z, 1, none⟩ = some (.int .u64 (i2.toNat : Int)) := fun x => x.right.c1
        have G10 := Lib.hid F10.out.drew
        have G11 := Lib.hid F11.out.drew
        have GZ := Lib.hid ZZ.out.drew
        have GB := Lib.hid FB.out.drew
        clear F10 F11 ZZ FB
        refine wp_region_mix (C := fun w' => ∃ x : Two (w.heap.size + 1) z p 0#64 i1 i2, w' = x.w) [([0, 1, 2, 3, 4], 5), ([], 6), ([], 7)] [] (by kernel_rfl) (by kernel_rfl) (fun _ _ d _ _ h => by cases d <;> exact h) ⟨⟨wz.drew, G11.out, GZ.out⟩, rfl⟩ ?_
        intro wy hwy
        generalize wz.drew = wq at *
        subst hwy
        refine mix_run (by simp only [opsAt, List.getElem?_toArray, List.getElem?_cons_succ, List.getElem?_cons_zero]; rfl) (by rfl) ?_
        repeat (go_big_quiet_step (fail))
        refine wpQuiet_nil ?_
        refine mix_call (by rfl) ?_
        intro K hK
        clear d0 d1 d2 d3
        go_wp2_with fail
        refine (O3.out _).mono ?_
        rintro e wr ⟨rfl, b2⟩
        have G10 := Lib.hid (G10.out.step b2)
        have G11 := Lib.hid (G11.out.step b2)
        have GZ := Lib.hid (GZ.out.step b2)
        have GB := Lib.hid (GB.out.trans (b2.mono GB.out.size))
        clear b2
        simp only []
        refine hK _ _ ⟨⟨wr, G11.out, GZ.out⟩, rfl⟩ ?_
        clear hK K
        refine mix_run (by simp only [opsAt, List.getElem?_toArray, List.getElem?_cons_succ, List.getElem?_cons_zero]; rfl) (by rfl) ?_
        refine wpQuiet_nil ?_
        refine mix_call (by rfl) ?_
        intro K hK
        go_wp2_with fail
        refine (O4.out _).mono ?_
        rintro e ws ⟨rfl, b2⟩
        have G10 := Lib.hid (G10.out.step b2)
        have G11 := Lib.hid (G11.out.step b2)
        have GZ := Lib.hid (GZ.out.step b2)
        have GB := Lib.hid (GB.out.trans (b2.mono GB.out.size))
        clear b2
        simp only []
        refine hK _ _ ⟨⟨ws, G11.out, GZ.out⟩, rfl⟩ ?_
        clear hK K
        refine mix_run (by simp only [opsAt, List.getElem?_toArray, List.getElem?_cons_succ, List.getElem?_cons_zero]; rfl) (by rfl) ?_
        refine wpQuiet_nil ?_
        refine mix_call (by rfl) ?_
        intro K hK
        obtain ⟨t1, t2, t3, t4, t5⟩ := G10.out
        have FF := Lib.hid (G10.out.set q1 q2)
        have G11 := Lib.hid ((G11.out.other (g := w.heap.size) (by omega) 0 (.int .u64 (q1.toNat : Int))).other (g := w.heap.size) (by omega) 1 (.int .u64 (q2.toNat : Int)))
        have GZ := Lib.hid ((GZ.out.other (g := w.heap.size) (by omega) 0 (.int .u64 (q1.toNat : Int))).other (g := w.heap.size) (by omega) 1 (.int .u64 (q2.toNat : Int)))
        have FB := Lib.hid ((GB.out.setCell (p := ⟨w.heap.size, 0, none⟩) (Nat.le_refl _) (.int .u64 (q1.toNat : Int))).setCell (p := ⟨w.heap.size, 1, none⟩) (Nat.le_refl _) (.int .u64 (q2.toNat : Int)))
        go_wp2_with fail
        generalize (ws.setCell ⟨w.heap.size, 0, none⟩ (.int .u64 (q1.toNat : Int))).setCell ⟨w.heap.size, 1, none⟩ (.int .u64 (q2.toNat : Int)) = wf at *
        refine hK _ _ ⟨⟨wf, G11.out, GZ.out⟩, rfl⟩ ?_
        clear hK K t1 t2 t3 t4 t5
        refine mix_last (by simp only [opsAt, List.getElem?_toArray, List.getElem?_cons_succ, List.getElem?_cons_zero]; rfl) ?_
        refine wpQuiet_nil ?_
        obtain ⟨t1, t2, t3, t4, t5⟩ := FF.out
        go_wp2
        exact bodyPost_ret (v := .agg #[.int .u64 (q1.toNat : Int), .int .u64 (q2.toNat : Int)]) (by simp [results, Try.results58, go_sem, t2, t3]) rfl ⟨rfl, FB.out⟩
    · skip
      refine oneT_call (by rfl) (by rfl) ?_
      intro K hK
      go_wp2_with fail
      have ZZ : Box v1.heap.size 0 0 (v1.alloc (.cells #[.int .u64 0, .int .u64 0] 26)) := Box.new v1 0 0 26
      have ZZ := Lib.hid ZZ
      have hz := Lib.hid DD.out.size
      have DD := Lib.hid (DD.out.alloc DD.out.size (.cells #[.int .u64 0, .int .u64 0] 26))
      refine hK _ _ ⟨⟨_, DD.out⟩, rfl⟩ ?_
      clear hK K
      obtain ⟨z, hzz⟩ : ∃ z, z = v1.heap.size := ⟨_, rfl⟩
      generalize v1.alloc (.cells #[.int .u64 0, .int .u64 0] 26) = v9 at *
      rw [← hzz] at ZZ hz ⊢
      clear hzz
      refine forkT_call (by simp only [opsAt, List.getElem?_toArray, List.getElem?_cons_succ, List.getElem?_cons_zero]; rfl) ?_
      refine wpQuiet_nil ?_
      refine oneT_call (by rfl) (by rfl) ?_
      intro K hK
      go_wp2_with fail
      have MM := Lib.hid (Box.new v9 m1 m2 26)
      have ZZ := Lib.hid (ZZ.out.alloc (.cells #[.int .u64 (m1.toNat : Int), .int .u64 (m2.toNat : Int)] 26))
      have DD := Lib.hid (DD.out.alloc DD.out.size (.cells #[.int .u64 (m1.toNat : Int), .int .u64 (m2.toNat : Int)] 26))
      refine hK _ _ ⟨⟨_, DD.out⟩, rfl⟩ ?_
      clear hK K
      generalize v9.alloc (.cells #[.int .u64 (m1.toNat : Int), .int .u64 (m2.toNat : Int)] 26) = v10 at *
      refine forkT_call (by simp only [opsAt, List.getElem?_toArray, List.getElem?_cons_succ, List.getElem?_cons_zero]; rfl) ?_
      refine wpQuiet_nil ?_
      refine oneT_call (by rfl) (by rfl) ?_
      intro K hK
      go_wp2_with fail
      refine (O2.out _ _ MM.out).mono ?_
      rintro e v11 ⟨rfl, b2⟩
      have DD := Lib.hid (DD.out.trans (b2.mono DD.out.size))
      have ZZ := Lib.hid (ZZ.out.step b2)
      clear b2 MM
      simp only []
      refine hK _ _ ⟨⟨v11, DD.out⟩, rfl⟩ ?_
      clear hK K
      refine forkT_call (by simp only [opsAt, List.getElem?_toArray, List.getElem?_cons_succ, List.getElem?_cons_zero]; rfl) ?_
      refine wpQuiet_nil ?_
      refine oneT_call (by rfl) (by rfl) ?_
      intro K hK
      obtain ⟨y1, y2, y3, y4, y5⟩ := ZZ.out
      have ZZ := Lib.hid (ZZ.out.set i1 i2)
      have DD := Lib.hid ((DD.out.setCell (p := ⟨z, 0, none⟩) hz.out (.int .u64 (i1.toNat : Int))).setCell (p := ⟨z, 1, none⟩) hz.out (.int .u64 (i2.toNat : Int)))
      go_wp2_with fail
      generalize (v11.setCell ⟨z, 0, none⟩ (.int .u64 (i1.toNat : Int))).setCell ⟨z, 1, none⟩ (.int .u64 (i2.toNat : Int)) = wz at *
      refine hK _ _ ⟨⟨wz, DD.out⟩, rfl⟩ ?_
      clear hK K y1 y2 y3 y4 y5
      refine forkT_last (by simp only [opsAt, List.getElem?_toArray, List.getElem?_cons_succ, List.getElem?_cons_zero]; rfl) ?_
      refine wpQuiet_nil ?_
      have FB := Lib.hid (BB.out.trans (DD.out.mono BB.out.size))
      have F10 := Lib.hid (X10.out.below DD.out (Nat.lt_trans (Nat.lt_succ_self _) s1.out))
      have F11 := Lib.hid (X11.out.below DD.out s1.out)
      have hz0 : w.heap.size + 1 < z := Nat.lt_of_lt_of_le s1.out hz.out
      clear DD hz c0 c1
      obtain ⟨z1, z2, z3, z4, z5⟩ := ZZ.out
      obtain ⟨t1, t2, t3, t4, t5⟩ := F10.out
      clear t1 t2 t3 t4 t5 z1 z2 z3 z4 z5
      go_wp2_with fail
      haveI : Nonempty (Two (w.heap.size + 1) z p 0#64 i1 i2) := ⟨⟨wz, F11.out, ZZ.out⟩⟩
      have d0 : ∀ x : Two (w.heap.size + 1) z p 0#64 i1 i2, x.w.cell? ⟨w.heap.size + 1, 0, none⟩ = some (.int .u64 (p.toNat : Int)) := fun x => x.left.c0
      have d1 : ∀ x : Two (w.heap.size + 1) z p 0#64 i1 i2, x.w.cell? ⟨w.heap.size + 1, 1, none⟩ = some (.int .u64 0) := fun x => x.left.c1
      have d2 : ∀ x : Two (w.heap.size + 1) z p 0#64 i1 i2, x.w.cell? ⟨z, 0, none⟩ = some (.int .u64 (i1.toNat : Int)) := fun x => x.right.c0
      have d3 : ∀ x : Two (w.heap.size + 1) z p 0#64 i1 i2, x.w.cell? ⟨z, 1, none⟩ = some (.int .u64 (i2.toNat : Int)) := fun x => x.right.c1
      have G10 := Lib.hid F10.out.drew
      have G11 := Lib.hid F11.out.drew
      have GZ := Lib.hid ZZ.out.drew
      have GB := Lib.hid FB.out.drew
      clear F10 F11 ZZ FB
      refine wp_region_mix (C := fun w' => ∃ x : Two (w.heap.size + 1) z p 0#64 i1 i2, w' = x.w) [([0, 1, 2, 3, 4], 5), ([], 6), ([], 7)] [] (by kernel_rfl) (by kernel_rfl) (fun _ _ d _ _ h => by cases d <;> exact h) ⟨⟨wz.drew, G11.out, GZ.out⟩, rfl⟩ ?_
      intro wy hwy
      generalize wz.drew = wq at *
      subst hwy
      refine mix_run (by simp only [opsAt, List.getElem?_toArray, List.getElem?_cons_succ, List.getElem?_cons_zero]; rfl) (by rfl) ?_
      repeat (go_big_quiet_step (fail))
      refine wpQuiet_nil ?_
      refine mix_call (by rfl) ?_
      intro K hK
      clear d0 d1 d2 d3
      go_wp2_with fail
      refine (O3.out _).mono ?_
      rintro e wr ⟨rfl, b2⟩
      have G10 := Lib.hid (G10.out.step b2)
      have G11 := Lib.hid (G11.out.step b2)
      have GZ := Lib.hid (GZ.out.step b2)
      have GB := Lib.hid (GB.out.trans (b2.mono GB.out.size))
      clear b2
      simp only []
      refine hK _ _ ⟨⟨wr, G11.out, GZ.out⟩, rfl⟩ ?_
      clear hK K
      refine mix_run (by simp only [opsAt, List.getElem?_toArray, List.getElem?_cons_succ, List.getElem?_cons_zero]; rfl) (by rfl) ?_
      refine wpQuiet_nil ?_
      refine mix_call (by rfl) ?_
      intro K hK
      go_wp2_with fail
      refine (O4.out _).mono ?_
      rintro e ws ⟨rfl, b2⟩
      have G10 := Lib.hid (G10.out.step b2)
      have G11 := Lib.hid (G11.out.step b2)
      have GZ := Lib.hid (GZ.out.step b2)
      have GB := Lib.hid (GB.out.trans (b2.mono GB.out.size))
      clear b2
      simp only []
      refine hK _ _ ⟨⟨ws, G11.out, GZ.out⟩, rfl⟩ ?_
      clear hK K
      refine mix_run (by simp only [opsAt, List.getElem?_toArray, List.getElem?_cons_succ, List.getElem?_cons_zero]; rfl) (by rfl) ?_
      refine wpQuiet_nil ?_
      refine mix_call (by rfl) ?_
      intro K hK
      obtain ⟨t1, t2, t3, t4, t5⟩ := G10.out
      have FF := Lib.hid (G10.out.set q1 q2)
      have G11 := Lib.hid ((G11.out.other (g := w.heap.size) (by omega) 0 (.int .u64 (q1.toNat : Int))).other (g := w.heap.size) (by omega) 1 (.int .u64 (q2.toNat : Int)))
      have GZ := Lib.hid ((GZ.out.other (g := w.heap.size) (by omega) 0 (.int .u64 (q1.toNat : Int))).other (g := w.heap.size) (by omega) 1 (.int .u64 (q2.toNat : Int)))
      have FB := Lib.hid ((GB.out.setCell (p := ⟨w.heap.size, 0, none⟩) (Nat.le_refl _) (.int .u64 (q1.toNat : Int))).setCell (p := ⟨w.heap.size, 1, none⟩) (Nat.le_refl _) (.int .u64 (q2.toNat : Int)))
      go_wp2_with fail
      generalize (ws.setCell ⟨w.heap.size, 0, none⟩ (.int .u64 (q1.toNat : Int))).setCell ⟨w.heap.size, 1, none⟩ (.int .u64 (q2.toNat : Int)) = wf at *
      refine hK _ _ ⟨⟨wf, G11.out, GZ.out⟩, rfl⟩ ?_
      clear hK K t1 t2 t3 t4 t5
      refine mix_last (by simp only [opsAt, List.getElem?_toArray, List.getElem?_cons_succ, List.getElem?_cons_zero]; rfl) ?_
      refine wpQuiet_nil ?_
      obtain ⟨t1, t2, t3, t4, t5⟩ := FF.out
      go_wp2
      exact bodyPost_ret (v := .agg #[.int .u64 (q1.toNat : Int), .int .u64 (q2.toNat : Int)]) (by simp [results, Try.results58, go_sem, t2, t3]) rfl ⟨rfl, FB.out⟩
  · skip
    refine oneT_call (by rfl) (by rfl) ?_
    intro K hK
    go_wp2_with fail
    have ZZ : Box wd.heap.size 0 0 (wd.alloc (.cells #[.int .u64 0, .int .u64 0] 26)) := Box.new wd 0 0 26
    have ZZ := Lib.hid ZZ
    have hz := Lib.hid DD.out.size
    have DD := Lib.hid (DD.out.alloc DD.out.size (.cells #[.int .u64 0, .int .u64 0] 26))
    refine hK _ _ ⟨⟨_, DD.out⟩, rfl⟩ ?_
    clear hK K
    obtain ⟨z, hzz⟩ : ∃ z, z = wd.heap.size := ⟨_, rfl⟩
    generalize wd.alloc (.cells #[.int .u64 0, .int .u64 0] 26) = v13 at *
    rw [← hzz] at ZZ hz ⊢
    clear hzz
    refine forkT_call (by simp only [opsAt, List.getElem?_toArray, List.getElem?_cons_succ, List.getElem?_cons_zero]; rfl) ?_
    refine wpQuiet_nil ?_
    refine oneT_call (by rfl) (by rfl) ?_
    intro K hK
    go_wp2_with fail
    refine (O1.out _).mono ?_
    rintro e v14 ⟨rfl, b2⟩
    have DD := Lib.hid (DD.out.trans (b2.mono DD.out.size))
    have ZZ := Lib.hid (ZZ.out.step b2)
    clear b2
    simp only []
    refine hK _ _ ⟨⟨v14, DD.out⟩, rfl⟩ ?_
    clear hK K
    refine forkT_call (by simp only [opsAt, List.getElem?_toArray, List.getElem?_cons_succ, List.getElem?_cons_zero]; rfl) ?_
    refine wpQuiet_nil ?_
    refine oneT_call (by rfl) (by rfl) ?_
    intro K hK
    go_wp2_with fail
    have MM := Lib.hid (Box.new v14 m1 m2 26)
    have ZZ := Lib.hid (ZZ.out.alloc (.cells #[.int .u64 (m1.toNat : Int), .int .u64 (m2.toNat : Int)] 26))
    have DD := Lib.hid (DD.out.alloc DD.out.size (.cells #[.int .u64 (m1.toNat : Int), .int .u64 (m2.toNat : Int)] 26))
    refine hK _ _ ⟨⟨_, DD.out⟩, rfl⟩ ?_
    clear hK K
    generalize v14.alloc (.cells #[.int .u64 (m1.toNat : Int), .int .u64 (m2.toNat : Int)] 26) = v15 at *
    refine forkT_call (by simp only [opsAt, List.getElem?_toArray, List.getElem?_cons_succ, List.getElem?_cons_zero]; rfl) ?_
    refine wpQuiet_nil ?_
    refine oneT_call (by rfl) (by rfl) ?_
    intro K hK
    go_wp2_with fail
    refine (O2.out _ _ MM.out).mono ?_
    rintro e v16 ⟨rfl, b2⟩
    have DD := Lib.hid (DD.out.trans (b2.mono DD.out.size))
    have ZZ := Lib.hid (ZZ.out.step b2)
    clear b2 MM
    simp only []
    refine hK _ _ ⟨⟨v16, DD.out⟩, rfl⟩ ?_
    clear hK K
    refine forkT_call (by simp only [opsAt, List.getElem?_toArray, List.getElem?_cons_succ, List.getElem?_cons_zero]; rfl) ?_
    refine wpQuiet_nil ?_
    refine oneT_call (by rfl) (by rfl) ?_
    intro K hK
    obtain ⟨y1, y2, y3, y4, y5⟩ := ZZ.out
    have ZZ := Lib.hid (ZZ.out.set i1 i2)
    have DD := Lib.hid ((DD.out.setCell (p := ⟨z, 0, none⟩) hz.out (.int .u64 (i1.toNat : Int))).setCell (p := ⟨z, 1, none⟩) hz.out (.int .u64 (i2.toNat : Int)))
    go_wp2_with fail
    generalize (v16.setCell ⟨z, 0, none⟩ (.int .u64 (i1.toNat : Int))).setCell ⟨z, 1, none⟩ (.int .u64 (i2.toNat : Int)) = wz at *
    refine hK _ _ ⟨⟨wz, DD.out⟩, rfl⟩ ?_
    clear hK K y1 y2 y3 y4 y5
    refine forkT_last (by simp only [opsAt, List.getElem?_toArray, List.getElem?_cons_succ, List.getElem?_cons_zero]; rfl) ?_
    refine wpQuiet_nil ?_
    have FB := Lib.hid (BB.out.trans (DD.out.mono BB.out.size))
    have F10 := Lib.hid (X10.out.below DD.out (Nat.lt_trans (Nat.lt_succ_self _) s1.out))
    have F11 := Lib.hid (X11.out.below DD.out s1.out)
    have hz0 : w.heap.size + 1 < z := Nat.lt_of_lt_of_le s1.out hz.out
    clear DD hz c0 c1
    obtain ⟨z1, z2, z3, z4, z5⟩ := ZZ.out
    obtain ⟨t1, t2, t3, t4, t5⟩ := F10.out
    clear t1 t2 t3 t4 t5 z1 z2 z3 z4 z5
    go_wp2_with fail
    haveI : Nonempty (Two (w.heap.size + 1) z p 0#64 i1 i2) := ⟨⟨wz, F11.out, ZZ.out⟩⟩
    have d0 : ∀ x : Two (w.heap.size + 1) z p 0#64 i1 i2, x.w.cell? ⟨w.heap.size + 1, 0, none⟩ = some (.int .u64 (p.toNat : Int)) := fun x => x.left.c0
    have d1 : ∀ x : Two (w.heap.size + 1) z p 0#64 i1 i2, x.w.cell? ⟨w.heap.size + 1, 1, none⟩ = some (.int .u64 0) := fun x => x.left.c1
    have d2 : ∀ x : Two (w.heap.size + 1) z p 0#64 i1 i2, x.w.cell? ⟨z, 0, none⟩ = some (.int .u64 (i1.toNat : Int)) := fun x => x.right.c0
    have d3 : ∀ x : Two (w.heap.size + 1) z p 0#64 i1 i2, x.w.cell? ⟨z, 1, none⟩ = some (.int .u64 (i2.toNat : Int)) := fun x => x.right.c1
    have G10 := Lib.hid F10.out.drew
    have G11 := Lib.hid F11.out.drew
    have GZ := Lib.hid ZZ.out.drew
    have GB := Lib.hid FB.out.drew
    clear F10 F11 ZZ FB
    refine wp_region_mix (C := fun w' => ∃ x : Two (w.heap.size + 1) z p 0#64 i1 i2, w' = x.w) [([0, 1, 2, 3, 4], 5), ([], 6), ([], 7)] [] (by kernel_rfl) (by kernel_rfl) (fun _ _ d _ _ h => by cases d <;> exact h) ⟨⟨wz.drew, G11.out, GZ.out⟩, rfl⟩ ?_
    intro wy hwy
    generalize wz.drew = wq at *
    subst hwy
    refine mix_run (by simp only [opsAt, List.getElem?_toArray, List.getElem?_cons_succ, List.getElem?_cons_zero]; rfl) (by rfl) ?_
    repeat (go_big_quiet_step (fail))
    refine wpQuiet_nil ?_
    refine mix_call (by rfl) ?_
    intro K hK
    clear d0 d1 d2 d3
    go_wp2_with fail
    refine (O3.out _).mono ?_
    rintro e wr ⟨rfl, b2⟩
    have G10 := Lib.hid (G10.out.step b2)
    have G11 := Lib.hid (G11.out.step b2)
    have GZ := Lib.hid (GZ.out.step b2)
    have GB := Lib.hid (GB.out.trans (b2.mono GB.out.size))
    clear b2
    simp only []
    refine hK _ _ ⟨⟨wr, G11.out, GZ.out⟩, rfl⟩ ?_
    clear hK K
    refine mix_run (by simp only [opsAt, List.getElem?_toArray, List.getElem?_cons_succ, List.getElem?_cons_zero]; rfl) (by rfl) ?_
    refine wpQuiet_nil ?_
    refine mix_call (by rfl) ?_
    intro K hK
    go_wp2_with fail
    refine (O4.out _).mono ?_
    rintro e ws ⟨rfl, b2⟩
    have G10 := Lib.hid (G10.out.step b2)
    have G11 := Lib.hid (G11.out.step b2)
    have GZ := Lib.hid (GZ.out.step b2)
    have GB := Lib.hid (GB.out.trans (b2.mono GB.out.size))
    clear b2
    simp only []
    refine hK _ _ ⟨⟨ws, G11.out, GZ.out⟩, rfl⟩ ?_
    clear hK K
    refine mix_run (by simp only [opsAt, List.getElem?_toArray, List.getElem?_cons_succ, List.getElem?_cons_zero]; rfl) (by rfl) ?_
    refine wpQuiet_nil ?_
    refine mix_call (by rfl) ?_
    intro K hK
    obtain ⟨t1, t2, t3, t4, t5⟩ := G10.out
    have FF := Lib.hid (G10.out.set q1 q2)
    have G11 := Lib.hid ((G11.out.other (g := w.heap.size) (by omega) 0 (.int .u64 (q1.toNat : Int))).other (g := w.heap.size) (by omega) 1 (.int .u64 (q2.toNat : Int)))
    have GZ := Lib.hid ((GZ.out.other (g := w.heap.size) (by omega) 0 (.int .u64 (q1.toNat : Int))).other (g := w.heap.size) (by omega) 1 (.int .u64 (q2.toNat : Int)))
    have FB := Lib.hid ((GB.out.setCell (p := ⟨w.heap.size, 0, none⟩) (Nat.le_refl _) (.int .u64 (q1.toNat : Int))).setCell (p := ⟨w.heap.size, 1, none⟩) (Nat.le_refl _) (.int .u64 (q2.toNat : Int)))
    go_wp2_with fail
    generalize (ws.setCell ⟨w.heap.size, 0, none⟩ (.int .u64 (q1.toNat : Int))).setCell ⟨w.heap.size, 1, none⟩ (.int .u64 (q2.toNat : Int)) = wf at *
    refine hK _ _ ⟨⟨wf, G11.out, GZ.out⟩, rfl⟩ ?_
    clear hK K t1 t2 t3 t4 t5
    refine mix_last (by simp only [opsAt, List.getElem?_toArray, List.getElem?_cons_succ, List.getElem?_cons_zero]; rfl) ?_
    refine wpQuiet_nil ?_
    obtain ⟨t1, t2, t3, t4, t5⟩ := FF.out
    go_wp2
    exact bodyPost_ret (v := .agg #[.int .u64 (q1.toNat : Int), .int .u64 (q2.toNat : Int)]) (by simp [results, Try.results58, go_sem, t2, t3]) rfl ⟨rfl, FB.out⟩

set_option maxRecDepth 100000 in
set_option maxHeartbeats 4000000 in
theorem sprite_16_true (b x width : Int) (p m1 m2 i1 i2 : BitVec 64) (w : World) (hp : IntKind.u64.wrap (b * 281474976710656) = (p.toNat : Int)) (b0 : 0 ≤ b) (b1 : b ≤ 65535) (x0 : 0 ≤ x) (x1 : x ≤ 128) (w0 : 0 ≤ width) (w1 : width ≤ 128)
    (em : firsts width = m1 ++ m2) (ei : shift (p ++ 0#64) x width = i1 ++ i2) :
    Calls Try.prog 58 #[.int .u16 b, .int .i64 16, .int .i64 x, .int .i64 width, .bool true] w fun e w' => e = .returned (.agg #[.int .u64 (i1.toNat : Int), .int .u64 (i2.toNat : Int)]) ∧ Below w.heap.size w w' := by
  have f1 := IntWalk.i64_in (x - width) (by omega)
  have O1 := Lib.hid (firsts_words em w0 w1)
  have O2 := Lib.hid fun w b X => shift_words p 0#64 x width i1 i2 ei w b m1 m2 em X (by omega) (by omega)
  clear em ei
  go_enter Try.func58, Try.ntmps58
  go_wp2_with fail
  clear hp
  have X10 : Box w.heap.size 0 0 ((w.alloc (.cells #[.int .u64 0, .int .u64 0] 26)).alloc (.cells #[.int .u64 (p.toNat : Int), .int .u64 0] 26)) := (Box.new w 0 0 26).alloc _
  have X11 : Box (w.heap.size + 1) p 0#64 ((w.alloc (.cells #[.int .u64 0, .int .u64 0] 26)).alloc (.cells #[.int .u64 (p.toNat : Int), .int .u64 0] 26)) := by
    have := Box.new (w.alloc (.cells #[.int .u64 0, .int .u64 0] 26)) p 0#64 26
    rw [World.size_alloc] at this
    exact this
  have BB := Lib.hid ((((Below.refl _ w).alloc (Nat.le_refl _) (.cells #[.int .u64 0, .int .u64 0] 26)).alloc (by simp) (.cells #[.int .u64 (p.toNat : Int), .int .u64 0] 26)))
  have s1 := Lib.hid X11.lt
  have X10 := Lib.hid X10
  have X11 := Lib.hid X11
  generalize (w.alloc (.cells #[.int .u64 0, .int .u64 0] 26)).alloc (.cells #[.int .u64 (p.toNat : Int), .int .u64 0] 26) = wa at *
  have c0 : ∀ x : Calm wa, x.w.cell? ⟨w.heap.size + 1, 0, none⟩ = some (.int .u64 (p.toNat : Int)) := fun x => X11.out.c0 ▸ x.below.cell (p := ⟨w.heap.size + 1, 0, none⟩) s1.out
  have c1 : ∀ x : Calm wa, x.w.cell? ⟨w.heap.size + 1, 1, none⟩ = some (.int .u64 0) := fun x => X11.out.c1 ▸ x.below.cell (p := ⟨w.heap.size + 1, 1, none⟩) s1.out
  refine wp_region_fork (C := fun w' => ∃ x : Calm wa, w' = x.w) (.fork [0, 1, 2] 3 (.fork [] 4 (.fork [] 5 (.call [] 6 (.call [] 7 (.last []))) 6 (.call [] 5 (.call [] 7 (.last [])))) 6 (.call [] 4 (.call [] 5 (.call [] 7 (.last []))))) 6 (.call [] 3 (.call [] 4 (.call [] 5 (.call [] 7 (.last [])))))) (by kernel_rfl) (by kernel_rfl) (fun _ _ d _ _ h => by cases d <;> exact h) ⟨⟨wa.drew, (Below.refl _ _).drew⟩, rfl⟩ ?_
  intro wd hwd
  have DD := Lib.hid (show Below wa.heap.size wa wd by rw [hwd]; exact (Below.refl _ _).drew)
  clear hwd
  refine forkT_fork (by simp only [opsAt, List.getElem?_toArray, List.getElem?_cons_succ, List.getElem?_cons_zero]; rfl) ?_
  repeat (go_big_quiet_step (fail))
  refine wpQuiet_nil ?_
  refine ⟨?_, ?_⟩
  · skip
    refine oneT_call (by rfl) (by rfl) ?_
    intro K hK
    go_wp2_with fail
    refine (O1.out _).mono ?_
    rintro e v1 ⟨rfl, b2⟩
    have DD := Lib.hid (DD.out.trans (b2.mono DD.out.size))
    clear b2
    simp only []
    refine hK _ _ ⟨⟨v1, DD.out⟩, rfl⟩ ?_
    clear hK K
    refine forkT_fork (by simp only [opsAt, List.getElem?_toArray, List.getElem?_cons_succ, List.getElem?_cons_zero]; rfl) ?_
    refine wpQuiet_nil ?_
    refine ⟨?_, ?_⟩
    · skip
      refine oneT_call (by rfl) (by rfl) ?_
      intro K hK
      go_wp2_with fail
      have MM := Lib.hid (Box.new v1 m1 m2 26)
      have DD := Lib.hid (DD.out.alloc DD.out.size (.cells #[.int .u64 (m1.toNat : Int), .int .u64 (m2.toNat : Int)] 26))
      refine hK _ _ ⟨⟨_, DD.out⟩, rfl⟩ ?_
      clear hK K
      generalize v1.alloc (.cells #[.int .u64 (m1.toNat : Int), .int .u64 (m2.toNat : Int)] 26) = v2 at *
      refine forkT_fork (by simp only [opsAt, List.getElem?_toArray, List.getElem?_cons_succ, List.getElem?_cons_zero]; rfl) ?_
      refine wpQuiet_nil ?_
      refine ⟨?_, ?_⟩
      · skip
        refine oneT_call (by rfl) (by rfl) ?_
        intro K hK
        go_wp2_with fail
        refine (O2.out _ _ MM.out).mono ?_
        rintro e v3 ⟨rfl, b2⟩
        have DD := Lib.hid (DD.out.trans (b2.mono DD.out.size))
        clear b2 MM
        simp only []
        refine hK _ _ ⟨⟨v3, DD.out⟩, rfl⟩ ?_
        clear hK K
        refine forkT_call (by simp only [opsAt, List.getElem?_toArray, List.getElem?_cons_succ, List.getElem?_cons_zero]; rfl) ?_
        refine wpQuiet_nil ?_
        refine oneT_call (by rfl) (by rfl) ?_
        intro K hK
        go_wp2_with fail
        have ZZ : Box v3.heap.size 0 0 (v3.alloc (.cells #[.int .u64 0, .int .u64 0] 26)) := Box.new v3 0 0 26
        have ZZ := Lib.hid ZZ
        have hz := Lib.hid DD.out.size
        have DD := Lib.hid (DD.out.alloc DD.out.size (.cells #[.int .u64 0, .int .u64 0] 26))
        refine hK _ _ ⟨⟨_, DD.out⟩, rfl⟩ ?_
        clear hK K
        obtain ⟨z, hzz⟩ : ∃ z, z = v3.heap.size := ⟨_, rfl⟩
        generalize v3.alloc (.cells #[.int .u64 0, .int .u64 0] 26) = v4 at *
        rw [← hzz] at ZZ hz ⊢
        clear hzz
        refine forkT_call (by simp only [opsAt, List.getElem?_toArray, List.getElem?_cons_succ, List.getElem?_cons_zero]; rfl) ?_
        refine wpQuiet_nil ?_
        refine oneT_call (by rfl) (by rfl) ?_
        intro K hK
        obtain ⟨y1, y2, y3, y4, y5⟩ := ZZ.out
        have ZZ := Lib.hid (ZZ.out.set i1 i2)
        have DD := Lib.hid ((DD.out.setCell (p := ⟨z, 0, none⟩) hz.out (.int .u64 (i1.toNat : Int))).setCell (p := ⟨z, 1, none⟩) hz.out (.int .u64 (i2.toNat : Int)))
        go_wp2_with fail
        generalize (v4.setCell ⟨z, 0, none⟩ (.int .u64 (i1.toNat : Int))).setCell ⟨z, 1, none⟩ (.int .u64 (i2.toNat : Int)) = wz at *
        refine hK _ _ ⟨⟨wz, DD.out⟩, rfl⟩ ?_
        clear hK K y1 y2 y3 y4 y5
        refine forkT_last (by simp only [opsAt, List.getElem?_toArray, List.getElem?_cons_succ, List.getElem?_cons_zero]; rfl) ?_
        refine wpQuiet_nil ?_
        have FB := Lib.hid (BB.out.trans (DD.out.mono BB.out.size))
        have F10 := Lib.hid (X10.out.below DD.out (Nat.lt_trans (Nat.lt_succ_self _) s1.out))
        have F11 := Lib.hid (X11.out.below DD.out s1.out)
        have hz0 : w.heap.size + 1 < z := Nat.lt_of_lt_of_le s1.out hz.out
        clear DD hz c0 c1
        obtain ⟨z1, z2, z3, z4, z5⟩ := ZZ.out
        obtain ⟨t1, t2, t3, t4, t5⟩ := F10.out
        go_wp2
        have FF := Lib.hid (F10.out.set i1 i2)
        have FB := Lib.hid ((FB.out.setCell (p := ⟨w.heap.size, 0, none⟩) (Nat.le_refl _) (.int .u64 (i1.toNat : Int))).setCell (p := ⟨w.heap.size, 1, none⟩) (Nat.le_refl _) (.int .u64 (i2.toNat : Int)))
        generalize (wz.setCell ⟨w.heap.size, 0, none⟩ (.int .u64 (i1.toNat : Int))).setCell ⟨w.heap.size, 1, none⟩ (.int .u64 (i2.toNat : Int)) = wf at *
        clear z1 z2 z3 z4 z5 t1 t2 t3 t4 t5
        obtain ⟨t1, t2, t3, t4, t5⟩ := FF.out
        exact bodyPost_ret (v := .agg #[.int .u64 (i1.toNat : Int), .int .u64 (i2.toNat : Int)]) (by simp [results, Try.results58, go_sem, t2, t3]) rfl ⟨rfl, FB.out⟩
      · skip
        refine oneT_call (by rfl) (by rfl) ?_
        intro K hK
        go_wp2_with fail
        have ZZ : Box v2.heap.size 0 0 (v2.alloc (.cells #[.int .u64 0, .int .u64 0] 26)) := Box.new v2 0 0 26
        have ZZ := Lib.hid ZZ
        have hz := Lib.hid DD.out.size
        have MM := Lib.hid (MM.out.alloc (.cells #[.int .u64 0, .int .u64 0] 26))
        have DD := Lib.hid (DD.out.alloc DD.out.size (.cells #[.int .u64 0, .int .u64 0] 26))
        refine hK _ _ ⟨⟨_, DD.out⟩, rfl⟩ ?_
        clear hK K
        obtain ⟨z, hzz⟩ : ∃ z, z = v2.heap.size := ⟨_, rfl⟩
        generalize v2.alloc (.cells #[.int .u64 0, .int .u64 0] 26) = v6 at *
        rw [← hzz] at ZZ hz ⊢
        clear hzz
        refine forkT_call (by simp only [opsAt, List.getElem?_toArray, List.getElem?_cons_succ, List.getElem?_cons_zero]; rfl) ?_
        refine wpQuiet_nil ?_
        refine oneT_call (by rfl) (by rfl) ?_
        intro K hK
        go_wp2_with fail
        refine (O2.out _ _ MM.out).mono ?_
        rintro e v7 ⟨rfl, b2⟩
        have DD := Lib.hid (DD.out.trans (b2.mono DD.out.size))
        have ZZ := Lib.hid (ZZ.out.step b2)
        clear b2 MM
        simp only []
        refine hK _ _ ⟨⟨v7, DD.out⟩, rfl⟩ ?_
        clear hK K
        refine forkT_call (by simp only [opsAt, List.getElem?_toArray, List.getElem?_cons_succ, List.getElem?_cons_zero]; rfl) ?_
        refine wpQuiet_nil ?_
        refine oneT_call (by rfl) (by rfl) ?_
        intro K hK
        obtain ⟨y1, y2, y3, y4, y5⟩ := ZZ.out
        have ZZ := Lib.hid (ZZ.out.set i1 i2)
        have DD := Lib.hid ((DD.out.setCell (p := ⟨z, 0, none⟩) hz.out (.int .u64 (i1.toNat : Int))).setCell (p := ⟨z, 1, none⟩) hz.out (.int .u64 (i2.toNat : Int)))
        go_wp2_with fail
        generalize (v7.setCell ⟨z, 0, none⟩ (.int .u64 (i1.toNat : Int))).setCell ⟨z, 1, none⟩ (.int .u64 (i2.toNat : Int)) = wz at *
        refine hK _ _ ⟨⟨wz, DD.out⟩, rfl⟩ ?_
        clear hK K y1 y2 y3 y4 y5
        refine forkT_last (by simp only [opsAt, List.getElem?_toArray, List.getElem?_cons_succ, List.getElem?_cons_zero]; rfl) ?_
        refine wpQuiet_nil ?_
        have FB := Lib.hid (BB.out.trans (DD.out.mono BB.out.size))
        have F10 := Lib.hid (X10.out.below DD.out (Nat.lt_trans (Nat.lt_succ_self _) s1.out))
        have F11 := Lib.hid (X11.out.below DD.out s1.out)
        have hz0 : w.heap.size + 1 < z := Nat.lt_of_lt_of_le s1.out hz.out
        clear DD hz c0 c1
        obtain ⟨z1, z2, z3, z4, z5⟩ := ZZ.out
        obtain ⟨t1, t2, t3, t4, t5⟩ := F10.out
        go_wp2
        have FF := Lib.hid (F10.out.set i1 i2)
        have FB := Lib.hid ((FB.out.setCell (p := ⟨w.heap.size, 0, none⟩) (Nat.le_refl _) (.int .u64 (i1.toNat : Int))).setCell (p := ⟨w.heap.size, 1, none⟩) (Nat.le_refl _) (.int .u64 (i2.toNat : Int)))
        generalize (wz.setCell ⟨w.heap.size, 0, none⟩ (.int .u64 (i1.toNat : Int))).setCell ⟨w.heap.size, 1, none⟩ (.int .u64 (i2.toNat : Int)) = wf at *
        clear z1 z2 z3 z4 z5 t1 t2 t3 t4 t5
        obtain ⟨t1, t2, t3, t4, t5⟩ := FF.out
        exact bodyPost_ret (v := .agg #[.int .u64 (i1.toNat : Int), .int .u64 (i2.toNat : Int)]) (by simp [results, Try.results58, go_sem, t2, t3]) rfl ⟨rfl, FB.out⟩
    · skip
      refine oneT_call (by rfl) (by rfl) ?_
      intro K hK
      go_wp2_with fail
      have ZZ : Box v1.heap.size 0 0 (v1.alloc (.cells #[.int .u64 0, .int .u64 0] 26)) := Box.new v1 0 0 26
      have ZZ := Lib.hid ZZ
      have hz := Lib.hid DD.out.size
      have DD := Lib.hid (DD.out.alloc DD.out.size (.cells #[.int .u64 0, .int .u64 0] 26))
      refine hK _ _ ⟨⟨_, DD.out⟩, rfl⟩ ?_
      clear hK K
      obtain ⟨z, hzz⟩ : ∃ z, z = v1.heap.size := ⟨_, rfl⟩
      generalize v1.alloc (.cells #[.int .u64 0, .int .u64 0] 26) = v9 at *
      rw [← hzz] at ZZ hz ⊢
      clear hzz
      refine forkT_call (by simp only [opsAt, List.getElem?_toArray, List.getElem?_cons_succ, List.getElem?_cons_zero]; rfl) ?_
      refine wpQuiet_nil ?_
      refine oneT_call (by rfl) (by rfl) ?_
      intro K hK
      go_wp2_with fail
      have MM := Lib.hid (Box.new v9 m1 m2 26)
      have ZZ := Lib.hid (ZZ.out.alloc (.cells #[.int .u64 (m1.toNat : Int), .int .u64 (m2.toNat : Int)] 26))
      have DD := Lib.hid (DD.out.alloc DD.out.size (.cells #[.int .u64 (m1.toNat : Int), .int .u64 (m2.toNat : Int)] 26))
      refine hK _ _ ⟨⟨_, DD.out⟩, rfl⟩ ?_
      clear hK K
      generalize v9.alloc (.cells #[.int .u64 (m1.toNat : Int), .int .u64 (m2.toNat : Int)] 26) = v10 at *
      refine forkT_call (by simp only [opsAt, List.getElem?_toArray, List.getElem?_cons_succ, List.getElem?_cons_zero]; rfl) ?_
      refine wpQuiet_nil ?_
      refine oneT_call (by rfl) (by rfl) ?_
      intro K hK
      go_wp2_with fail
      refine (O2.out _ _ MM.out).mono ?_
      rintro e v11 ⟨rfl, b2⟩
      have DD := Lib.hid (DD.out.trans (b2.mono DD.out.size))
      have ZZ := Lib.hid (ZZ.out.step b2)
      clear b2 MM
      simp only []
      refine hK _ _ ⟨⟨v11, DD.out⟩, rfl⟩ ?_
      clear hK K
      refine forkT_call (by simp only [opsAt, List.getElem?_toArray, List.getElem?_cons_succ, List.getElem?_cons_zero]; rfl) ?_
      refine wpQuiet_nil ?_
      refine oneT_call (by rfl) (by rfl) ?_
      intro K hK
      obtain ⟨y1, y2, y3, y4, y5⟩ := ZZ.out
      have ZZ := Lib.hid (ZZ.out.set i1 i2)
      have DD := Lib.hid ((DD.out.setCell (p := ⟨z, 0, none⟩) hz.out (.int .u64 (i1.toNat : Int))).setCell (p := ⟨z, 1, none⟩) hz.out (.int .u64 (i2.toNat : Int)))
      go_wp2_with fail
      generalize (v11.setCell ⟨z, 0, none⟩ (.int .u64 (i1.toNat : Int))).setCell ⟨z, 1, none⟩ (.int .u64 (i2.toNat : Int)) = wz at *
      refine hK _ _ ⟨⟨wz, DD.out⟩, rfl⟩ ?_
      clear hK K y1 y2 y3 y4 y5
      refine forkT_last (by simp only [opsAt, List.getElem?_toArray, List.getElem?_cons_succ, List.getElem?_cons_zero]; rfl) ?_
      refine wpQuiet_nil ?_
      have FB := Lib.hid (BB.out.trans (DD.out.mono BB.out.size))
      have F10 := Lib.hid (X10.out.below DD.out (Nat.lt_trans (Nat.lt_succ_self _) s1.out))
      have F11 := Lib.hid (X11.out.below DD.out s1.out)
      have hz0 : w.heap.size + 1 < z := Nat.lt_of_lt_of_le s1.out hz.out
      clear DD hz c0 c1
      obtain ⟨z1, z2, z3, z4, z5⟩ := ZZ.out
      obtain ⟨t1, t2, t3, t4, t5⟩ := F10.out
      go_wp2
      have FF := Lib.hid (F10.out.set i1 i2)
      have FB := Lib.hid ((FB.out.setCell (p := ⟨w.heap.size, 0, none⟩) (Nat.le_refl _) (.int .u64 (i1.toNat : Int))).setCell (p := ⟨w.heap.size, 1, none⟩) (Nat.le_refl _) (.int .u64 (i2.toNat : Int)))
      generalize (wz.setCell ⟨w.heap.size, 0, none⟩ (.int .u64 (i1.toNat : Int))).setCell ⟨w.heap.size, 1, none⟩ (.int .u64 (i2.toNat : Int)) = wf at *
      clear z1 z2 z3 z4 z5 t1 t2 t3 t4 t5
      obtain ⟨t1, t2, t3, t4, t5⟩ := FF.out
      exact bodyPost_ret (v := .agg #[.int .u64 (i1.toNat : Int), .int .u64 (i2.toNat : Int)]) (by simp [results, Try.results58, go_sem, t2, t3]) rfl ⟨rfl, FB.out⟩
  · skip
    refine oneT_call (by rfl) (by rfl) ?_
    intro K hK
    go_wp2_with fail
    have ZZ : Box wd.heap.size 0 0 (wd.alloc (.cells #[.int .u64 0, .int .u64 0] 26)) := Box.new wd 0 0 26
    have ZZ := Lib.hid ZZ
    have hz := Lib.hid DD.out.size
    have DD := Lib.hid (DD.out.alloc DD.out.size (.cells #[.int .u64 0, .int .u64 0] 26))
    refine hK _ _ ⟨⟨_, DD.out⟩, rfl⟩ ?_
    clear hK K
    obtain ⟨z, hzz⟩ : ∃ z, z = wd.heap.size := ⟨_, rfl⟩
    generalize wd.alloc (.cells #[.int .u64 0, .int .u64 0] 26) = v13 at *
    rw [← hzz] at ZZ hz ⊢
    clear hzz
    refine forkT_call (by simp only [opsAt, List.getElem?_toArray, List.getElem?_cons_succ, List.getElem?_cons_zero]; rfl) ?_
    refine wpQuiet_nil ?_
    refine oneT_call (by rfl) (by rfl) ?_
    intro K hK
    go_wp2_with fail
    refine (O1.out _).mono ?_
    rintro e v14 ⟨rfl, b2⟩
    have DD := Lib.hid (DD.out.trans (b2.mono DD.out.size))
    have ZZ := Lib.hid (ZZ.out.step b2)
    clear b2
    simp only []
    refine hK _ _ ⟨⟨v14, DD.out⟩, rfl⟩ ?_
    clear hK K
    refine forkT_call (by simp only [opsAt, List.getElem?_toArray, List.getElem?_cons_succ, List.getElem?_cons_zero]; rfl) ?_
    refine wpQuiet_nil ?_
    refine oneT_call (by rfl) (by rfl) ?_
    intro K hK
    go_wp2_with fail
    have MM := Lib.hid (Box.new v14 m1 m2 26)
    have ZZ := Lib.hid (ZZ.out.alloc (.cells #[.int .u64 (m1.toNat : Int), .int .u64 (m2.toNat : Int)] 26))
    have DD := Lib.hid (DD.out.alloc DD.out.size (.cells #[.int .u64 (m1.toNat : Int), .int .u64 (m2.toNat : Int)] 26))
    refine hK _ _ ⟨⟨_, DD.out⟩, rfl⟩ ?_
    clear hK K
    generalize v14.alloc (.cells #[.int .u64 (m1.toNat : Int), .int .u64 (m2.toNat : Int)] 26) = v15 at *
    refine forkT_call (by simp only [opsAt, List.getElem?_toArray, List.getElem?_cons_succ, List.getElem?_cons_zero]; rfl) ?_
    refine wpQuiet_nil ?_
    refine oneT_call (by rfl) (by rfl) ?_
    intro K hK
    go_wp2_with fail
    refine (O2.out _ _ MM.out).mono ?_
    rintro e v16 ⟨rfl, b2⟩
    have DD := Lib.hid (DD.out.trans (b2.mono DD.out.size))
    have ZZ := Lib.hid (ZZ.out.step b2)
    clear b2 MM
    simp only []
    refine hK _ _ ⟨⟨v16, DD.out⟩, rfl⟩ ?_
    clear hK K
    refine forkT_call (by simp only [opsAt, List.getElem?_toArray, List.getElem?_cons_succ, List.getElem?_cons_zero]; rfl) ?_
    refine wpQuiet_nil ?_
    refine oneT_call (by rfl) (by rfl) ?_
    intro K hK
    obtain ⟨y1, y2, y3, y4, y5⟩ := ZZ.out
    have ZZ := Lib.hid (ZZ.out.set i1 i2)
    have DD := Lib.hid ((DD.out.setCell (p := ⟨z, 0, none⟩) hz.out (.int .u64 (i1.toNat : Int))).setCell (p := ⟨z, 1, none⟩) hz.out (.int .u64 (i2.toNat : Int)))
    go_wp2_with fail
    generalize (v16.setCell ⟨z, 0, none⟩ (.int .u64 (i1.toNat : Int))).setCell ⟨z, 1, none⟩ (.int .u64 (i2.toNat : Int)) = wz at *
    refine hK _ _ ⟨⟨wz, DD.out⟩, rfl⟩ ?_
    clear hK K y1 y2 y3 y4 y5
    refine forkT_last (by simp only [opsAt, List.getElem?_toArray, List.getElem?_cons_succ, List.getElem?_cons_zero]; rfl) ?_
    refine wpQuiet_nil ?_
    have FB := Lib.hid (BB.out.trans (DD.out.mono BB.out.size))
    have F10 := Lib.hid (X10.out.below DD.out (Nat.lt_trans (Nat.lt_succ_self _) s1.out))
    have F11 := Lib.hid (X11.out.below DD.out s1.out)
    have hz0 : w.heap.size + 1 < z := Nat.lt_of_lt_of_le s1.out hz.out
    clear DD hz c0 c1
    obtain ⟨z1, z2, z3, z4, z5⟩ := ZZ.out
    obtain ⟨t1, t2, t3, t4, t5⟩ := F10.out
    go_wp2
    have FF := Lib.hid (F10.out.set i1 i2)
    have FB := Lib.hid ((FB.out.setCell (p := ⟨w.heap.size, 0, none⟩) (Nat.le_refl _) (.int .u64 (i1.toNat : Int))).setCell (p := ⟨w.heap.size, 1, none⟩) (Nat.le_refl _) (.int .u64 (i2.toNat : Int)))
    generalize (wz.setCell ⟨w.heap.size, 0, none⟩ (.int .u64 (i1.toNat : Int))).setCell ⟨w.heap.size, 1, none⟩ (.int .u64 (i2.toNat : Int)) = wf at *
    clear z1 z2 z3 z4 z5 t1 t2 t3 t4 t5
    obtain ⟨t1, t2, t3, t4, t5⟩ := FF.out
    exact bodyPost_ret (v := .agg #[.int .u64 (i1.toNat : Int), .int .u64 (i2.toNat : Int)]) (by simp [results, Try.results58, go_sem, t2, t3]) rfl ⟨rfl, FB.out⟩

set_option maxRecDepth 100000 in
set_option maxHeartbeats 4000000 in
theorem sprite_16_false (b x width : Int) (p m1 m2 i1 i2 : BitVec 64) (j1 j2 q1 q2 : BitVec 64) (ej : mv (p ++ 0#64) (x - width) = j1 ++ j2) (hq1 : i1 ^^^ j1 = q1) (hq2 : i2 ^^^ j2 = q2) (w : World) (hp : IntKind.u64.wrap (b * 281474976710656) = (p.toNat : Int)) (b0 : 0 ≤ b) (b1 : b ≤ 65535) (x0 : 0 ≤ x) (x1 : x ≤ 128) (w0 : 0 ≤ width) (w1 : width ≤ 128)
    (em : firsts width = m1 ++ m2) (ei : shift (p ++ 0#64) x width = i1 ++ i2) :
    Calls Try.prog 58 #[.int .u16 b, .int .i64 16, .int .i64 x, .int .i64 width, .bool false] w fun e w' => e = .returned (.agg #[.int .u64 (q1.toNat : Int), .int .u64 (q2.toNat : Int)]) ∧ Below w.heap.size w w' := by
  have f1 := IntWalk.i64_in (x - width) (by omega)
  have O1 := Lib.hid (firsts_words em w0 w1)
  have O2 := Lib.hid fun w b X => shift_words p 0#64 x width i1 i2 ei w b m1 m2 em X (by omega) (by omega)
  have O3 := Lib.hid (move0_words ej (by omega) (by omega))
  have O4 := Lib.hid (xor_words hq1 hq2)
  clear ej hq1 hq2
  clear em ei
  go_enter Try.func58, Try.ntmps58
  go_wp2_with fail
  clear hp
  have X10 : Box w.heap.size 0 0 ((w.alloc (.cells #[.int .u64 0, .int .u64 0] 26)).alloc (.cells #[.int .u64 (p.toNat : Int), .int .u64 0] 26)) := (Box.new w 0 0 26).alloc _
  have X11 : Box (w.heap.size + 1) p 0#64 ((w.alloc (.cells #[.int .u64 0, .int .u64 0] 26)).alloc (.cells #[.int .u64 (p.toNat : Int), .int .u64 0] 26)) := by
    have := Box.new (w.alloc (.cells #[.int .u64 0, .int .u64 0] 26)) p 0#64 26
    rw [World.size_alloc] at this
    exact this
  have BB := Lib.hid ((((Below.refl _ w).alloc (Nat.le_refl _) (.cells #[.int .u64 0, .int .u64 0] 26)).alloc (by simp) (.cells #[.int .u64 (p.toNat : Int), .int .u64 0] 26)))
  have s1 := Lib.hid X11.lt
  have X10 := Lib.hid X10
  have X11 := Lib.hid X11
  generalize (w.alloc (.cells #[.int .u64 0, .int .u64 0] 26)).alloc (.cells #[.int .u64 (p.toNat : Int), .int .u64 0] 26) = wa at *
  have c0 : ∀ x : Calm wa, x.w.cell? ⟨w.heap.size + 1, 0, none⟩ = some (.int .u64 (p.toNat : Int)) := fun x => X11.out.c0 ▸ x.below.cell (p := ⟨w.heap.size + 1, 0, none⟩) s1.out
  have c1 : ∀ x : Calm wa, x.w.cell? ⟨w.heap.size + 1, 1, none⟩ = some (.int .u64 0) := fun x => X11.out.c1 ▸ x.below.cell (p := ⟨w.heap.size + 1, 1, none⟩) s1.out
  refine wp_region_fork (C := fun w' => ∃ x : Calm wa, w' = x.w) (.fork [0, 1, 2] 3 (.fork [] 4 (.fork [] 5 (.call [] 6 (.call [] 7 (.last []))) 6 (.call [] 5 (.call [] 7 (.last [])))) 6 (.call [] 4 (.call [] 5 (.call [] 7 (.last []))))) 6 (.call [] 3 (.call [] 4 (.call [] 5 (.call [] 7 (.last [])))))) (by kernel_rfl) (by kernel_rfl) (fun _ _ d _ _ h => by cases d <;> exact h) ⟨⟨wa.drew, (Below.refl _ _).drew⟩, rfl⟩ ?_
  intro wd hwd
  have DD := Lib.hid (show Below wa.heap.size wa wd by rw [hwd]; exact (Below.refl _ _).drew)
  clear hwd
  refine forkT_fork (by simp only [opsAt, List.getElem?_toArray, List.getElem?_cons_succ, List.getElem?_cons_zero]; rfl) ?_
  repeat (go_big_quiet_step (fail))
  refine wpQuiet_nil ?_
  refine ⟨?_, ?_⟩
  · skip
    refine oneT_call (by rfl) (by rfl) ?_
    intro K hK
    go_wp2_with fail
    refine (O1.out _).mono ?_
    rintro e v1 ⟨rfl, b2⟩
    have DD := Lib.hid (DD.out.trans (b2.mono DD.out.size))
    clear b2
    simp only []
    refine hK _ _ ⟨⟨v1, DD.out⟩, rfl⟩ ?_
    clear hK K
    refine forkT_fork (by simp only [opsAt, List.getElem?_toArray, List.getElem?_cons_succ, List.getElem?_cons_zero]; rfl) ?_
    refine wpQuiet_nil ?_
    refine ⟨?_, ?_⟩
    · skip
      refine oneT_call (by rfl) (by rfl) ?_
      intro K hK
      go_wp2_with fail
      have MM := Lib.hid (Box.new v1 m1 m2 26)
      have DD := Lib.hid (DD.out.alloc DD.out.size (.cells #[.int .u64 (m1.toNat : Int), .int .u64 (m2.toNat : Int)] 26))
      refine hK _ _ ⟨⟨_, DD.out⟩, rfl⟩ ?_
      clear hK K
      generalize v1.alloc (.cells #[.int .u64 (m1.toNat : Int), .int .u64 (m2.toNat : Int)] 26) = v2 at *
      refine forkT_fork (by simp only [opsAt, List.getElem?_toArray, List.getElem?_cons_succ, List.getElem?_cons_zero]; rfl) ?_
      refine wpQuiet_nil ?_
      refine ⟨?_, ?_⟩
      · skip
        refine oneT_call (by rfl) (by rfl) ?_
        intro K hK
        go_wp2_with fail
        refine (O2.out _ _ MM.out).mono ?_
        rintro e v3 ⟨rfl, b2⟩
        have DD := Lib.hid (DD.out.trans (b2.mono DD.out.size))
        clear b2 MM
        simp only []
        refine hK _ _ ⟨⟨v3, DD.out⟩, rfl⟩ ?_
        clear hK K
        refine forkT_call (by simp only [opsAt, List.getElem?_toArray, List.getElem?_cons_succ, List.getElem?_cons_zero]; rfl) ?_
        refine wpQuiet_nil ?_
        refine oneT_call (by rfl) (by rfl) ?_
        intro K hK
        go_wp2_with fail
        have ZZ : Box v3.heap.size 0 0 (v3.alloc (.cells #[.int .u64 0, .int .u64 0] 26)) := Box.new v3 0 0 26
        have ZZ := Lib.hid ZZ
        have hz := Lib.hid DD.out.size
        have DD := Lib.hid (DD.out.alloc DD.out.size (.cells #[.int .u64 0, .int .u64 0] 26))
        refine hK _ _ ⟨⟨_, DD.out⟩, rfl⟩ ?_
        clear hK K
        obtain ⟨z, hzz⟩ : ∃ z, z = v3.heap.size := ⟨_, rfl⟩
        generalize v3.alloc (.cells #[.int .u64 0, .int .u64 0] 26) = v4 at *
        rw [← hzz] at ZZ hz ⊢
        clear hzz
        refine forkT_call (by simp only [opsAt, List.getElem?_toArray, List.getElem?_cons_succ, List.getElem?_cons_zero]; rfl) ?_
        refine wpQuiet_nil ?_
        refine oneT_call (by rfl) (by rfl) ?_
        intro K hK
        obtain ⟨y1, y2, y3, y4, y5⟩ := ZZ.out
        have ZZ := Lib.hid (ZZ.out.set i1 i2)
        have DD := Lib.hid ((DD.out.setCell (p := ⟨z, 0, none⟩) hz.out (.int .u64 (i1.toNat : Int))).setCell (p := ⟨z, 1, none⟩) hz.out (.int .u64 (i2.toNat : Int)))
        go_wp2_with fail
        generalize (v4.setCell ⟨z, 0, none⟩ (.int .u64 (i1.toNat : Int))).setCell ⟨z, 1, none⟩ (.int .u64 (i2.toNat : Int)) = wz at *
        refine hK _ _ ⟨⟨wz, DD.out⟩, rfl⟩ ?_
        clear hK K y1 y2 y3 y4 y5
        refine forkT_last (by simp only [opsAt, List.getElem?_toArray, List.getElem?_cons_succ, List.getElem?_cons_zero]; rfl) ?_
        refine wpQuiet_nil ?_
        have FB := Lib.hid (BB.out.trans (DD.out.mono BB.out.size))
        have F10 := Lib.hid (X10.out.below DD.out (Nat.lt_trans (Nat.lt_succ_self _) s1.out))
        have F11 := Lib.hid (X11.out.below DD.out s1.out)
        have hz0 : w.heap.size + 1 < z := Nat.lt_of_lt_of_le s1.out hz.out
        clear DD hz c0 c1
        obtain ⟨z1, z2, z3, z4, z5⟩ := ZZ.out
        obtain ⟨t1, t2, t3, t4, t5⟩ := F10.out
        clear t1 t2 t3 t4 t5 z1 z2 z3 z4 z5
        go_wp2_with fail
        haveI : Nonempty (Two (w.heap.size + 1) z p 0#64 i1 i2) := ⟨⟨wz, F11.out, ZZ.out⟩⟩
        have d0 : ∀ x : Two (w.heap.size + 1) z p 0#64 i1 i2, x.w.cell? ⟨w.heap.size + 1, 0, none⟩ = some (.int .u64 (p.toNat : Int)) := fun x => x.left.c0
        have d1 : ∀ x : Two (w.heap.size + 1) z p 0#64 i1 i2, x.w.cell? ⟨w.heap.size + 1, 1, none⟩ = some (.int .u64 0) := fun x => x.left.c1
        have d2 : ∀ x : Two (w.heap.size + 1) z p 0#64 i1 i2, x.w.cell? ⟨z, 0, none⟩ = some (.int .u64 (i1.toNat : Int)) := fun x => x.right.c0
        have d3 : ∀ x : Two (w.heap.size + 1) z p 0#64 i1 i2, x.w.cell? ⟨z, 1, none⟩ = some (.int .u64 (i2.toNat : Int)) := fun x => x.right.c1
        have G10 := Lib.hid F10.out.drew
        have G11 := Lib.hid F11.out.drew
        have GZ := Lib.hid ZZ.out.drew
        have GB := Lib.hid FB.out.drew
        clear F10 F11 ZZ FB
        refine wp_region_mix (C := fun w' => ∃ x : Two (w.heap.size + 1) z p 0#64 i1 i2, w' = x.w) [([0, 1, 2, 3, 4], 5), ([], 6), ([], 7)] [] (by kernel_rfl) (by kernel_rfl) (fun _ _ d _ _ h => by cases d <;> exact h) ⟨⟨wz.drew, G11.out, GZ.out⟩, rfl⟩ ?_
        intro wy hwy
        generalize wz.drew = wq at *
        subst hwy
        refine mix_run (by simp only [opsAt, List.getElem?_toArray, List.getElem?_cons_succ, List.getElem?_cons_zero]; rfl) (by rfl) ?_
        repeat (go_big_quiet_step (fail))
        refine wpQuiet_nil ?_
        refine mix_call (by rfl) ?_
        intro K hK
        clear d0 d1 d2 d3
        go_wp2_with fail
        refine (O3.out _).mono ?_
        rintro e wr ⟨rfl, b2⟩
        have G10 := Lib.hid (G10.out.step b2)
        have G11 := Lib.hid (G11.out.step b2)
        have GZ := Lib.hid (GZ.out.step b2)
        have GB := Lib.hid (GB.out.trans (b2.mono GB.out.size))
        clear b2
        simp only []
        refine hK _ _ ⟨⟨wr, G11.out, GZ.out⟩, rfl⟩ ?_
        clear hK K
        refine mix_run (by simp only [opsAt, List.getElem?_toArray, List.getElem?_cons_succ, List.getElem?_cons_zero]; rfl) (by rfl) ?_
        refine wpQuiet_nil ?_
        refine mix_call (by rfl) ?_
        intro K hK
        go_wp2_with fail
        refine (O4.out _).mono ?_
        rintro e ws ⟨rfl, b2⟩
        have G10 := Lib.hid (G10.out.step b2)
        have G11 := Lib.hid (G11.out.step b2)
        have GZ := Lib.hid (GZ.out.step b2)
        have GB := Lib.hid (GB.out.trans (b2.mono GB.out.size))
        clear b2
        simp only []
        refine hK _ _ ⟨⟨ws, G11.out, GZ.out⟩, rfl⟩ ?_
        clear hK K
        refine mix_run (by simp only [opsAt, List.getElem?_toArray, List.getElem?_cons_succ, List.getElem?_cons_zero]; rfl) (by rfl) ?_
        refine wpQuiet_nil ?_
        refine mix_call (by rfl) ?_
        intro K hK
        obtain ⟨t1, t2, t3, t4, t5⟩ := G10.out
        have FF := Lib.hid (G10.out.set q1 q2)
        have G11 := Lib.hid ((G11.out.other (g := w.heap.size) (by omega) 0 (.int .u64 (q1.toNat : Int))).other (g := w.heap.size) (by omega) 1 (.int .u64 (q2.toNat : Int)))
        have GZ := Lib.hid ((GZ.out.other (g := w.heap.size) (by omega) 0 (.int .u64 (q1.toNat : Int))).other (g := w.heap.size) (by omega) 1 (.int .u64 (q2.toNat : Int)))
        have FB := Lib.hid ((GB.out.setCell (p := ⟨w.heap.size, 0, none⟩) (Nat.le_refl _) (.int .u64 (q1.toNat : Int))).setCell (p := ⟨w.heap.size, 1, none⟩) (Nat.le_refl _) (.int .u64 (q2.toNat : Int)))
        go_wp2_with fail
        generalize (ws.setCell ⟨w.heap.size, 0, none⟩ (.int .u64 (q1.toNat : Int))).setCell ⟨w.heap.size, 1, none⟩ (.int .u64 (q2.toNat : Int)) = wf at *
        refine hK _ _ ⟨⟨wf, G11.out, GZ.out⟩, rfl⟩ ?_
        clear hK K t1 t2 t3 t4 t5
        refine mix_last (by simp only [opsAt, List.getElem?_toArray, List.getElem?_cons_succ, List.getElem?_cons_zero]; rfl) ?_
        refine wpQuiet_nil ?_
        obtain ⟨t1, t2, t3, t4, t5⟩ := FF.out
        go_wp2
        exact bodyPost_ret (v := .agg #[.int .u64 (q1.toNat : Int), .int .u64 (q2.toNat : Int)]) (by simp [results, Try.results58, go_sem, t2, t3]) rfl ⟨rfl, FB.out⟩
      · skip
        refine oneT_call (by rfl) (by rfl) ?_
        intro K hK
        go_wp2_with fail
        have ZZ : Box v2.heap.size 0 0 (v2.alloc (.cells #[.int .u64 0, .int .u64 0] 26)) := Box.new v2 0 0 26
        have ZZ := Lib.hid ZZ
        have hz := Lib.hid DD.out.size
        have MM := Lib.hid (MM.out.alloc (.cells #[.int .u64 0, .int .u64 0] 26))
        have DD := Lib.hid (DD.out.alloc DD.out.size (.cells #[.int .u64 0, .int .u64 0] 26))
        refine hK _ _ ⟨⟨_, DD.out⟩, rfl⟩ ?_
        clear hK K
        obtain ⟨z, hzz⟩ : ∃ z, z = v2.heap.size := ⟨_, rfl⟩
        generalize v2.alloc (.cells #[.int .u64 0, .int .u64 0] 26) = v6 at *
        rw [← hzz] at ZZ hz ⊢
        clear hzz
        refine forkT_call (by simp only [opsAt, List.getElem?_toArray, List.getElem?_cons_succ, List.getElem?_cons_zero]; rfl) ?_
        refine wpQuiet_nil ?_
        refine oneT_call (by rfl) (by rfl) ?_
        intro K hK
        go_wp2_with fail
        refine (O2.out _ _ MM.out).mono ?_
        rintro e v7 ⟨rfl, b2⟩
        have DD := Lib.hid (DD.out.trans (b2.mono DD.out.size))
        have ZZ := Lib.hid (ZZ.out.step b2)
        clear b2 MM
        simp only []
        refine hK _ _ ⟨⟨v7, DD.out⟩, rfl⟩ ?_
        clear hK K
        refine forkT_call (by simp only [opsAt, List.getElem?_toArray, List.getElem?_cons_succ, List.getElem?_cons_zero]; rfl) ?_
        refine wpQuiet_nil ?_
        refine oneT_call (by rfl) (by rfl) ?_
        intro K hK
        obtain ⟨y1, y2, y3, y4, y5⟩ := ZZ.out
        have ZZ := Lib.hid (ZZ.out.set i1 i2)
        have DD := Lib.hid ((DD.out.setCell (p := ⟨z, 0, none⟩) hz.out (.int .u64 (i1.toNat : Int))).setCell (p := ⟨z, 1, none⟩) hz.out (.int .u64 (i2.toNat : Int)))
        go_wp2_with fail
        generalize (v7.setCell ⟨z, 0, none⟩ (.int .u64 (i1.toNat : Int))).setCell ⟨z, 1, none⟩ (.int .u64 (i2.toNat : Int)) = wz at *
        refine hK _ _ ⟨⟨wz, DD.out⟩, rfl⟩ ?_
        clear hK K y1 y2 y3 y4 y5
        refine forkT_last (by simp only [opsAt, List.getElem?_toArray, List.getElem?_cons_succ, List.getElem?_cons_zero]; rfl) ?_
        refine wpQuiet_nil ?_
        have FB := Lib.hid (BB.out.trans (DD.out.mono BB.out.size))
        have F10 := Lib.hid (X10.out.below DD.out (Nat.lt_trans (Nat.lt_succ_self _) s1.out))
        have F11 := Lib.hid (X11.out.below DD.out s1.out)
        have hz0 : w.heap.size + 1 < z := Nat.lt_of_lt_of_le s1.out hz.out
        clear DD hz c0 c1
        obtain ⟨z1, z2, z3, z4, z5⟩ := ZZ.out
        obtain ⟨t1, t2, t3, t4, t5⟩ := F10.out
        clear t1 t2 t3 t4 t5 z1 z2 z3 z4 z5
        go_wp2_with fail
        haveI : Nonempty (Two (w.heap.size + 1) z p 0#64 i1 i2) := ⟨⟨wz, F11.out, ZZ.out⟩⟩
        have d0 : ∀ x : Two (w.heap.size + 1) z p 0#64 i1 i2, x.w.cell? ⟨w.heap.size + 1, 0, none⟩ = some (.int .u64 (p.toNat : Int)) := fun x => x.left.c0
        have d1 : ∀ x : Two (w.heap.size + 1) z p 0#64 i1 i2, x.w.cell? ⟨w.heap.size + 1, 1, none⟩ = some (.int .u64 0) := fun x => x.left.c1
        have d2 : ∀ x : Two (w.heap.size + 1) z p 0#64 i1 i2, x.w.cell? ⟨z, 0, none⟩ = some (.int .u64 (i1.toNat : Int)) := fun x => x.right.c0
        have d3 : ∀ x : Two (w.heap.size + 1) z p 0#64 i1 i2, x.w.cell? ⟨z, 1, none⟩ = some (.int .u64 (i2.toNat : Int)) := fun x => x.right.c1
        have G10 := Lib.hid F10.out.drew
        have G11 := Lib.hid F11.out.drew
        have GZ := Lib.hid ZZ.out.drew
        have GB := Lib.hid FB.out.drew
        clear F10 F11 ZZ FB
        refine wp_region_mix (C := fun w' => ∃ x : Two (w.heap.size + 1) z p 0#64 i1 i2, w' = x.w) [([0, 1, 2, 3, 4], 5), ([], 6), ([], 7)] [] (by kernel_rfl) (by kernel_rfl) (fun _ _ d _ _ h => by cases d <;> exact h) ⟨⟨wz.drew, G11.out, GZ.out⟩, rfl⟩ ?_
        intro wy hwy
        generalize wz.drew = wq at *
        subst hwy
        refine mix_run (by simp only [opsAt, List.getElem?_toArray, List.getElem?_cons_succ, List.getElem?_cons_zero]; rfl) (by rfl) ?_
        repeat (go_big_quiet_step (fail))
        refine wpQuiet_nil ?_
        refine mix_call (by rfl) ?_
        intro K hK
        clear d0 d1 d2 d3
        go_wp2_with fail
        refine (O3.out _).mono ?_
        rintro e wr ⟨rfl, b2⟩
        have G10 := Lib.hid (G10.out.step b2)
        have G11 := Lib.hid (G11.out.step b2)
        have GZ := Lib.hid (GZ.out.step b2)
        have GB := Lib.hid (GB.out.trans (b2.mono GB.out.size))
        clear b2
        simp only []
        refine hK _ _ ⟨⟨wr, G11.out, GZ.out⟩, rfl⟩ ?_
        clear hK K
        refine mix_run (by simp only [opsAt, List.getElem?_toArray, List.getElem?_cons_succ, List.getElem?_cons_zero]; rfl) (by rfl) ?_
        refine wpQuiet_nil ?_
        refine mix_call (by rfl) ?_
        intro K hK
        go_wp2_with fail
        refine (O4.out _).mono ?_
        rintro e ws ⟨rfl, b2⟩
        have G10 := Lib.hid (G10.out.step b2)
        have G11 := Lib.hid (G11.out.step b2)
        have GZ := Lib.hid (GZ.out.step b2)
        have GB := Lib.hid (GB.out.trans (b2.mono GB.out.size))
        clear b2
        simp only []
        refine hK _ _ ⟨⟨ws, G11.out, GZ.out⟩, rfl⟩ ?_
        clear hK K
        refine mix_run (by simp only [opsAt, List.getElem?_toArray, List.getElem?_cons_succ, List.getElem?_cons_zero]; rfl) (by rfl) ?_
        refine wpQuiet_nil ?_
        refine mix_call (by rfl) ?_
        intro K hK
        obtain ⟨t1, t2, t3, t4, t5⟩ := G10.out
        have FF := Lib.hid (G10.out.set q1 q2)
        have G11 := Lib.hid ((G11.out.other (g := w.heap.size) (by omega) 0 (.int .u64 (q1.toNat : Int))).other (g := w.heap.size) (by omega) 1 (.int .u64 (q2.toNat : Int)))
        have GZ := Lib.hid ((GZ.out.other (g := w.heap.size) (by omega) 0 (.int .u64 (q1.toNat : Int))).other (g := w.heap.size) (by omega) 1 (.int .u64 (q2.toNat : Int)))
        have FB := Lib.hid ((GB.out.setCell (p := ⟨w.heap.size, 0, none⟩) (Nat.le_refl _) (.int .u64 (q1.toNat : Int))).setCell (p := ⟨w.heap.size, 1, none⟩) (Nat.le_refl _) (.int .u64 (q2.toNat : Int)))
        go_wp2_with fail
        generalize (ws.setCell ⟨w.heap.size, 0, none⟩ (.int .u64 (q1.toNat : Int))).setCell ⟨w.heap.size, 1, none⟩ (.int .u64 (q2.toNat : Int)) = wf at *
        refine hK _ _ ⟨⟨wf, G11.out, GZ.out⟩, rfl⟩ ?_
        clear hK K t1 t2 t3 t4 t5
        refine mix_last (by simp only [opsAt, List.getElem?_toArray, List.getElem?_cons_succ, List.getElem?_cons_zero]; rfl) ?_
        refine wpQuiet_nil ?_
        obtain ⟨t1, t2, t3, t4, t5⟩ := FF.out
        go_wp2
        exact bodyPost_ret (v := .agg #[.int .u64 (q1.toNat : Int), .int .u64 (q2.toNat : Int)]) (by simp [results, Try.results58, go_sem, t2, t3]) rfl ⟨rfl, FB.out⟩
    · skip
      refine oneT_call (by rfl) (by rfl) ?_
      intro K hK
      go_wp2_with fail
      have ZZ : Box v1.heap.size 0 0 (v1.alloc (.cells #[.int .u64 0, .int .u64 0] 26)) := Box.new v1 0 0 26
      have ZZ := Lib.hid ZZ
      have hz := Lib.hid DD.out.size
      have DD := Lib.hid (DD.out.alloc DD.out.size (.cells #[.int .u64 0, .int .u64 0] 26))
      refine hK _ _ ⟨⟨_, DD.out⟩, rfl⟩ ?_
      clear hK K
      obtain ⟨z, hzz⟩ : ∃ z, z = v1.heap.size := ⟨_, rfl⟩
      generalize v1.alloc (.cells #[.int .u64 0, .int .u64 0] 26) = v9 at *
      rw [← hzz] at ZZ hz ⊢
      clear hzz
      refine forkT_call (by simp only [opsAt, List.getElem?_toArray, List.getElem?_cons_succ, List.getElem?_cons_zero]; rfl) ?_
      refine wpQuiet_nil ?_
      refine oneT_call (by rfl) (by rfl) ?_
      intro K hK
      go_wp2_with fail
      have MM := Lib.hid (Box.new v9 m1 m2 26)
      have ZZ := Lib.hid (ZZ.out.alloc (.cells #[.int .u64 (m1.toNat : Int), .int .u64 (m2.toNat : Int)] 26))
      have DD := Lib.hid (DD.out.alloc DD.out.size (.cells #[.int .u64 (m1.toNat : Int), .int .u64 (m2.toNat : Int)] 26))
      refine hK _ _ ⟨⟨_, DD.out⟩, rfl⟩ ?_
      clear hK K
      generalize v9.alloc (.cells #[.int .u64 (m1.toNat : Int), .int .u64 (m2.toNat : Int)] 26) = v10 at *
      refine forkT_call (by simp only [opsAt, List.getElem?_toArray, List.getElem?_cons_succ, List.getElem?_cons_zero]; rfl) ?_
      refine wpQuiet_nil ?_
      refine oneT_call (by rfl) (by rfl) ?_
      intro K hK
      go_wp2_with fail
      refine (O2.out _ _ MM.out).mono ?_
      rintro e v11 ⟨rfl, b2⟩
      have DD := Lib.hid (DD.out.trans (b2.mono DD.out.size))
      have ZZ := Lib.hid (ZZ.out.step b2)
      clear b2 MM
      simp only []
      refine hK _ _ ⟨⟨v11, DD.out⟩, rfl⟩ ?_
      clear hK K
      refine forkT_call (by simp only [opsAt, List.getElem?_toArray, List.getElem?_cons_succ, List.getElem?_cons_zero]; rfl) ?_
      refine wpQuiet_nil ?_
      refine oneT_call (by rfl) (by rfl) ?_
      intro K hK
      obtain ⟨y1, y2, y3, y4, y5⟩ := ZZ.out
      have ZZ := Lib.hid (ZZ.out.set i1 i2)
      have DD := Lib.hid ((DD.out.setCell (p := ⟨z, 0, none⟩) hz.out (.int .u64 (i1.toNat : Int))).setCell (p := ⟨z, 1, none⟩) hz.out (.int .u64 (i2.toNat : Int)))
      go_wp2_with fail
      generalize (v11.setCell ⟨z, 0, none⟩ (.int .u64 (i1.toNat : Int))).setCell ⟨z, 1, none⟩ (.int .u64 (i2.toNat : Int)) = wz at *
      refine hK _ _ ⟨⟨wz, DD.out⟩, rfl⟩ ?_
      clear hK K y1 y2 y3 y4 y5
      refine forkT_last (by simp only [opsAt, List.getElem?_toArray, List.getElem?_cons_succ, List.getElem?_cons_zero]; rfl) ?_
      refine wpQuiet_nil ?_
      have FB := Lib.hid (BB.out.trans (DD.out.mono BB.out.size))
      have F10 := Lib.hid (X10.out.below DD.out (Nat.lt_trans (Nat.lt_succ_self _) s1.out))
      have F11 := Lib.hid (X11.out.below DD.out s1.out)
      have hz0 : w.heap.size + 1 < z := Nat.lt_of_lt_of_le s1.out hz.out
      clear DD hz c0 c1
      obtain ⟨z1, z2, z3, z4, z5⟩ := ZZ.out
      obtain ⟨t1, t2, t3, t4, t5⟩ := F10.out
      clear t1 t2 t3 t4 t5 z1 z2 z3 z4 z5
      go_wp2_with fail
      haveI : Nonempty (Two (w.heap.size + 1) z p 0#64 i1 i2) := ⟨⟨wz, F11.out, ZZ.out⟩⟩
      have d0 : ∀ x : Two (w.heap.size + 1) z p 0#64 i1 i2, x.w.cell? ⟨w.heap.size + 1, 0, none⟩ = some (.int .u64 (p.toNat : Int)) := fun x => x.left.c0
      have d1 : ∀ x : Two (w.heap.size + 1) z p 0#64 i1 i2, x.w.cell? ⟨w.heap.size + 1, 1, none⟩ = some (.int .u64 0) := fun x => x.left.c1
      have d2 : ∀ x : Two (w.heap.size + 1) z p 0#64 i1 i2, x.w.cell? ⟨z, 0, none⟩ = some (.int .u64 (i1.toNat : Int)) := fun x => x.right.c0
      have d3 : ∀ x : Two (w.heap.size + 1) z p 0#64 i1 i2, x.w.cell? ⟨z, 1, none⟩ = some (.int .u64 (i2.toNat : Int)) := fun x => x.right.c1
      have G10 := Lib.hid F10.out.drew
      have G11 := Lib.hid F11.out.drew
      have GZ := Lib.hid ZZ.out.drew
      have GB := Lib.hid FB.out.drew
      clear F10 F11 ZZ FB
      refine wp_region_mix (C := fun w' => ∃ x : Two (w.heap.size + 1) z p 0#64 i1 i2, w' = x.w) [([0, 1, 2, 3, 4], 5), ([], 6), ([], 7)] [] (by kernel_rfl) (by kernel_rfl) (fun _ _ d _ _ h => by cases d <;> exact h) ⟨⟨wz.drew, G11.out, GZ.out⟩, rfl⟩ ?_
      intro wy hwy
      generalize wz.drew = wq at *
      subst hwy
      refine mix_run (by simp only [opsAt, List.getElem?_toArray, List.getElem?_cons_succ, List.getElem?_cons_zero]; rfl) (by rfl) ?_
      repeat (go_big_quiet_step (fail))
      refine wpQuiet_nil ?_
      refine mix_call (by rfl) ?_
      intro K hK
      clear d0 d1 d2 d3
      go_wp2_with fail
      refine (O3.out _).mono ?_
      rintro e wr ⟨rfl, b2⟩
      have G10 := Lib.hid (G10.out.step b2)
      have G11 := Lib.hid (G11.out.step b2)
      have GZ := Lib.hid (GZ.out.step b2)
      have GB := Lib.hid (GB.out.trans (b2.mono GB.out.size))
      clear b2
      simp only []
      refine hK _ _ ⟨⟨wr, G11.out, GZ.out⟩, rfl⟩ ?_
      clear hK K
      refine mix_run (by simp only [opsAt, List.getElem?_toArray, List.getElem?_cons_succ, List.getElem?_cons_zero]; rfl) (by rfl) ?_
      refine wpQuiet_nil ?_
      refine mix_call (by rfl) ?_
      intro K hK
      go_wp2_with fail
      refine (O4.out _).mono ?_
      rintro e ws ⟨rfl, b2⟩
      have G10 := Lib.hid (G10.out.step b2)
      have G11 := Lib.hid (G11.out.step b2)
      have GZ := Lib.hid (GZ.out.step b2)
      have GB := Lib.hid (GB.out.trans (b2.mono GB.out.size))
      clear b2
      simp only []
      refine hK _ _ ⟨⟨ws, G11.out, GZ.out⟩, rfl⟩ ?_
      clear hK K
      refine mix_run (by simp only [opsAt, List.getElem?_toArray, List.getElem?_cons_succ, List.getElem?_cons_zero]; rfl) (by rfl) ?_
      refine wpQuiet_nil ?_
      refine mix_call (by rfl) ?_
      intro K hK
      obtain ⟨t1, t2, t3, t4, t5⟩ := G10.out
      have FF := Lib.hid (G10.out.set q1 q2)
      have G11 := Lib.hid ((G11.out.other (g := w.heap.size) (by omega) 0 (.int .u64 (q1.toNat : Int))).other (g := w.heap.size) (by omega) 1 (.int .u64 (q2.toNat : Int)))
      have GZ := Lib.hid ((GZ.out.other (g := w.heap.size) (by omega) 0 (.int .u64 (q1.toNat : Int))).other (g := w.heap.size) (by omega) 1 (.int .u64 (q2.toNat : Int)))
      have FB := Lib.hid ((GB.out.setCell (p := ⟨w.heap.size, 0, none⟩) (Nat.le_refl _) (.int .u64 (q1.toNat : Int))).setCell (p := ⟨w.heap.size, 1, none⟩) (Nat.le_refl _) (.int .u64 (q2.toNat : Int)))
      go_wp2_with fail
      generalize (ws.setCell ⟨w.heap.size, 0, none⟩ (.int .u64 (q1.toNat : Int))).setCell ⟨w.heap.size, 1, none⟩ (.int .u64 (q2.toNat : Int)) = wf at *
      refine hK _ _ ⟨⟨wf, G11.out, GZ.out⟩, rfl⟩ ?_
      clear hK K t1 t2 t3 t4 t5
      refine mix_last (by simp only [opsAt, List.getElem?_toArray, List.getElem?_cons_succ, List.getElem?_cons_zero]; rfl) ?_
      refine wpQuiet_nil ?_
      obtain ⟨t1, t2, t3, t4, t5⟩ := FF.out
      go_wp2
      exact bodyPost_ret (v := .agg #[.int .u64 (q1.toNat : Int), .int .u64 (q2.toNat : Int)]) (by simp [results, Try.results58, go_sem, t2, t3]) rfl ⟨rfl, FB.out⟩
  · skip
    refine oneT_call (by rfl) (by rfl) ?_
    intro K hK
    go_wp2_with fail
    have ZZ : Box wd.heap.size 0 0 (wd.alloc (.cells #[.int .u64 0, .int .u64 0] 26)) := Box.new wd 0 0 26
    have ZZ := Lib.hid ZZ
    have hz := Lib.hid DD.out.size
    have DD := Lib.hid (DD.out.alloc DD.out.size (.cells #[.int .u64 0, .int .u64 0] 26))
    refine hK _ _ ⟨⟨_, DD.out⟩, rfl⟩ ?_
    clear hK K
    obtain ⟨z, hzz⟩ : ∃ z, z = wd.heap.size := ⟨_, rfl⟩
    generalize wd.alloc (.cells #[.int .u64 0, .int .u64 0] 26) = v13 at *
    rw [← hzz] at ZZ hz ⊢
    clear hzz
    refine forkT_call (by simp only [opsAt, List.getElem?_toArray, List.getElem?_cons_succ, List.getElem?_cons_zero]; rfl) ?_
    refine wpQuiet_nil ?_
    refine oneT_call (by rfl) (by rfl) ?_
    intro K hK
    go_wp2_with fail
    refine (O1.out _).mono ?_
    rintro e v14 ⟨rfl, b2⟩
    have DD := Lib.hid (DD.out.trans (b2.mono DD.out.size))
    have ZZ := Lib.hid (ZZ.out.step b2)
    clear b2
    simp only []
    refine hK _ _ ⟨⟨v14, DD.out⟩, rfl⟩ ?_
    clear hK K
    refine forkT_call (by simp only [opsAt, List.getElem?_toArray, List.getElem?_cons_succ, List.getElem?_cons_zero]; rfl) ?_
    refine wpQuiet_nil ?_
    refine oneT_call (by rfl) (by rfl) ?_
    intro K hK
    go_wp2_with fail
    have MM := Lib.hid (Box.new v14 m1 m2 26)
    have ZZ := Lib.hid (ZZ.out.alloc (.cells #[.int .u64 (m1.toNat : Int), .int .u64 (m2.toNat : Int)] 26))
    have DD := Lib.hid (DD.out.alloc DD.out.size (.cells #[.int .u64 (m1.toNat : Int), .int .u64 (m2.toNat : Int)] 26))
    refine hK _ _ ⟨⟨_, DD.out⟩, rfl⟩ ?_
    clear hK K
    generalize v14.alloc (.cells #[.int .u64 (m1.toNat : Int), .int .u64 (m2.toNat : Int)] 26) = v15 at *
    refine forkT_call (by simp only [opsAt, List.getElem?_toArray, List.getElem?_cons_succ, List.getElem?_cons_zero]; rfl) ?_
    refine wpQuiet_nil ?_
    refine oneT_call (by rfl) (by rfl) ?_
    intro K hK
    go_wp2_with fail
    refine (O2.out _ _ MM.out).mono ?_
    rintro e v16 ⟨rfl, b2⟩
    have DD := Lib.hid (DD.out.trans (b2.mono DD.out.size))
    have ZZ := Lib.hid (ZZ.out.step b2)
    clear b2 MM
    simp only []
    refine hK _ _ ⟨⟨v16, DD.out⟩, rfl⟩ ?_
    clear hK K
    refine forkT_call (by simp only [opsAt, List.getElem?_toArray, List.getElem?_cons_succ, List.getElem?_cons_zero]; rfl) ?_
    refine wpQuiet_nil ?_
    refine oneT_call (by rfl) (by rfl) ?_
    intro K hK
    obtain ⟨y1, y2, y3, y4, y5⟩ := ZZ.out
    have ZZ := Lib.hid (ZZ.out.set i1 i2)
    have DD := Lib.hid ((DD.out.setCell (p := ⟨z, 0, none⟩) hz.out (.int .u64 (i1.toNat : Int))).setCell (p := ⟨z, 1, none⟩) hz.out (.int .u64 (i2.toNat : Int)))
    go_wp2_with fail
    generalize (v16.setCell ⟨z, 0, none⟩ (.int .u64 (i1.toNat : Int))).setCell ⟨z, 1, none⟩ (.int .u64 (i2.toNat : Int)) = wz at *
    refine hK _ _ ⟨⟨wz, DD.out⟩, rfl⟩ ?_
    clear hK K y1 y2 y3 y4 y5
    refine forkT_last (by simp only [opsAt, List.getElem?_toArray, List.getElem?_cons_succ, List.getElem?_cons_zero]; rfl) ?_
    refine wpQuiet_nil ?_
    have FB := Lib.hid (BB.out.trans (DD.out.mono BB.out.size))
    have F10 := Lib.hid (X10.out.below DD.out (Nat.lt_trans (Nat.lt_succ_self _) s1.out))
    have F11 := Lib.hid (X11.out.below DD.out s1.out)
    have hz0 : w.heap.size + 1 < z := Nat.lt_of_lt_of_le s1.out hz.out
    clear DD hz c0 c1
    obtain ⟨z1, z2, z3, z4, z5⟩ := ZZ.out
    obtain ⟨t1, t2, t3, t4, t5⟩ := F10.out
    clear t1 t2 t3 t4 t5 z1 z2 z3 z4 z5
    go_wp2_with fail
    haveI : Nonempty (Two (w.heap.size + 1) z p 0#64 i1 i2) := ⟨⟨wz, F11.out, ZZ.out⟩⟩
    have d0 : ∀ x : Two (w.heap.size + 1) z p 0#64 i1 i2, x.w.cell? ⟨w.heap.size + 1, 0, none⟩ = some (.int .u64 (p.toNat : Int)) := fun x => x.left.c0
    have d1 : ∀ x : Two (w.heap.size + 1) z p 0#64 i1 i2, x.w.cell? ⟨w.heap.size + 1, 1, none⟩ = some (.int .u64 0) := fun x => x.left.c1
    have d2 : ∀ x : Two (w.heap.size + 1) z p 0#64 i1 i2, x.w.cell? ⟨z, 0, none⟩ = some (.int .u64 (i1.toNat : Int)) := fun x => x.right.c0
    have d3 : ∀ x : Two (w.heap.size + 1) z p 0#64 i1 i2, x.w.cell? ⟨z, 1, none⟩ = some (.int .u64 (i2.toNat : Int)) := fun x => x.right.c1
    have G10 := Lib.hid F10.out.drew
    have G11 := Lib.hid F11.out.drew
    have GZ := Lib.hid ZZ.out.drew
    have GB := Lib.hid FB.out.drew
    clear F10 F11 ZZ FB
    refine wp_region_mix (C := fun w' => ∃ x : Two (w.heap.size + 1) z p 0#64 i1 i2, w' = x.w) [([0, 1, 2, 3, 4], 5), ([], 6), ([], 7)] [] (by kernel_rfl) (by kernel_rfl) (fun _ _ d _ _ h => by cases d <;> exact h) ⟨⟨wz.drew, G11.out, GZ.out⟩, rfl⟩ ?_
    intro wy hwy
    generalize wz.drew = wq at *
    subst hwy
    refine mix_run (by simp only [opsAt, List.getElem?_toArray, List.getElem?_cons_succ, List.getElem?_cons_zero]; rfl) (by rfl) ?_
    repeat (go_big_quiet_step (fail))
    refine wpQuiet_nil ?_
    refine mix_call (by rfl) ?_
    intro K hK
    clear d0 d1 d2 d3
    go_wp2_with fail
    refine (O3.out _).mono ?_
    rintro e wr ⟨rfl, b2⟩
    have G10 := Lib.hid (G10.out.step b2)
    have G11 := Lib.hid (G11.out.step b2)
    have GZ := Lib.hid (GZ.out.step b2)
    have GB := Lib.hid (GB.out.trans (b2.mono GB.out.size))
    clear b2
    simp only []
    refine hK _ _ ⟨⟨wr, G11.out, GZ.out⟩, rfl⟩ ?_
    clear hK K
    refine mix_run (by simp only [opsAt, List.getElem?_toArray, List.getElem?_cons_succ, List.getElem?_cons_zero]; rfl) (by rfl) ?_
    refine wpQuiet_nil ?_
    refine mix_call (by rfl) ?_
    intro K hK
    go_wp2_with fail
    refine (O4.out _).mono ?_
    rintro e ws ⟨rfl, b2⟩
    have G10 := Lib.hid (G10.out.step b2)
    have G11 := Lib.hid (G11.out.step b2)
    have GZ := Lib.hid (GZ.out.step b2)
    have GB := Lib.hid (GB.out.trans (b2.mono GB.out.size))
    clear b2
    simp only []
    refine hK _ _ ⟨⟨ws, G11.out, GZ.out⟩, rfl⟩ ?_
    clear hK K
    refine mix_run (by simp only [opsAt, List.getElem?_toArray, List.getElem?_cons_succ, List.getElem?_cons_zero]; rfl) (by rfl) ?_
    refine wpQuiet_nil ?_
    refine mix_call (by rfl) ?_
    intro K hK
    obtain ⟨t1, t2, t3, t4, t5⟩ := G10.out
    have FF := Lib.hid (G10.out.set q1 q2)
    have G11 := Lib.hid ((G11.out.other (g := w.heap.size) (by omega) 0 (.int .u64 (q1.toNat : Int))).other (g := w.heap.size) (by omega) 1 (.int .u64 (q2.toNat : Int)))
    have GZ := Lib.hid ((GZ.out.other (g := w.heap.size) (by omega) 0 (.int .u64 (q1.toNat : Int))).other (g := w.heap.size) (by omega) 1 (.int .u64 (q2.toNat : Int)))
    have FB := Lib.hid ((GB.out.setCell (p := ⟨w.heap.size, 0, none⟩) (Nat.le_refl _) (.int .u64 (q1.toNat : Int))).setCell (p := ⟨w.heap.size, 1, none⟩) (Nat.le_refl _) (.int .u64 (q2.toNat : Int)))
    go_wp2_with fail
    generalize (ws.setCell ⟨w.heap.size, 0, none⟩ (.int .u64 (q1.toNat : Int))).setCell ⟨w.heap.size, 1, none⟩ (.int .u64 (q2.toNat : Int)) = wf at *
    refine hK _ _ ⟨⟨wf, G11.out, GZ.out⟩, rfl⟩ ?_
    clear hK K t1 t2 t3 t4 t5
    refine mix_last (by simp only [opsAt, List.getElem?_toArray, List.getElem?_cons_succ, List.getElem?_cons_zero]; rfl) ?_
    refine wpQuiet_nil ?_
    obtain ⟨t1, t2, t3, t4, t5⟩ := FF.out
    go_wp2
    exact bodyPost_ret (v := .agg #[.int .u64 (q1.toNat : Int), .int .u64 (q2.toNat : Int)]) (by simp [results, Try.results58, go_sem, t2, t3]) rfl ⟨rfl, FB.out⟩

end Go.Proofs.Ytplmmfgmbfcjpaa
