/- The reference of layer 18: Skips, Right. -/
import Derived.Test.YtfjdhhheofcanaaAluDo
namespace Go.Proofs.Ytfjdhhheofcanaa
open Go.RowKit Num Dec Cpu
set_option linter.unusedVariables false
set_option linter.unusedSimpArgs false
set_option maxRecDepth 100000

set_option maxHeartbeats 8000000 in
theorem rskips_any (v : Nat → Nat) (op : Int) (x y nn : Nat) (n addr len : Int) (w : World) (hv : OkV v) (hx : x < 16) (hy : y < 16) (hn : nn < 256) :
    Calls Try.prog 13 #[.agg (rg v), .agg (icells ⟨op, x, y, n, nn, addr, len⟩)] w fun e w' => e = .returned (.tuple #[.bool (skB v ⟨op, x, y, n, nn, addr, len⟩), .bool (skIs op)]) ∧ Below w.heap.size w w' := by
  have vx := hv x hx
  have vy := hv y hy
  have B0 := Lib.hid (show Below w.heap.size w ((w.alloc (.cells (rg v) 22)).alloc (.cells (icells ⟨op, x, y, n, nn, addr, len⟩) 24)) from (below_newP w _).alloc (by simp) _)
  have R0 := Lib.hid ((Blk.new w 22 (rg v)).alloc (.cells (icells ⟨op, x, y, n, nn, addr, len⟩) 24))
  have I0 := Lib.hid (show Blk (w.heap.size + 1) 24 (icells ⟨op, x, y, n, nn, addr, len⟩) ((w.alloc (.cells (rg v) 22)).alloc (.cells (icells ⟨op, x, y, n, nn, addr, len⟩) 24)) from by
    have h := Blk.new (w.alloc (.cells (rg v) 22)) 24 (icells ⟨op, x, y, n, nn, addr, len⟩)
    rw [World.size_alloc] at h
    exact h)
  have SK : ∀ s b, skB v ⟨op, x, y, n, nn, addr, len⟩ = b → skIs op = s → skB v ⟨op, x, y, n, nn, addr, len⟩ = b ∧ skIs op = s := fun _ _ a c => ⟨a, c⟩
  have S5 := Lib.hid (fun (h : op = 5) => (show skB v ⟨op, x, y, n, nn, addr, len⟩ = decide (v x = nn) ∧ skIs op = true from by subst h; unfold skB skIs; simp; omega))
  have S6 := Lib.hid (fun (h : op = 6) => (show skB v ⟨op, x, y, n, nn, addr, len⟩ = !decide (v x = nn) ∧ skIs op = true from by subst h; unfold skB skIs; simp; omega))
  have S7 := Lib.hid (fun (h : op = 7) => (show skB v ⟨op, x, y, n, nn, addr, len⟩ = decide (v x = v y) ∧ skIs op = true from by subst h; unfold skB skIs; first | (simp; done) | (simp; omega)))
  have S19 := Lib.hid (fun (h : op = 19) => (show skB v ⟨op, x, y, n, nn, addr, len⟩ = !decide (v x = v y) ∧ skIs op = true from by subst h; unfold skB skIs; first | (simp; done) | (simp; omega)))
  have SO := Lib.hid (fun (h : ¬ op = 5 ∧ ¬ op = 6 ∧ ¬ op = 7 ∧ ¬ op = 19) => (show skB v ⟨op, x, y, n, nn, addr, len⟩ = false ∧ skIs op = false from by obtain ⟨a, b, c, d⟩ := h; unfold skB skIs; simp [a, b, c, d]))
  clear SK
  go_enter Try.func13, Try.ntmps13
  go_upto_region 0 with fail
  refine wp_region_lit ?_
  refine list_box_all rfl _ (.tmp 0) rfl (rg v) rfl ?_
  simp only [Act.put, List.setIfInBounds_toArray, List.set_cons_zero, List.set_cons_succ]
  refine list_box_all rfl _ (.tmp 1) rfl (icells ⟨op, x, y, n, nn, addr, len⟩) rfl ?_
  simp only [Act.put, List.setIfInBounds_toArray, List.set_cons_zero, List.set_cons_succ, World.size_alloc]
  obtain ⟨g, hg⟩ : ∃ g, w.heap.size = g := ⟨_, rfl⟩
  have GL := Lib.hid hg
  rw [hg] at R0 I0 ⊢
  generalize World.alloc (World.alloc _ _) _ = w1 at R0 I0 B0 ⊢
  clear hg
  have cx : w1.cell? ⟨g, x, none⟩ = some (.int .u8 (v x : Int)) := by rw [R0.out.cell, rg_get v hx]
  have cy : w1.cell? ⟨g, y, none⟩ = some (.int .u8 (v y : Int)) := by rw [R0.out.cell, rg_get v hy]
  have i0 : w1.cell? ⟨g + 1, 0, none⟩ = some (.int .i64 op) := (I0.out.cell 0).trans rfl
  have i1 : w1.cell? ⟨g + 1, 1, none⟩ = some (.int .i64 (x : Int)) := (I0.out.cell 1).trans rfl
  have i2 : w1.cell? ⟨g + 1, 2, none⟩ = some (.int .i64 (y : Int)) := (I0.out.cell 2).trans rfl
  have i4 : w1.cell? ⟨g + 1, 4, none⟩ = some (.int .i64 (nn : Int)) := (I0.out.cell 4).trans rfl
  have kx := Calm.cell cx R0.out.lt
  have ky := Calm.cell cy R0.out.lt
  have k1 := Calm.cell i1 I0.out.lt
  have k2 := Calm.cell i2 I0.out.lt
  have k4 := Calm.cell i4 I0.out.lt
  have xi : (x : Int) < 16 := by omega
  have yi : (y : Int) < 16 := by omega
  have wx := i64_wrap (show v x < 65536 by omega)
  clear hx hy hn cx cy i1 i2 i4
  by_cases h5 : op = 5
  · have SX := Lib.hid (S5.out h5)
    clear S5 S6 S7 S19 SO
    subst h5
    go_upto_region 3 with fail
    clear i0
    by_cases he : v x = nn
    · have hI : ((v x : Nat) : Int) = ((nn : Nat) : Int) := by omega
      have SY := Lib.hid SX.out
      rw [decide_eq_true he] at SY
      refine calm_region (by kernel_rfl) (by kernel_rfl) ?_
      repeat (go_big_quiet_step (fail))
      refine wpQuiet_nil ?_
      intro _ hw'
      obtain ⟨u, rfl⟩ := hw'
      have BE := Lib.hid (B0.out.trans (u.below.mono B0.out.size))
      go_wp2_with fail
      go_ret2
      refine ⟨?_, BE.out⟩
      rw [SY.out.1, SY.out.2]
      first | rfl | (simp [he]; done) | (simp [he]; omega)
    · have hI : ¬ ((v x : Nat) : Int) = ((nn : Nat) : Int) := by omega
      have SY := Lib.hid SX.out
      rw [decide_eq_false he] at SY
      refine calm_region (by kernel_rfl) (by kernel_rfl) ?_
      repeat (go_big_quiet_step (fail))
      refine wpQuiet_nil ?_
      intro _ hw'
      obtain ⟨u, rfl⟩ := hw'
      have BE := Lib.hid (B0.out.trans (u.below.mono B0.out.size))
      go_wp2_with fail
      go_ret2
      refine ⟨?_, BE.out⟩
      rw [SY.out.1, SY.out.2]
      first | rfl | (simp [he]; done) | (simp [he]; omega)
  by_cases h6 : op = 6
  · have SX := Lib.hid (S6.out h6)
    clear S5 S6 S7 S19 SO
    subst h6
    go_upto_region 5 with fail
    clear i0
    by_cases he : v x = nn
    · have hI : ((v x : Nat) : Int) = ((nn : Nat) : Int) := by omega
      have SY := Lib.hid SX.out
      rw [decide_eq_true he] at SY
      refine calm_region (by kernel_rfl) (by kernel_rfl) ?_
      repeat (go_big_quiet_step (fail))
      refine wpQuiet_nil ?_
      intro _ hw'
      obtain ⟨u, rfl⟩ := hw'
      have BE := Lib.hid (B0.out.trans (u.below.mono B0.out.size))
      go_wp2_with fail
      go_ret2
      refine ⟨?_, BE.out⟩
      rw [SY.out.1, SY.out.2]
      first | rfl | (simp [he]; done) | (simp [he]; omega)
    · have hI : ¬ ((v x : Nat) : Int) = ((nn : Nat) : Int) := by omega
      have SY := Lib.hid SX.out
      rw [decide_eq_false he] at SY
      refine calm_region (by kernel_rfl) (by kernel_rfl) ?_
      repeat (go_big_quiet_step (fail))
      refine wpQuiet_nil ?_
      intro _ hw'
      obtain ⟨u, rfl⟩ := hw'
      have BE := Lib.hid (B0.out.trans (u.below.mono B0.out.size))
      go_wp2_with fail
      go_ret2
      refine ⟨?_, BE.out⟩
      rw [SY.out.1, SY.out.2]
      first | rfl | (simp [he]; done) | (simp [he]; omega)
  by_cases h7 : op = 7
  · have SX := Lib.hid (S7.out h7)
    clear S5 S6 S7 S19 SO
    subst h7
    go_upto_region 7 with fail
    clear i0
    by_cases he : v x = v y
    · have hI : ((v x : Nat) : Int) = ((v y : Nat) : Int) := by omega
      have SY := Lib.hid SX.out
      rw [decide_eq_true he] at SY
      refine calm_region (by kernel_rfl) (by kernel_rfl) ?_
      repeat (go_big_quiet_step (fail))
      refine wpQuiet_nil ?_
      intro _ hw'
      obtain ⟨u, rfl⟩ := hw'
      have BE := Lib.hid (B0.out.trans (u.below.mono B0.out.size))
      go_wp2_with fail
      go_ret2
      refine ⟨?_, BE.out⟩
      rw [SY.out.1, SY.out.2]
      first | rfl | (simp [he]; done) | (simp [he]; omega)
    · have hI : ¬ ((v x : Nat) : Int) = ((v y : Nat) : Int) := by omega
      have SY := Lib.hid SX.out
      rw [decide_eq_false he] at SY
      refine calm_region (by kernel_rfl) (by kernel_rfl) ?_
      repeat (go_big_quiet_step (fail))
      refine wpQuiet_nil ?_
      intro _ hw'
      obtain ⟨u, rfl⟩ := hw'
      have BE := Lib.hid (B0.out.trans (u.below.mono B0.out.size))
      go_wp2_with fail
      go_ret2
      refine ⟨?_, BE.out⟩
      rw [SY.out.1, SY.out.2]
      first | rfl | (simp [he]; done) | (simp [he]; omega)
  by_cases h19 : op = 19
  · have SX := Lib.hid (S19.out h19)
    clear S5 S6 S7 S19 SO
    subst h19
    go_upto_region 9 with fail
    clear i0
    by_cases he : v x = v y
    · have hI : ((v x : Nat) : Int) = ((v y : Nat) : Int) := by omega
      have SY := Lib.hid SX.out
      rw [decide_eq_true he] at SY
      refine calm_region (by kernel_rfl) (by kernel_rfl) ?_
      repeat (go_big_quiet_step (fail))
      refine wpQuiet_nil ?_
      intro _ hw'
      obtain ⟨u, rfl⟩ := hw'
      have BE := Lib.hid (B0.out.trans (u.below.mono B0.out.size))
      go_wp2_with fail
      go_ret2
      refine ⟨?_, BE.out⟩
      rw [SY.out.1, SY.out.2]
      first | rfl | (simp [he]; done) | (simp [he]; omega)
    · have hI : ¬ ((v x : Nat) : Int) = ((v y : Nat) : Int) := by omega
      have SY := Lib.hid SX.out
      rw [decide_eq_false he] at SY
      refine calm_region (by kernel_rfl) (by kernel_rfl) ?_
      repeat (go_big_quiet_step (fail))
      refine wpQuiet_nil ?_
      intro _ hw'
      obtain ⟨u, rfl⟩ := hw'
      have BE := Lib.hid (B0.out.trans (u.below.mono B0.out.size))
      go_wp2_with fail
      go_ret2
      refine ⟨?_, BE.out⟩
      rw [SY.out.1, SY.out.2]
      first | rfl | (simp [he]; done) | (simp [he]; omega)
  have SX := Lib.hid (SO.out ⟨h5, h6, h7, h19⟩)
  have e5 : (op == 5) = false := by simpa using h5
  have e6 : (op == 6) = false := by simpa using h6
  have e7 : (op == 7) = false := by simpa using h7
  have e19 : (op == 19) = false := by simpa using h19
  clear S5 S6 S7 S19 SO h5 h6 h7 h19
  go_wp2_with fail
  go_ret2
  exact ⟨by rw [SX.out.1, SX.out.2]; rfl, B0.out⟩

set_option maxHeartbeats 4000000 in
theorem right18_yes (i : Ins) (w : World) (h : (0 ≤ i.x ∧ i.x ≤ 15) ∧ (0 ≤ i.y ∧ i.y ≤ 15) ∧ (0 ≤ i.nn ∧ i.nn ≤ 255)) : Calls Try.prog 9 #[.agg (icells i)] w fun e w' => e = .returned (.bool true) ∧ Below w.heap.size w w' := by
  obtain ⟨op, x, y, n, nn, addr, len⟩ := i
  simp only at h
  obtain ⟨⟨h1, h2⟩, ⟨h3, h4⟩, ⟨h5, h6⟩⟩ := h
  have h1' : x ≥ 0 := h1
  have h3' : y ≥ 0 := h3
  have h5' : nn ≥ 0 := h5
  unfold icells
  go_enter Try.func9, Try.ntmps9
  go_wp2
  go_ret
  exact ⟨by simp [*], below_newP w _⟩
set_option maxHeartbeats 8000000 in
theorem right18_no (i : Ins) (w : World) (h : ¬ ((0 ≤ i.x ∧ i.x ≤ 15) ∧ (0 ≤ i.y ∧ i.y ≤ 15) ∧ (0 ≤ i.nn ∧ i.nn ≤ 255))) : Calls Try.prog 9 #[.agg (icells i)] w fun e w' => e = .returned (.bool false) ∧ Below w.heap.size w w' := by
  obtain ⟨op, x, y, n, nn, addr, len⟩ := i
  simp only at h
  have hp : x < 0 ∨ (0 ≤ x ∧ 15 < x) ∨ (0 ≤ x ∧ x ≤ 15 ∧ y < 0) ∨ (0 ≤ x ∧ x ≤ 15 ∧ 0 ≤ y ∧ 15 < y) ∨ (0 ≤ x ∧ x ≤ 15 ∧ 0 ≤ y ∧ y ≤ 15 ∧ nn < 0) ∨ (0 ≤ x ∧ x ≤ 15 ∧ 0 ≤ y ∧ y ≤ 15 ∧ 0 ≤ nn ∧ 255 < nn) := by omega
  clear h
  unfold icells
  rcases hp with h1 | ⟨h1, h2⟩ | ⟨h1, h2, h3⟩ | ⟨h1, h2, h3, h4⟩ | ⟨h1, h2, h3, h4, h5⟩ | ⟨h1, h2, h3, h4, h5, h6⟩
  all_goals
    go_enter Try.func9, Try.ntmps9
    go_wp2
    go_ret
    exact ⟨by simp [*]; try omega, below_newP w _⟩
end Go.Proofs.Ytfjdhhheofcanaa
