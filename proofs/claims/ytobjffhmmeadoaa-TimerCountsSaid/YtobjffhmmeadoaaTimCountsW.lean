/- The walk of TimerCounts. -/
import Derived.Test.YtobjffhmmeadoaaTimAwake
import Derived.IntWalk
import Derived.Deep.Cut
namespace Go.Proofs.Ytobjffhmmeadoaa
open Go.RowKit Num
set_option linter.unusedVariables false

/-- Block b is a variable of two timers, and may be written. -/
def TW (b : Nat) (d s : Int) (w : World) : Prop := TB b d s w ∧ ∀ j, w.frozen? ⟨b, j, none⟩ = false
theorem TW.step {b : Nat} {d s : Int} {w w' : World} (h : TW b d s w) (hb : Below w.heap.size w w') : TW b d s w' :=
  ⟨h.1.step hb, fun j => (hb.frozen (p := ⟨b, j, none⟩) h.1.1).trans (h.2 j)⟩
theorem TW.set {b : Nat} {d s : Int} {w : World} (h : TW b d s w) (u v : Int) : TW b u v ((w.setCell ⟨b, 0, none⟩ (.int .u8 u)).setCell ⟨b, 1, none⟩ (.int .u8 v)) :=
  ⟨h.1.set u v, fun j => by rw [World.frozen?_setCell, World.frozen?_setCell]; exact h.2 j⟩
theorem TW.other {b g : Nat} {d s : Int} {w : World} (h : TW b d s w) (hg : b ≠ g) (u v : Value) : TW b d s ((w.setCell ⟨g, 0, none⟩ u).setCell ⟨g, 1, none⟩ v) := by
  have e : ∀ j, ((w.setCell ⟨g, 0, none⟩ u).setCell ⟨g, 1, none⟩ v).cell? ⟨b, j, none⟩ = w.cell? ⟨b, j, none⟩ := fun j =>
    (World.cell?_setCell_other _ ⟨g, 1, none⟩ ⟨b, j, none⟩ v (by intro c; injection c with c; exact hg c.symm)).trans (World.cell?_setCell_other _ ⟨g, 0, none⟩ ⟨b, j, none⟩ u (by intro c; injection c with c; exact hg c.symm))
  exact ⟨⟨by simp [h.1.1], (e 0).trans h.1.2.1, (e 1).trans h.1.2.2⟩, fun j => by rw [World.frozen?_setCell, World.frozen?_setCell]; exact h.2 j⟩
theorem TW.new (w : World) (d s : Int) (T : TypeId) : TW w.heap.size d s (w.alloc (.cells #[.int .u8 d, .int .u8 s] T)) := ⟨TB.new w d s T, fun j => World.frozen?_alloc_at _ _ _ _ rfl⟩

set_option maxRecDepth 100000 in
set_option maxHeartbeats 4000000 in
theorem timerCounts_walk (d s n : Int) (w0 : (Lit.int .u8 d).wf = true) (w1 : (Lit.int .u8 s).wf = true) (w2 : (Lit.int .u16 n).wf = true) (w : World) :
    Calls Try.prog 4 #[.int .u8 d, .int .u8 s, .int .u16 n] w fun e w' => e = .returned (.bool true) ∧ Below w.heap.size w w' := by
  obtain ⟨d0, d1⟩ := bd_u8 w0
  obtain ⟨s0, s1⟩ := bd_u8 w1
  obtain ⟨n0, n1⟩ := bd_u16 w2
  clear w0 w1 w2
  go_enter Try.func4, Try.ntmps4
  go_wp2_with fail
  refine (awake10 _).mono ?_
  rintro e wa ⟨rfl, ba⟩
  have BA := Lib.hid ba
  clear ba
  go_wp2_with fail
  obtain ⟨k, hk⟩ : ∃ k : Nat, n % 600 = (k : Int) := ⟨(n % 600).toNat, by omega⟩
  have hk6 : k < 600 := by omega
  rw [hk]
  clear hk n0 n1
  obtain ⟨p, hp⟩ : ∃ p, wa.heap.size = p := ⟨_, rfl⟩
  have P := Lib.hid ((TW.new wa d s 24).step ((Below.refl _ _).alloc (Nat.le_refl _) (.cells #[.int .u8 d, .int .u8 s] 24)))
  have U := Lib.hid (TW.new (wa.alloc (.cells #[.int .u8 d, .int .u8 s] 24)) d s 24)
  have B := Lib.hid (((Below.refl wa.heap.size wa).alloc (Nat.le_refl _) (.cells #[.int .u8 d, .int .u8 s] 24)).alloc (by simp) (.cells #[.int .u8 d, .int .u8 s] 24))
  simp only [World.size_alloc] at U
  generalize (wa.alloc (.cells #[.int .u8 d, .int .u8 s] 24)).alloc (.cells #[.int .u8 d, .int .u8 s] 24) = wb at *
  have B := Lib.hid (hp ▸ B.out)
  have hz := Lib.hid hp
  have BA := Lib.hid (show w.heap.size ≤ p ∧ Below w.heap.size w wa from ⟨hp ▸ BA.out.size, BA.out⟩)
  rw [hp] at P U ⊢
  clear hp
  go_loopw [10] (fun i wr => ∃ j : Nat, j ≤ k ∧ i = .int .i64 j ∧ TW p d s wr ∧ TW (p + 1) (lw d j) (lw s j) wr ∧ Below p wa wr) (fun i _ => k - (intOf i).toNat)
  case atStart => exact ⟨0, Nat.zero_le _, rfl, P.out, by rw [show ((0 : Nat) : Int) = 0 from rfl, lw_zero d0, lw_zero s0]; exact U.out, B.out⟩
  case round =>
    obtain ⟨j, hj, rfl, hP, hU, hB⟩ := hrel
    clear P U B
    have P := Lib.hid hP
    have U := Lib.hid hU
    have B := Lib.hid hB
    clear hP hU hB
    by_cases hlt : j < k
    · have x0 := lw_lo d j
      have x1 := lw_hi (n := j) d0 d1
      have y0 := lw_lo s j
      have y1 := lw_hi (n := j) s0 s1
      have TK := Lib.hid fun w => tick_any (lw d j) (lw s j) w x0 x1 y0 y1
      rw [lw_sum (by omega) (by omega), lw_sum (by omega) (by omega)] at TK
      have HJ := Lib.hid (show (j : Int) + 1 = ((j + 1 : Nat) : Int) by omega)
      rw [HJ.out] at TK
      generalize lw d j = x at *
      generalize lw s j = y at *
      obtain ⟨x', hx⟩ : ∃ x', lw d ((j + 1 : Nat) : Int) = x' := ⟨_, rfl⟩
      obtain ⟨y', hy⟩ : ∃ y', lw s ((j + 1 : Nat) : Int) = y' := ⟨_, rfl⟩
      rw [hx, hy] at TK
      have HX := Lib.hid hx
      have HY := Lib.hid hy
      clear hx hy
      obtain ⟨⟨z, c0, c1⟩, f⟩ := U.out
      go_wp2_with fail
      refine (TK.out _).mono ?_
      rintro e w2 ⟨rfl, b2⟩
      have P := Lib.hid (P.out.step b2)
      have U := Lib.hid (U.out.step b2)
      have B := Lib.hid (B.out.trans (b2.mono (hz.out ▸ B.out.size)))
      clear b2 c0 c1 f z
      obtain ⟨⟨z, c0, c1⟩, f⟩ := U.out
      have f0 := f 0
      have f1 := f 1
      clear f
      have P := Lib.hid (P.out.other (g := p + 1) (by omega) (.int .u8 x') (.int .u8 y'))
      have U := Lib.hid (U.out.set x' y')
      have B := Lib.hid ((B.out.setCell (p := ⟨p + 1, 0, none⟩) (Nat.le_succ _) (.int .u8 x')).setCell (p := ⟨p + 1, 1, none⟩) (Nat.le_succ _) (.int .u8 y'))
      go_wp2
      go_roundw
      case rel => exact ⟨j + 1, by omega, by go_num, P.out, by rw [HX.out, HY.out]; exact U.out, B.out⟩
      case measure => simp [intOf]; omega
    · have E1 := lw_max (v := d) (n := j) (by omega)
      have E2 := lw_max (v := s) (n := j) (by omega)
      have E3 := lw_left (n := j) d0 s0 (by omega)
      have x0 := lw_lo d j
      have x1 := lw_hi (n := j) d0 d1
      have y0 := lw_lo s j
      have y1 := lw_hi (n := j) s0 s1
      obtain rfl : j = k := by omega
      clear hlt hj
      have AN := Lib.hid fun w => after_any d s j w d0 d1 s0 s1 (by omega)
      have LU := Lib.hid fun w => left_any (lw d j) (lw s j) w x0 x1 y0 y1
      have LP := Lib.hid fun w => left_any d s w d0 d1 s0 s1
      rw [E3] at LU
      have q1 : max d s ≤ 255 := by omega
      have q0 : 0 ≤ max d s := by omega
      clear E3
      have hlt : ¬ (j : Int) < j := by omega
      go_upto_region 10 with fail
      obtain ⟨k0, k1⟩ := P.out.1.calm
      obtain ⟨u0, u1⟩ := U.out.1.calm
      have v0 : IntKind.i64.wrap d = d := IntWalk.i64_in _ (by omega)
      have v1 : IntKind.i64.wrap s = s := IntWalk.i64_in _ (by omega)
      have v2 : IntKind.i64.wrap (d - j) = d - j := IntWalk.i64_in _ (by omega)
      have v3 : IntKind.i64.wrap (s - j) = s - j := IntWalk.i64_in _ (by omega)
      have v4 : IntKind.i64.wrap (max d s - j) = max d s - j := IntWalk.i64_in _ (by omega)
      have v5 : IntKind.i64.wrap (lw d j) = lw d j := IntWalk.i64_in _ (by omega)
      have v6 : IntKind.i64.wrap (lw s j) = lw s j := IntWalk.i64_in _ (by omega)
      generalize lw d j = x at *
      generalize lw s j = y at *
      generalize max d s = m at *
      refine calm_region (by kernel_rfl) (by kernel_rfl) ?_
      repeat (go_big_quiet_step ((first
        | (go_at_call 10; exact calm_call (AN.out _))
        | (go_at_call 13; (first | with_reducible exact calm_call (LU.out _) | with_reducible exact calm_call (LP.out _))))))
      refine wpQuiet_nil ?_
      intro _ hw'
      obtain ⟨c, rfl⟩ := hw'
      have hb := c.below
      generalize c.w = wc at *
      have BB := Lib.hid (BA.out.2.trans ((hz.out ▸ B.out.trans (hb.mono (hz.out ▸ B.out.size)) : Below wa.heap.size wa wc).mono BA.out.2.size))
      go_wp2_with fail
      go_ret
      exact ⟨by simp, BB.out⟩
end Go.Proofs.Ytobjffhmmeadoaa
