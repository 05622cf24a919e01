/- The walk of PlaneScrolls. -/
import Derived.Test.YtfijkbckokcbnaaPlaneAwake
import Derived.Test.YtfijkbckokcbnaaPlaneOpen
namespace Go.Proofs.Ytfijkbckokcbnaa
open Go.RowKit Num
set_option linter.unusedVariables false
set_option linter.unusedSimpArgs false

/-- What the law asks of planes. -/
theorem scrolls_facts (f : Nat → Bool) (m h X Y M : Nat) (hf : InRes f m h) (m1 : m ≤ 128) {Z1 Z2 Z3 Z4 Z5 Z6 : Pl} (e1 : scroll (fwd f) ((X : Int) + M) ((Y : Int) + M) m h = Z1) (e2 : scroll (fwd f) X Y m h = Z2) (e3 : scroll Z2 M M m h = Z3)
    (e4 : scroll (fwd f) 0 0 m h = Z4) (e5 : scroll (fwd f) m 0 m h = Z5) (e6 : scroll (fwd f) 0 (-(h : Int)) m h = Z6) : samePl Z1 Z3 = true ∧ samePl Z4 (fwd f) = true ∧ (pcount Z5 : Int) = 0 ∧ (pcount Z6 : Int) = 0 ∧ (pcount Z1 : Int) ≤ (pcount (fwd f) : Int) := by
  refine ⟨same_of fun y _ => ?_, same_of fun y _ => ?_, ?_, ?_, ?_⟩
  · rw [← e1, ← e3, ← e2, scroll_twice _ _ _ _ _ _ _ m1]
  · rw [← e4, scroll_same _ _ _ m1 (fwd_res hf)]
  · rw [pcount_zero fun y _ => by rw [← e5]; exact scroll_wide _ _ _ m1 y]; rfl
  · rw [pcount_zero fun y _ => by rw [← e6]; exact scroll_high _ _ _ y]; rfl
  · have := pcount_scroll_le (fwd f) (X + M) (Y + M) m h m1
    rw [Int.natCast_add, Int.natCast_add] at this
    rw [← e1]
    omega
set_option maxRecDepth 100000 in
set_option maxHeartbeats 4000000 in
theorem planeScrolls_go (a1 a2 a3 : Int) (dx dy mo : Nat) (hires : Bool) (w : World) (w1 : (Lit.int .i64 a1).wf = true) (w2 : (Lit.int .i64 a2).wf = true) (w3 : (Lit.int .i64 a3).wf = true) (b1 : dx ≤ 255) (b2 : dy ≤ 255) (b3 : mo ≤ 255) :
    Calls Try.prog 5 #[.agg #[.int .i64 a1, .int .i64 a2, .int .i64 a3], .int .u8 (dx : Int), .int .u8 (dy : Int), .int .u8 (mo : Int), .bool hires] w fun e w' => e = .returned (.bool true) ∧ Below w.heap.size w w' := by
  obtain ⟨m, h, hr⟩ := resOf hires
  obtain ⟨m0, m1, h0, h1⟩ := hr.bounds
  have RR := Lib.hid hr
  have WF := Lib.hid (And.intro w1 (And.intro w2 w3))
  have BB := Lib.hid (below_new w (.cells #[.int .i64 a1, .int .i64 a2, .int .i64 a3] 23))
  have GS := Lib.hid (SBox.new w a1 a2 a3)
  clear hr w1 w2 w3
  obtain ⟨X, hX⟩ : ∃ X, dx % 60 = X := ⟨_, rfl⟩
  obtain ⟨Y, hY⟩ : ∃ Y, dy % 30 = Y := ⟨_, rfl⟩
  obtain ⟨M, hM⟩ : ∃ M, mo % 30 = M := ⟨_, rfl⟩
  have X1 : (X : Int) < 60 := by omega
  have Y1 : (Y : Int) < 30 := by omega
  have M1 : (M : Int) < 30 := by omega
  have eX : (dx : Int) % 60 = (X : Int) := by omega
  have eY : (dy : Int) % 30 = (Y : Int) := by omega
  have eM : (mo : Int) % 30 = (M : Int) := by omega
  have d1 : (dx : Int) ≤ 255 := by omega
  have d2 : (dy : Int) ≤ 255 := by omega
  have d3 : (mo : Int) ≤ 255 := by omega
  clear hX hY hM b1 b2 b3
  go_enter Try.func5, Try.ntmps5
  go_wp2_with fail
  generalize w.alloc (.cells #[.int .i64 a1, .int .i64 a2, .int .i64 a3] 23) = v0 at *
  refine (awake7 _).mono ?_
  rintro e v1 ⟨rfl, b1⟩
  have GS := Lib.hid (GS.out.step b1)
  have BB := Lib.hid (BB.out.trans (b1.mono BB.out.size))
  clear b1
  have s0 := GS.out.c0
  have s1 := GS.out.c1
  have s2 := GS.out.c2
  go_wp2_with fail
  clear s0 s1 s2
  refine (seedW WF.out.1 WF.out.2.1 WF.out.2.2 RR.out _).mono ?_
  rintro e v2 ⟨f, hf, g, rfl, hg, hP, b1⟩
  have GS := Lib.hid (GS.out.step b1)
  have BB := Lib.hid (BB.out.trans (b1.mono BB.out.size))
  clear b1
  have GP := Lib.hid hP
  have FF := Lib.hid hf
  clear hP hf hg
  go_wp2_with fail
  obtain ⟨PA, hPA⟩ : ∃ Z, fwd f = Z := ⟨_, rfl⟩
  obtain ⟨Z1, hZ1⟩ : ∃ Z, scroll (fwd f) ((X : Int) + M) ((Y : Int) + M) m h = Z := ⟨_, rfl⟩
  obtain ⟨Z2, hZ2⟩ : ∃ Z, scroll (fwd f) X Y m h = Z := ⟨_, rfl⟩
  obtain ⟨Z3, hZ3⟩ : ∃ Z, scroll Z2 M M m h = Z := ⟨_, rfl⟩
  obtain ⟨Z4, hZ4⟩ : ∃ Z, scroll (fwd f) 0 0 m h = Z := ⟨_, rfl⟩
  obtain ⟨Z5, hZ5⟩ : ∃ Z, scroll (fwd f) m 0 m h = Z := ⟨_, rfl⟩
  obtain ⟨Z6, hZ6⟩ : ∃ Z, scroll (fwd f) 0 (-(h : Int)) m h = Z := ⟨_, rfl⟩
  have FA0 := scrolls_facts f m h X Y M FF.out m1 hZ1 hZ2 hZ3 hZ4 hZ5 hZ6
  rw [hPA] at hZ1 hZ2 hZ4 hZ5 hZ6 FA0
  have PA0 := Lib.hid hPA
  obtain ⟨n1, hn1⟩ : ∃ n, pcount Z1 = n := ⟨_, rfl⟩
  obtain ⟨n2, hn2⟩ : ∃ n, pcount PA = n := ⟨_, rfl⟩
  rw [hn1, hn2] at FA0
  have C1 := Lib.hid fun w => ctW (show ((pcount Z1 : Nat) : Int) = (n1 : Int) by rw [hn1]) w
  have C2 := Lib.hid fun w => ctW (show ((pcount PA : Nat) : Int) = (n2 : Int) by rw [hn2]) w
  have C3 := Lib.hid fun w => ctW FA0.2.2.1 w
  have C4 := Lib.hid fun w => ctW FA0.2.2.2.1 w
  have S1 := Lib.hid fun w => scW RR.out hZ1 (by omega) (by omega) (by omega) (by omega) w
  have S2 := Lib.hid fun w => scW RR.out hZ2 (by omega) (by omega) (by omega) (by omega) w
  have S3 := Lib.hid fun w => scW RR.out hZ3 (by omega) (by omega) (by omega) (by omega) w
  have S4 := Lib.hid fun w => scW RR.out hZ4 (by omega) (by omega) (by omega) (by omega) w
  have S5 := Lib.hid fun w => scW RR.out hZ5 (by omega) (by omega) (by omega) (by omega) w
  have S6 := Lib.hid fun w => scW RR.out hZ6 (by omega) (by omega) (by omega) (by omega) w
  have FA := Lib.hid FA0
  have nn : (n1 : Int) ≤ (n2 : Int) := FA0.2.2.2.2
  have nl : n1 ≤ n2 := by omega
  clear FA0 hPA hZ1 hZ2 hZ3 hZ4 hZ5 hZ6 hn1 hn2
  refine (fwW GP.out PA0.out).mono ?_
  rintro e v3 ⟨rfl, b1⟩
  have GS := Lib.hid (GS.out.step b1)
  have GP := Lib.hid (GP.out.step b1)
  have BB := Lib.hid (BB.out.trans (b1.mono BB.out.size))
  clear b1
  simp only []
  go_at_K
  go_step
  refine list_var (A := PA) rfl rfl rfl (.tmp 11) (.tmp 24) rfl (by simp [Act.eval, Act.put]) (by simp [Act.eval, Act.put]) ?_
  simp only [Act.put, List.setIfInBounds_toArray, List.set_cons_zero, List.set_cons_succ]
  have A1 := Lib.hid (PBox.new v3 PA 35)
  have GS := Lib.hid (GS.out.step (below_new _ (.cells (pcells PA) 35)))
  have GP := Lib.hid (GP.out.step (below_new _ (.cells (pcells PA) 35)))
  have BB := Lib.hid (BB.out.alloc BB.out.size (.cells (pcells PA) 35))
  obtain ⟨q1, hq⟩ : ∃ q, v3.heap.size = q := ⟨_, rfl⟩
  generalize v3.alloc (.cells (pcells PA) 35) = v4 at *
  rw [hq] at A1 ⊢
  clear hq
  go_wp2_with fail
  refine (size_any RR.out _).mono ?_
  rintro e w' ⟨rfl, rfl⟩
  go_upto_region 8 with fail
  refine wp_region_lit ?_
  refine list_plane A1.out rfl (.tmp 11) rfl (by simp [Act.eval, Act.put]) ?_
  go_wp2_with fail
  refine (S1.out _).mono ?_
  rintro e v5 ⟨rfl, b1⟩
  have GS := Lib.hid (GS.out.step b1)
  have GP := Lib.hid (GP.out.step b1)
  have A1 := Lib.hid (A1.out.step b1)
  have BB := Lib.hid (BB.out.trans (b1.mono BB.out.size))
  clear b1
  simp only []
  go_at_K
  go_step
  refine list_var (A := Z1) rfl rfl rfl (.tmp 17) (.tmp 47) rfl (by simp [Act.eval, Act.put]) (by simp [Act.eval, Act.put]) ?_
  simp only [Act.put, List.setIfInBounds_toArray, List.set_cons_zero, List.set_cons_succ]
  have A2 := Lib.hid (PBox.new v5 Z1 35)
  have GS := Lib.hid (GS.out.step (below_new _ (.cells (pcells Z1) 35)))
  have GP := Lib.hid (GP.out.step (below_new _ (.cells (pcells Z1) 35)))
  have A1 := Lib.hid (A1.out.alloc (.cells (pcells Z1) 35))
  have BB := Lib.hid (BB.out.alloc BB.out.size (.cells (pcells Z1) 35))
  obtain ⟨q2, hq⟩ : ∃ q, v5.heap.size = q := ⟨_, rfl⟩
  generalize v5.alloc (.cells (pcells Z1) 35) = v6 at *
  rw [hq] at A2 ⊢
  clear hq
  go_upto_region 9 with fail
  refine wp_region_lit ?_
  refine list_plane A1.out rfl (.tmp 11) rfl (by simp [Act.eval, Act.put]) ?_
  go_wp2_with fail
  refine (S2.out _).mono ?_
  rintro e v7 ⟨rfl, b1⟩
  have GS := Lib.hid (GS.out.step b1)
  have GP := Lib.hid (GP.out.step b1)
  have A1 := Lib.hid (A1.out.step b1)
  have A2 := Lib.hid (A2.out.step b1)
  have BB := Lib.hid (BB.out.trans (b1.mono BB.out.size))
  clear b1
  go_wp2_with fail
  refine (S3.out _).mono ?_
  rintro e v8 ⟨rfl, b1⟩
  have GS := Lib.hid (GS.out.step b1)
  have GP := Lib.hid (GP.out.step b1)
  have A1 := Lib.hid (A1.out.step b1)
  have A2 := Lib.hid (A2.out.step b1)
  have BB := Lib.hid (BB.out.trans (b1.mono BB.out.size))
  clear b1
  simp only []
  go_at_K
  go_step
  refine list_var (A := Z3) rfl rfl rfl (.tmp 18) (.tmp 56) rfl (by simp [Act.eval, Act.put]) (by simp [Act.eval, Act.put]) ?_
  simp only [Act.put, List.setIfInBounds_toArray, List.set_cons_zero, List.set_cons_succ]
  have A3 := Lib.hid (PBox.new v8 Z3 35)
  have GS := Lib.hid (GS.out.step (below_new _ (.cells (pcells Z3) 35)))
  have GP := Lib.hid (GP.out.step (below_new _ (.cells (pcells Z3) 35)))
  have A1 := Lib.hid (A1.out.alloc (.cells (pcells Z3) 35))
  have A2 := Lib.hid (A2.out.alloc (.cells (pcells Z3) 35))
  have BB := Lib.hid (BB.out.alloc BB.out.size (.cells (pcells Z3) 35))
  obtain ⟨q3, hq⟩ : ∃ q, v8.heap.size = q := ⟨_, rfl⟩
  generalize v8.alloc (.cells (pcells Z3) 35) = v9 at *
  rw [hq] at A3 ⊢
  clear hq
  go_upto_region 10 with fail
  have E1 := Lib.hid FA.out.1
  have E2 := Lib.hid FA.out.2.1
  have k1 : IntKind.i64.wrap (-(h : Int)) = -(h : Int) := IntWalk.i64_in _ (by omega)
  refine calm_region (by kernel_rfl) (by kernel_rfl) ?_
  repeat (first
    | (refine quiet_plane A1.out ?_ (.tmp 11) rfl ?_ ?_; (focus rfl); (focus (simp [Act.eval]; done)); simp only [Act.put, List.setIfInBounds_toArray, List.set_cons_zero, List.set_cons_succ])
    | (refine quiet_plane A2.out ?_ (.tmp 17) rfl ?_ ?_; (focus rfl); (focus (simp [Act.eval]; done)); simp only [Act.put, List.setIfInBounds_toArray, List.set_cons_zero, List.set_cons_succ])
    | (refine quiet_plane A3.out ?_ (.tmp 18) rfl ?_ ?_; (focus rfl); (focus (simp [Act.eval]; done)); simp only [Act.put, List.setIfInBounds_toArray, List.set_cons_zero, List.set_cons_succ])
    | (refine quiet_same E1.out ?_ (.tmp 57) (.tmp 58) 35 rfl ?_ ?_ ?_; (focus rfl); (focus (simp [Act.eval]; done)); (focus (simp [Act.eval]; done)); simp only [Act.put, List.setIfInBounds_toArray, List.set_cons_zero, List.set_cons_succ])
    | (refine quiet_same E2.out ?_ (.tmp 63) (.tmp 64) 35 rfl ?_ ?_ ?_; (focus rfl); (focus (simp [Act.eval]; done)); (focus (simp [Act.eval]; done)); simp only [Act.put, List.setIfInBounds_toArray, List.set_cons_zero, List.set_cons_succ])
    | go_big_quiet_step ((first
      | (go_at_call_of 25 Z1; exact calm_call (C1.out _))
      | (go_at_call_of 25 PA; exact calm_call (C2.out _))
      | (go_at_call_of 25 Z5; exact calm_call (C3.out _))
      | (go_at_call_of 25 Z6; exact calm_call (C4.out _))
      | (go_at_call_of 18 m; exact calm_call (S5.out _))
      | (go_at_call_of 18 h; exact calm_call (S6.out _))
      | (go_at_call 18; exact calm_call (S4.out _)))))
  refine wpQuiet_nil ?_
  intro _ hw'
  obtain ⟨x, rfl⟩ := hw'
  have GS := Lib.hid (GS.out.step x.below)
  have GP := Lib.hid (GP.out.step x.below)
  have A1 := Lib.hid (A1.out.step x.below)
  have A2 := Lib.hid (A2.out.step x.below)
  have A3 := Lib.hid (A3.out.step x.below)
  have BB := Lib.hid (BB.out.trans (x.below.mono BB.out.size))
  generalize x.w = v10 at *
  go_wp2
  go_ret
  exact ⟨rfl, BB.out⟩
theorem planeScrolls_walk (a1 a2 a3 dx dy mo : Int) (hires : Bool) (w : World) (w1 : (Lit.int .i64 a1).wf = true) (w2 : (Lit.int .i64 a2).wf = true) (w3 : (Lit.int .i64 a3).wf = true) (h1 : (Lit.int .u8 dx).wf = true) (h2 : (Lit.int .u8 dy).wf = true) (h3 : (Lit.int .u8 mo).wf = true) :
    Calls Try.prog 5 #[.agg #[.int .i64 a1, .int .i64 a2, .int .i64 a3], .int .u8 dx, .int .u8 dy, .int .u8 mo, .bool hires] w fun e w' => e = .returned (.bool true) ∧ Below w.heap.size w w' := by
  have b1 := bd_u8 h1
  have b2 := bd_u8 h2
  have b3 := bd_u8 h3
  obtain ⟨x, rfl⟩ := Int.eq_ofNat_of_zero_le b1.1
  obtain ⟨y, rfl⟩ := Int.eq_ofNat_of_zero_le b2.1
  obtain ⟨z, rfl⟩ := Int.eq_ofNat_of_zero_le b3.1
  exact planeScrolls_go a1 a2 a3 x y z hires w w1 w2 w3 (by omega) (by omega) (by omega)
end Go.Proofs.Ytfijkbckokcbnaa
