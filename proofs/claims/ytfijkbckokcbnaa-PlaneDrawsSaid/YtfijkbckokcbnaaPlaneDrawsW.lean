/- The walk of PlaneDraws. -/
import Derived.Test.YtfijkbckokcbnaaPlaneAwake
import Derived.Test.YtfijkbckokcbnaaPlaneOpen
namespace Go.Proofs.Ytfijkbckokcbnaa
open Go.RowKit Num
set_option linter.unusedVariables false
set_option linter.unusedSimpArgs false

/-- The common pixels of two planes, as one list. -/
def common (A B : Pl) (j : Nat) : Bool := px (A (j / 128)) (j % 128) && px (B (j / 128)) (j % 128)
theorem common_at (A B : Pl) (i k : Nat) (hk : k < 128) (hi : i < 64) {v1 v2 : Bool} (e1 : pget A k i = v1) (e2 : pget B k i = v2) : common A B (128 * i + k) = (v1 && v2) := by
  rw [pget_in _ _ _ hi, pxi_nat] at e1 e2
  rw [common, show (128 * i + k) / 128 = i by omega, show (128 * i + k) % 128 = k by omega, e1, e2]
theorem common_all (A B : Pl) : hitTo (common A B) (128 * 64) = hitB A B := by
  unfold hitTo hitB
  rw [pcn_rows, sm_congr (g := fun y => cnt (A y &&& B y)) 64 fun y hy => by
    show pcn _ 128 = pcn (px (A y &&& B y)) 128
    refine pcn_congr 128 fun x hx => ?_
    rw [common, show (128 * y + x) / 128 = y by omega, show (128 * y + x) % 128 = x by omega, px_and]]
  rw [Bool.eq_iff_iff, decide_eq_true_eq, decide_eq_true_eq]
  omega
theorem drawn_at (A B : Pl) (i k : Nat) (hk : k < 128) (hi : i < 64) {Z : Pl} (hZ : drawn A B = Z) {v1 v2 v3 : Bool} (e1 : pget A k i = v1) (e2 : pget B k i = v2) (e3 : pget Z k i = v3) : v3 = (v1 ^^ v2) := by
  subst hZ
  rw [pget_in _ _ _ hi, pxi_nat] at e1 e2 e3
  rw [← e1, ← e2, ← e3]
  show px (A i ^^^ B i) k = _
  rw [px_xor]
theorem back_same (A B : Pl) {Z D : Pl} (hZ : drawn A B = Z) (hD : drawn Z B = D) : samePl D A = true := same_of fun y _ => by
  rw [← hD, ← hZ, drawn_back]
theorem list_planeG {ops : Array Oper} {W : World} {Q : Exit → Act → World → Prop} {o : Oper} {rest : List Oper} {a : Act} {b : Nat} {A : Pl} (H : PBox b 35 A W) (hw : Region.wanted o (yielded ops a.tmps) = true) (x : Operand) (ho : o.op = .load 35 x) (hx : a.eval x = .pointer (some ⟨b, 0, none⟩))
    (h : wpList Try.prog ops Q rest (a.put o.dst (.agg (pcells A))) W) : wpList Try.prog ops Q (o :: rest) a W := by
  refine wpList_step fun K hK => ?_
  rw [if_pos hw]
  exact wp_load_row 35 x ho b hx _ _ _ _ H Try.underlying35 rfl (by rw [sizePlane, pcells_size]) (hK _ _ h)
set_option maxRecDepth 100000 in
set_option maxHeartbeats 8000000 in
theorem planeDraws_go (a1 a2 a3 : Int) (A : Option Addr) (L : List Nat) (n cap : Nat) (big hires clip : Bool) (x y : Int) (w : World) (w1 : (Lit.int .i64 a1).wf = true) (w2 : (Lit.int .i64 a2).wf = true) (w3 : (Lit.int .i64 a3).wf = true) (H : Rd16 w A L) (hL : ∀ x ∈ L, x ≤ 65535) (hn : L.length = n) :
    Calls Try.prog 4 #[.agg #[.int .i64 a1, .int .i64 a2, .int .i64 a3], .slice A n cap, .bool big, .int .i64 x, .int .i64 y, .bool hires, .bool clip] w fun e w' => e = .returned (.bool true) ∧ Below w.heap.size w w' := by
  obtain ⟨m, h, hr⟩ := resOf hires
  obtain ⟨c, c8, hc⟩ := countOf big
  obtain ⟨m0, m1, h0, h1⟩ := hr.bounds
  have RR := Lib.hid hr
  have WF := Lib.hid (And.intro w1 (And.intro w2 w3))
  obtain ⟨N, hN⟩ : ∃ N, N = 8192 := ⟨_, rfl⟩
  have NN := Lib.hid hN
  have HH := Lib.hid (And.intro hL (And.intro hn (And.intro c8 hc)))
  have BB := Lib.hid (below_new w (.cells #[.int .i64 a1, .int .i64 a2, .int .i64 a3] 23))
  have GR := Lib.hid (H.step (below_new w (.cells #[.int .i64 a1, .int .i64 a2, .int .i64 a3] 23)))
  have GS := Lib.hid (SBox.new w a1 a2 a3)
  clear hr H hL hn c8 hc w1 w2 w3 hN
  go_enter Try.func4, Try.ntmps4
  go_wp2_with fail
  generalize w.alloc (.cells #[.int .i64 a1, .int .i64 a2, .int .i64 a3] 23) = v0 at *
  refine (awake7 _).mono ?_
  rintro e v1 ⟨rfl, b1⟩
  have GR := Lib.hid (GR.out.step b1)
  have GS := Lib.hid (GS.out.step b1)
  have BB := Lib.hid (BB.out.trans (b1.mono BB.out.size))
  clear b1
  by_cases hR : Right n x y m h
  · have RI := hR
    obtain ⟨n1, x0, y0, x1, y1⟩ := hR
    obtain ⟨X, rfl⟩ := Int.eq_ofNat_of_zero_le x0
    obtain ⟨Y, rfl⟩ := Int.eq_ofNat_of_zero_le y0
    have hXk := Lib.hid (show X < m by omega)
    have hYk := Lib.hid (show Y < h by omega)
    have RI := Lib.hid RI
    clear x0 y0 x1 y1
    go_wp2_with fail
    refine (right_yes _ _ _ _ _ _ m h RR.out _ RI.out).mono ?_
    rintro e w' ⟨rfl, rfl⟩
    have s0 := GS.out.c0
    have s1 := GS.out.c1
    have s2 := GS.out.c2
    go_wp2_with fail
    clear s0 s1 s2
    refine (seedN NN.out WF.out.1 WF.out.2.1 WF.out.2.2 RR.out _).mono ?_
    rintro e v2 ⟨f, hf, g1, rfl, hg, hP, b1⟩
    have GR := Lib.hid (GR.out.step b1)
    have GS := Lib.hid (GS.out.step b1)
    have BB := Lib.hid (BB.out.trans (b1.mono BB.out.size))
    clear b1
    have GP := Lib.hid hP
    clear hP hf hg
    go_wp2_with fail
    obtain ⟨PA, hPA⟩ : ∃ Z, fwd f = Z := ⟨_, rfl⟩
    obtain ⟨PB, hPB⟩ : ∃ Z, spr (nth L) n c X Y m h clip = Z := ⟨_, rfl⟩
    obtain ⟨PZ, hPZ⟩ : ∃ Z, drawn PA PB = Z := ⟨_, rfl⟩
    obtain ⟨PD, hPD⟩ : ∃ Z, drawn PZ PB = Z := ⟨_, rfl⟩
    obtain ⟨PE, hPE⟩ : ∃ Z, drawn PB PB = Z := ⟨_, rfl⟩
    obtain ⟨ht, hht⟩ : ∃ v, hitB PA PB = v := ⟨_, rfl⟩
    obtain ⟨ht2, hht2⟩ : ∃ v, hitB PZ PB = v := ⟨_, rfl⟩
    obtain ⟨ag, hag⟩ : ∃ v, hitB PB PB = v := ⟨_, rfl⟩
    obtain ⟨nb, hnb⟩ : ∃ n, pcount PB = n := ⟨_, rfl⟩
    have hag2 : ag = decide (0 < nb) := by rw [← hag, hit_self, hnb]
    have hca := common_all PA PB
    rw [hht] at hca
    have C1 := Lib.hid fun w => ctW (show ((pcount PB : Nat) : Int) = (nb : Int) by rw [hnb]) w
    have D1 := Lib.hid fun w => drW hPZ hht w
    have D2 := Lib.hid fun w => drW hPD hht2 w
    have D3 := Lib.hid fun w => drW hPE hag w
    have DS := Lib.hid (back_same PA PB hPZ hPD)
    have PH := Lib.hid (And.intro hPA (And.intro hPB (And.intro hPZ (And.intro hca hag2))))
    clear hPA hPB hPZ hPD hPE hht hht2 hag hnb hag2 hca
    refine (fwN NN.out GP.out PH.out.1).mono ?_
    rintro e v3 ⟨rfl, b1⟩
    have GR := Lib.hid (GR.out.step b1)
    have GS := Lib.hid (GS.out.step b1)
    have GP := Lib.hid (GP.out.step b1)
    have BB := Lib.hid (BB.out.trans (b1.mono BB.out.size))
    clear b1
    simp only []
    go_at_K
    go_step
    refine list_var (A := PA) rfl rfl rfl (.tmp 15) (.tmp 41) rfl (by simp [Act.eval, Act.put]) (by simp [Act.eval, Act.put]) ?_
    simp only [Act.put, List.setIfInBounds_toArray, List.set_cons_zero, List.set_cons_succ]
    have A1 := Lib.hid (PBox.new v3 PA 35)
    have GR := Lib.hid (GR.out.step (below_new _ (.cells (pcells PA) 35)))
    have GS := Lib.hid (GS.out.step (below_new _ (.cells (pcells PA) 35)))
    have GP := Lib.hid (GP.out.step (below_new _ (.cells (pcells PA) 35)))
    have BB := Lib.hid (BB.out.alloc BB.out.size (.cells (pcells PA) 35))
    obtain ⟨q1, hq⟩ : ∃ q, v3.heap.size = q := ⟨_, rfl⟩
    generalize v3.alloc (.cells (pcells PA) 35) = v4 at *
    rw [hq] at A1 ⊢
    clear hq
    go_wp2_with fail
    refine (lcount_any big c HH.out.2.2.2 _).mono ?_
    rintro e w' ⟨rfl, rfl⟩
    go_wp2_with fail
    refine (spW RR.out GR.out HH.out.1 HH.out.2.1 n1 HH.out.2.2.1 hXk.out hYk.out rfl rfl rfl PH.out.2.1).mono ?_
    rintro e v5 ⟨rfl, b1⟩
    have GR := Lib.hid (GR.out.step b1)
    have GS := Lib.hid (GS.out.step b1)
    have GP := Lib.hid (GP.out.step b1)
    have A1 := Lib.hid (A1.out.step b1)
    have BB := Lib.hid (BB.out.trans (b1.mono BB.out.size))
    clear b1
    simp only []
    go_at_K
    go_step
    refine list_var (A := PB) rfl rfl rfl (.tmp 16) (.tmp 49) rfl (by simp [Act.eval, Act.put]) (by simp [Act.eval, Act.put]) ?_
    simp only [Act.put, List.setIfInBounds_toArray, List.set_cons_zero, List.set_cons_succ]
    have A2 := Lib.hid (PBox.new v5 PB 35)
    have GR := Lib.hid (GR.out.step (below_new _ (.cells (pcells PB) 35)))
    have GS := Lib.hid (GS.out.step (below_new _ (.cells (pcells PB) 35)))
    have GP := Lib.hid (GP.out.step (below_new _ (.cells (pcells PB) 35)))
    have A1 := Lib.hid (A1.out.alloc (.cells (pcells PB) 35))
    have BB := Lib.hid (BB.out.alloc BB.out.size (.cells (pcells PB) 35))
    obtain ⟨q2, hq⟩ : ∃ q, v5.heap.size = q := ⟨_, rfl⟩
    generalize v5.alloc (.cells (pcells PB) 35) = v6 at *
    rw [hq] at A2 ⊢
    clear hq
    go_upto_region 5 with fail
    refine wp_region_lit ?_
    refine list_plane A1.out rfl (.tmp 15) rfl (by simp [Act.eval, Act.put]) ?_
    refine list_plane A2.out rfl (.tmp 16) rfl (by simp [Act.eval, Act.put]) ?_
    go_wp2_with fail
    refine (D1.out _).mono ?_
    rintro e v7 ⟨rfl, b1⟩
    have GR := Lib.hid (GR.out.step b1)
    have GS := Lib.hid (GS.out.step b1)
    have GP := Lib.hid (GP.out.step b1)
    have A1 := Lib.hid (A1.out.step b1)
    have A2 := Lib.hid (A2.out.step b1)
    have BB := Lib.hid (BB.out.trans (b1.mono BB.out.size))
    clear b1
    simp only []
    go_at_K
    go_step
    go_step
    go_step
    go_step
    go_step
    go_step
    go_step
    go_step
    go_step
    go_step
    refine list_var (A := PZ) rfl rfl rfl (.tmp 17) (.tmp 54) rfl (by simp [Act.eval, Act.put]) (by simp [Act.eval, Act.put]) ?_
    simp only [Act.put, List.setIfInBounds_toArray, List.set_cons_zero, List.set_cons_succ]
    have A3 := Lib.hid (PBox.new v7 PZ 35)
    have GR := Lib.hid (GR.out.step (below_new _ (.cells (pcells PZ) 35)))
    have GS := Lib.hid (GS.out.step (below_new _ (.cells (pcells PZ) 35)))
    have GP := Lib.hid (GP.out.step (below_new _ (.cells (pcells PZ) 35)))
    have A1 := Lib.hid (A1.out.alloc (.cells (pcells PZ) 35))
    have A2 := Lib.hid (A2.out.alloc (.cells (pcells PZ) 35))
    have BB := Lib.hid (BB.out.alloc BB.out.size (.cells (pcells PZ) 35))
    obtain ⟨q3, hq⟩ : ∃ q, v7.heap.size = q := ⟨_, rfl⟩
    generalize v7.alloc (.cells (pcells PZ) 35) = v8 at *
    rw [hq] at A3 ⊢
    clear hq
    go_wp2
    go_loopw [19, 20] (fun sv t wr => ∃ (j : Nat) (s : Bool), j ≤ 64 ∧ sv = .bool s ∧ t = .int .i64 (j : Int) ∧ s = hitTo (common PA PB) (128 * j) ∧ PBox q1 35 PA wr ∧ PBox q2 35 PB wr ∧ PBox q3 35 PZ wr ∧ Below w.heap.size w wr) (fun _ t _ => 64 - (intOf t).toNat)
    case atStart => exact ⟨0, false, by omega, rfl, rfl, rfl, A1.out, A2.out, A3.out, BB.out⟩
    case round =>
      clear A1 A2 A3 BB GR GS GP
      obtain ⟨j, s, hj, rfl, rfl, hs, hA1, hA2, hA3, hBB⟩ := hrel
      have A1 := Lib.hid hA1
      have A2 := Lib.hid hA2
      have A3 := Lib.hid hA3
      have BB := Lib.hid hBB
      have HS := Lib.hid hs
      clear hA1 hA2 hA3 hBB hs
      by_cases hjt : j < 64
      · have jI : (j : Int) < 64 := by omega
        go_wp2
        go_loopw [19, 21] (fun sv t wr => ∃ (k : Nat) (s : Bool), k ≤ 128 ∧ sv = .bool s ∧ t = .int .i64 (k : Int) ∧ s = hitTo (common PA PB) (128 * j + k) ∧ PBox q1 35 PA wr ∧ PBox q2 35 PB wr ∧ PBox q3 35 PZ wr ∧ Below w.heap.size w wr) (fun _ t _ => 128 - (intOf t).toNat)
        case atStart => exact ⟨0, s, by omega, rfl, rfl, HS.out, A1.out, A2.out, A3.out, BB.out⟩
        case round =>
          clear A1 A2 A3 BB HS
          obtain ⟨k, s, hk, rfl, rfl, hs, hA1, hA2, hA3, hBB⟩ := hrel
          have A1 := Lib.hid hA1
          have A2 := Lib.hid hA2
          have A3 := Lib.hid hA3
          have BB := Lib.hid hBB
          have HS := Lib.hid hs
          clear hA1 hA2 hA3 hBB hs
          by_cases hkt : k < 128
          · have kI : (k : Int) < 128 := by omega
            obtain ⟨v1, e1⟩ : ∃ v, pget PA k j = v := ⟨_, rfl⟩
            obtain ⟨v2, e2⟩ : ∃ v, pget PB k j = v := ⟨_, rfl⟩
            obtain ⟨v3, e3⟩ : ∃ v, pget PZ k j = v := ⟨_, rfl⟩
            have X1 := Lib.hid fun w => pxW e1 (by omega) (by omega) (by omega) (by omega) w
            have X2 := Lib.hid fun w => pxW e2 (by omega) (by omega) (by omega) (by omega) w
            have X3 := Lib.hid fun w => pxW e3 (by omega) (by omega) (by omega) (by omega) w
            have dr := drawn_at PA PB j k hkt hjt PH.out.2.2.1 e1 e2 e3
            subst dr
            have CM := Lib.hid (common_at PA PB j k hkt hjt e1 e2)
            have NX := Lib.hid (hit_next (common PA PB) (128 * j + k))
            clear e1 e2 e3
            cases s
            · cases v2
              · cases v1
                all_goals
                  simp only [Bool.xor_false, Bool.xor_true, Bool.not_true, Bool.not_false] at X3
                  go_upto_region 13 with fail
                  refine wp_region_lit ?_
                  refine list_plane A2.out rfl (.tmp 16) rfl (by simp [Act.eval, Act.put]) ?_
                  go_wp2_with fail
                  refine (X2.out _).mono ?_
                  rintro e v21 ⟨rfl, b1⟩
                  have A1 := Lib.hid (A1.out.step b1)
                  have A2 := Lib.hid (A2.out.step b1)
                  have A3 := Lib.hid (A3.out.step b1)
                  have BB := Lib.hid (BB.out.trans (b1.mono BB.out.size))
                  clear b1
                  go_wp2
                  refine calm_region (by kernel_rfl) (by kernel_rfl) ?_
                  repeat (first
                    | (refine quiet_plane A1.out ?_ (.tmp 15) rfl ?_ ?_; (focus rfl); (focus (simp [Act.eval]; done)); simp only [Act.put, List.setIfInBounds_toArray, List.set_cons_zero, List.set_cons_succ])
                    | (refine quiet_plane A2.out ?_ (.tmp 16) rfl ?_ ?_; (focus rfl); (focus (simp [Act.eval]; done)); simp only [Act.put, List.setIfInBounds_toArray, List.set_cons_zero, List.set_cons_succ])
                    | (refine quiet_plane A3.out ?_ (.tmp 17) rfl ?_ ?_; (focus rfl); (focus (simp [Act.eval]; done)); simp only [Act.put, List.setIfInBounds_toArray, List.set_cons_zero, List.set_cons_succ])
                    | go_big_quiet_step ((first
                      | (go_at_call_of 16 PA; exact calm_call (X1.out _))
                      | (go_at_call_of 16 PZ; exact calm_call (X3.out _)))))
                  refine wpQuiet_nil ?_
                  intro _ hw'
                  obtain ⟨x, rfl⟩ := hw'
                  have A1 := Lib.hid (A1.out.step x.below)
                  have A2 := Lib.hid (A2.out.step x.below)
                  have A3 := Lib.hid (A3.out.step x.below)
                  have BB := Lib.hid (BB.out.trans (x.below.mono BB.out.size))
                  generalize x.w = v22 at *
                  go_wp2
                  go_roundw
                  case rel => exact ⟨k + 1, _, by omega, rfl, by go_num, by rw [show 128 * j + (k + 1) = 128 * j + k + 1 by omega, NX.out, ← HS.out, CM.out]; rfl, A1.out, A2.out, A3.out, BB.out⟩
                  case measure => simp [intOf]; omega
              · cases v1
                all_goals
                  simp only [Bool.xor_false, Bool.xor_true, Bool.not_true, Bool.not_false] at X3
                  go_upto_region 13 with fail
                  refine wp_region_lit ?_
                  refine list_plane A2.out rfl (.tmp 16) rfl (by simp [Act.eval, Act.put]) ?_
                  go_wp2_with fail
                  refine (X2.out _).mono ?_
                  rintro e v21 ⟨rfl, b1⟩
                  have A1 := Lib.hid (A1.out.step b1)
                  have A2 := Lib.hid (A2.out.step b1)
                  have A3 := Lib.hid (A3.out.step b1)
                  have BB := Lib.hid (BB.out.trans (b1.mono BB.out.size))
                  clear b1
                  go_upto_region 14 with fail
                  refine wp_region_lit ?_
                  repeat (first
                    | (refine list_planeG A1.out ?_ (.tmp 15) rfl ?_ ?_; (focus rfl); (focus (simp [Act.eval]; done)); simp only [Act.put, List.setIfInBounds_toArray, List.set_cons_zero, List.set_cons_succ])
                    | go_step)
                  go_wp2_with fail
                  refine (X1.out _).mono ?_
                  rintro e v22 ⟨rfl, b1⟩
                  have A1 := Lib.hid (A1.out.step b1)
                  have A2 := Lib.hid (A2.out.step b1)
                  have A3 := Lib.hid (A3.out.step b1)
                  have BB := Lib.hid (BB.out.trans (b1.mono BB.out.size))
                  clear b1
                  go_wp2
                  refine calm_region (by kernel_rfl) (by kernel_rfl) ?_
                  repeat (first
                    | (refine quiet_plane A1.out ?_ (.tmp 15) rfl ?_ ?_; (focus rfl); (focus (simp [Act.eval]; done)); simp only [Act.put, List.setIfInBounds_toArray, List.set_cons_zero, List.set_cons_succ])
                    | (refine quiet_plane A2.out ?_ (.tmp 16) rfl ?_ ?_; (focus rfl); (focus (simp [Act.eval]; done)); simp only [Act.put, List.setIfInBounds_toArray, List.set_cons_zero, List.set_cons_succ])
                    | (refine quiet_plane A3.out ?_ (.tmp 17) rfl ?_ ?_; (focus rfl); (focus (simp [Act.eval]; done)); simp only [Act.put, List.setIfInBounds_toArray, List.set_cons_zero, List.set_cons_succ])
                    | go_big_quiet_step ((first
                      | (go_at_call_of 16 PA; exact calm_call (X1.out _))
                      | (go_at_call_of 16 PZ; exact calm_call (X3.out _)))))
                  refine wpQuiet_nil ?_
                  intro _ hw'
                  obtain ⟨x, rfl⟩ := hw'
                  have A1 := Lib.hid (A1.out.step x.below)
                  have A2 := Lib.hid (A2.out.step x.below)
                  have A3 := Lib.hid (A3.out.step x.below)
                  have BB := Lib.hid (BB.out.trans (x.below.mono BB.out.size))
                  generalize x.w = v23 at *
                  go_wp2
                  go_roundw
                  case rel => exact ⟨k + 1, _, by omega, rfl, by go_num, by rw [show 128 * j + (k + 1) = 128 * j + k + 1 by omega, NX.out, ← HS.out, CM.out]; rfl, A1.out, A2.out, A3.out, BB.out⟩
                  case measure => simp [intOf]; omega
            · cases v1
              all_goals
                cases v2
                all_goals
                  simp only [Bool.xor_false, Bool.xor_true, Bool.not_true, Bool.not_false] at X3
                  go_upto_region 13 with fail
                  refine wp_region_lit ?_
                  refine list_plane A2.out rfl (.tmp 16) rfl (by simp [Act.eval, Act.put]) ?_
                  go_wp2_with fail
                  refine (X2.out _).mono ?_
                  rintro e v21 ⟨rfl, b1⟩
                  have A1 := Lib.hid (A1.out.step b1)
                  have A2 := Lib.hid (A2.out.step b1)
                  have A3 := Lib.hid (A3.out.step b1)
                  have BB := Lib.hid (BB.out.trans (b1.mono BB.out.size))
                  clear b1
                  go_wp2
                  refine calm_region (by kernel_rfl) (by kernel_rfl) ?_
                  repeat (first
                    | (refine quiet_plane A1.out ?_ (.tmp 15) rfl ?_ ?_; (focus rfl); (focus (simp [Act.eval]; done)); simp only [Act.put, List.setIfInBounds_toArray, List.set_cons_zero, List.set_cons_succ])
                    | (refine quiet_plane A2.out ?_ (.tmp 16) rfl ?_ ?_; (focus rfl); (focus (simp [Act.eval]; done)); simp only [Act.put, List.setIfInBounds_toArray, List.set_cons_zero, List.set_cons_succ])
                    | (refine quiet_plane A3.out ?_ (.tmp 17) rfl ?_ ?_; (focus rfl); (focus (simp [Act.eval]; done)); simp only [Act.put, List.setIfInBounds_toArray, List.set_cons_zero, List.set_cons_succ])
                    | go_big_quiet_step ((first
                      | (go_at_call_of 16 PA; exact calm_call (X1.out _))
                      | (go_at_call_of 16 PZ; exact calm_call (X3.out _)))))
                  refine wpQuiet_nil ?_
                  intro _ hw'
                  obtain ⟨x, rfl⟩ := hw'
                  have A1 := Lib.hid (A1.out.step x.below)
                  have A2 := Lib.hid (A2.out.step x.below)
                  have A3 := Lib.hid (A3.out.step x.below)
                  have BB := Lib.hid (BB.out.trans (x.below.mono BB.out.size))
                  generalize x.w = v22 at *
                  go_wp2
                  go_roundw
                  case rel => exact ⟨k + 1, _, by omega, rfl, by go_num, by rw [show 128 * j + (k + 1) = 128 * j + k + 1 by omega, NX.out, ← HS.out, CM.out]; rfl, A1.out, A2.out, A3.out, BB.out⟩
                  case measure => simp [intOf]; omega
          · have kI : ¬ (k : Int) < 128 := by omega
            have ke := Lib.hid (show k = 128 by omega)
            go_wp2
            go_roundw
            case rel => exact ⟨j + 1, s, by omega, rfl, by go_num, by rw [HS.out, ke.out, show 128 * (j + 1) = 128 * j + 128 by omega], A1.out, A2.out, A3.out, BB.out⟩
            case measure => simp [intOf]; omega
      · have jI : ¬ (j : Int) < 64 := by omega
        have ke := Lib.hid (show j = 64 by omega)
        have sh : s = ht := by rw [HS.out, ke.out, PH.out.2.2.2.1]
        subst sh
        have hng : (ag = true ∧ 0 < nb) ∨ (ag = false ∧ ¬ 0 < nb) := by
          rw [PH.out.2.2.2.2]
          rcases Nat.eq_zero_or_pos nb with e | e
          · exact .inr ⟨decide_eq_false (by omega), by omega⟩
          · exact .inl ⟨decide_eq_true e, e⟩
        rcases hng with ⟨hg, hpos⟩ | ⟨hg, hpos⟩
        all_goals
          subst hg
          try have hposI : 0 < (nb : Int) := by omega
          cases s
          all_goals
            go_upto_region 17 with fail
            refine wp_region_lit ?_
            refine list_plane A3.out rfl (.tmp 17) rfl (by simp [Act.eval, Act.put]) ?_
            refine list_plane A2.out rfl (.tmp 16) rfl (by simp [Act.eval, Act.put]) ?_
            go_wp2_with fail
            refine (D2.out _).mono ?_
            rintro e v23 ⟨rfl, b1⟩
            have A1 := Lib.hid (A1.out.step b1)
            have A2 := Lib.hid (A2.out.step b1)
            have A3 := Lib.hid (A3.out.step b1)
            have BB := Lib.hid (BB.out.trans (b1.mono BB.out.size))
            clear b1
            simp only []
            go_at_K
            go_step
            go_step
            go_step
            go_step
            go_step
            go_step
            go_step
            go_step
            go_step
            go_step
            refine list_var (A := PD) rfl rfl rfl (.tmp 23) (.tmp 93) rfl (by simp [Act.eval, Act.put]) (by simp [Act.eval, Act.put]) ?_
            simp only [Act.put, List.setIfInBounds_toArray, List.set_cons_zero, List.set_cons_succ]
            have A4 := Lib.hid (PBox.new v23 PD 35)
            have A1 := Lib.hid (A1.out.alloc (.cells (pcells PD) 35))
            have A2 := Lib.hid (A2.out.alloc (.cells (pcells PD) 35))
            have A3 := Lib.hid (A3.out.alloc (.cells (pcells PD) 35))
            have BB := Lib.hid (BB.out.alloc BB.out.size (.cells (pcells PD) 35))
            obtain ⟨q4, hq⟩ : ∃ q, v23.heap.size = q := ⟨_, rfl⟩
            generalize v23.alloc (.cells (pcells PD) 35) = v24 at *
            rw [hq] at A4 ⊢
            clear hq
            go_upto_region 18 with fail
            refine wp_region_lit ?_
            refine list_plane A2.out rfl (.tmp 16) rfl (by simp [Act.eval, Act.put]) ?_
            refine list_plane A2.out rfl (.tmp 16) rfl (by simp [Act.eval, Act.put]) ?_
            go_wp2_with fail
            refine (D3.out _).mono ?_
            rintro e v25 ⟨rfl, b1⟩
            have A1 := Lib.hid (A1.out.step b1)
            have A2 := Lib.hid (A2.out.step b1)
            have A3 := Lib.hid (A3.out.step b1)
            have A4 := Lib.hid (A4.out.step b1)
            have BB := Lib.hid (BB.out.trans (b1.mono BB.out.size))
            clear b1
            simp only []
            go_at_K
            go_step
            go_step
            go_step
            go_step
            go_step
            go_step
            go_step
            go_step
            go_step
            go_step
            refine list_var (A := PE) rfl rfl rfl (.tmp 25) (.tmp 99) rfl (by simp [Act.eval, Act.put]) (by simp [Act.eval, Act.put]) ?_
            simp only [Act.put, List.setIfInBounds_toArray, List.set_cons_zero, List.set_cons_succ]
            have A5 := Lib.hid (PBox.new v25 PE 35)
            have A1 := Lib.hid (A1.out.alloc (.cells (pcells PE) 35))
            have A2 := Lib.hid (A2.out.alloc (.cells (pcells PE) 35))
            have A3 := Lib.hid (A3.out.alloc (.cells (pcells PE) 35))
            have A4 := Lib.hid (A4.out.alloc (.cells (pcells PE) 35))
            have BB := Lib.hid (BB.out.alloc BB.out.size (.cells (pcells PE) 35))
            obtain ⟨q5, hq⟩ : ∃ q, v25.heap.size = q := ⟨_, rfl⟩
            generalize v25.alloc (.cells (pcells PE) 35) = v26 at *
            rw [hq] at A5 ⊢
            clear hq
            go_upto_region 19 with fail
            refine calm_plain ?_
            repeat (first
              | (refine quiet_plane A1.out ?_ (.tmp 15) rfl ?_ ?_; (focus rfl); (focus (simp [Act.eval]; done)); simp only [Act.put, List.setIfInBounds_toArray, List.set_cons_zero, List.set_cons_succ])
              | (refine quiet_plane A2.out ?_ (.tmp 16) rfl ?_ ?_; (focus rfl); (focus (simp [Act.eval]; done)); simp only [Act.put, List.setIfInBounds_toArray, List.set_cons_zero, List.set_cons_succ])
              | (refine quiet_plane A3.out ?_ (.tmp 17) rfl ?_ ?_; (focus rfl); (focus (simp [Act.eval]; done)); simp only [Act.put, List.setIfInBounds_toArray, List.set_cons_zero, List.set_cons_succ])
              | (refine quiet_plane A4.out ?_ (.tmp 23) rfl ?_ ?_; (focus rfl); (focus (simp [Act.eval]; done)); simp only [Act.put, List.setIfInBounds_toArray, List.set_cons_zero, List.set_cons_succ])
              | (refine quiet_plane A5.out ?_ (.tmp 25) rfl ?_ ?_; (focus rfl); (focus (simp [Act.eval]; done)); simp only [Act.put, List.setIfInBounds_toArray, List.set_cons_zero, List.set_cons_succ])
              | (refine quiet_same DS.out ?_ (.tmp 105) (.tmp 106) 35 rfl ?_ ?_ ?_; (focus rfl); (focus (simp [Act.eval]; done)); (focus (simp [Act.eval]; done)); simp only [Act.put, List.setIfInBounds_toArray, List.set_cons_zero, List.set_cons_succ])
              | go_big_quiet_step ((first
                | (go_at_call 25; exact calm_call (C1.out _)))))
            refine wpQuiet_nil ?_
            intro _ hw'
            obtain ⟨x, rfl⟩ := hw'
            have A1 := Lib.hid (A1.out.step x.below)
            have A2 := Lib.hid (A2.out.step x.below)
            have A3 := Lib.hid (A3.out.step x.below)
            have A4 := Lib.hid (A4.out.step x.below)
            have A5 := Lib.hid (A5.out.step x.below)
            have BB := Lib.hid (BB.out.trans (x.below.mono BB.out.size))
            generalize x.w = v27 at *
            go_wp2
            go_ret
            first
              | exact ⟨rfl, BB.out⟩
              | (refine ⟨?_, BB.out⟩; rw [decide_eq_true (show 0 < nb by omega)]; rfl)
              | (refine ⟨?_, BB.out⟩; rw [decide_eq_false (show ¬ 0 < nb by omega)]; rfl)
  · have RI := Lib.hid hR
    clear hR
    go_wp2_with fail
    refine (right_no _ _ _ _ _ _ m h RR.out _ RI.out).mono ?_
    rintro e w' ⟨rfl, rfl⟩
    go_wp2_with fail
    refine (awake7 _).mono ?_
    rintro e v2 ⟨rfl, b2⟩
    have BB := Lib.hid (BB.out.trans (b2.mono BB.out.size))
    clear b2
    go_wp2
    go_ret
    exact ⟨rfl, BB.out⟩
theorem planeDraws_walk (a1 a2 a3 : Int) (A : Option Addr) (n cap : Nat) (L : List Nat) (big : Bool) (x y : Int) (hires clip : Bool) (w : World) (w1 : (Lit.int .i64 a1).wf = true) (w2 : (Lit.int .i64 a2).wf = true) (w3 : (Lit.int .i64 a3).wf = true) (H : Arg16 w A n L) (hx : (Lit.int .i64 x).wf = true) (hy : (Lit.int .i64 y).wf = true) :
    Calls Try.prog 4 #[.agg #[.int .i64 a1, .int .i64 a2, .int .i64 a3], .slice A n cap, .bool big, .int .i64 x, .int .i64 y, .bool hires, .bool clip] w fun e w' => e = .returned (.bool true) ∧ Below w.heap.size w w' :=
  planeDraws_go a1 a2 a3 A L n cap big hires clip x y w w1 w2 w3 H.rd H.le H.len
end Go.Proofs.Ytfijkbckokcbnaa
