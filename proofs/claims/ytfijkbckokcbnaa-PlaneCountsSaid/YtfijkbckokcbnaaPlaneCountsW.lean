/- The walk of PlaneCounts. -/
import Derived.Test.YtfijkbckokcbnaaPlaneAwake
import Derived.Test.YtfijkbckokcbnaaPlaneOpen
namespace Go.Proofs.Ytfijkbckokcbnaa
open Go.RowKit Num
set_option linter.unusedVariables false
set_option linter.unusedSimpArgs false

theorem counts_facts {N : Nat} (hN : N = 8192) (f g : Nat → Bool) {n : Nat} (hn : pcn (fun i => f i && g i) N = n) : hitB (fwd f) (fwd g) = decide (0 < n) ∧ pcount (drawn (fwd f) (fwd g)) + 2 * n = pcount (fwd f) + pcount (fwd g) := by
  have h1 := hit_common f g
  have h2 := count_drawn f g
  rw [show (128 * 64 : Nat) = N by omega, hn] at h1 h2
  exact ⟨h1, h2⟩
set_option maxRecDepth 100000 in
set_option maxHeartbeats 4000000 in
theorem planeCounts_go (a1 a2 a3 : Int) (A : Option Addr) (L : List Nat) (n cap : Nat) (big hires clip : Bool) (x y : Int) (w : World) (w1 : (Lit.int .i64 a1).wf = true) (w2 : (Lit.int .i64 a2).wf = true) (w3 : (Lit.int .i64 a3).wf = true) (H : Rd16 w A L) (hL : ∀ x ∈ L, x ≤ 65535) (hn : L.length = n) :
    Calls Try.prog 8 #[.agg #[.int .i64 a1, .int .i64 a2, .int .i64 a3], .slice A n cap, .bool big, .int .i64 x, .int .i64 y, .bool hires, .bool clip] w fun e w' => e = .returned (.bool true) ∧ Below w.heap.size w w' := by
  obtain ⟨m, h, hr⟩ := resOf hires
  obtain ⟨c, c8, hc⟩ := countOf big
  obtain ⟨m0, m1, h0, h1⟩ := hr.bounds
  have RR := Lib.hid hr
  have WF := Lib.hid (And.intro w1 (And.intro w2 w3))
  obtain ⟨N, hN⟩ : ∃ N, N = 8192 := ⟨_, rfl⟩
  have NN := Lib.hid hN
  have HH := Lib.hid (And.intro hL (And.intro hn (And.intro c8 hc)))
  have BB := Lib.hid (below_new w (.cells #[.int .i64 a1, .int .i64 a2, .int .i64 a3] 23))
  have GR := Lib.hid (H.step (below_new w (.cells #[.int .i64 a1, .int .i64 a2, .int .i64 a3] 23)))
  have GS := Lib.hid (SBox.new w a1 a2 a3)
  clear hr H hL hn c8 hc w1 w2 w3 hN
  go_enter Try.func8, Try.ntmps8
  go_wp2_with fail
  generalize w.alloc (.cells #[.int .i64 a1, .int .i64 a2, .int .i64 a3] 23) = v0 at *
  refine (awake7 _).mono ?_
  rintro e v1 ⟨rfl, b1⟩
  have GR := Lib.hid (GR.out.step b1)
  have GS := Lib.hid (GS.out.step b1)
  have BB := Lib.hid (BB.out.trans (b1.mono BB.out.size))
  clear b1
  by_cases hR : Right n x y m h
  · have RI := hR
    obtain ⟨n1, x0, y0, x1, y1⟩ := hR
    obtain ⟨X, rfl⟩ := Int.eq_ofNat_of_zero_le x0
    obtain ⟨Y, rfl⟩ := Int.eq_ofNat_of_zero_le y0
    have hX : X < m := by omega
    have hY : Y < h := by omega
    have RI := Lib.hid RI
    clear x0 y0 x1 y1
    go_wp2_with fail
    refine (right_yes _ _ _ _ _ _ m h RR.out _ RI.out).mono ?_
    rintro e w' ⟨rfl, rfl⟩
    have s0 := GS.out.c0
    have s1 := GS.out.c1
    have s2 := GS.out.c2
    go_wp2_with fail
    clear s0 s1 s2
    refine (seedN NN.out WF.out.1 WF.out.2.1 WF.out.2.2 RR.out _).mono ?_
    rintro e v2 ⟨f, hf, g1, rfl, hg, hP, b1⟩
    have GR := Lib.hid (GR.out.step b1)
    have GS := Lib.hid (GS.out.step b1)
    have BB := Lib.hid (BB.out.trans (b1.mono BB.out.size))
    clear b1
    have GP := Lib.hid hP
    clear hP hf hg
    go_wp2_with fail
    refine (lcount_any big c HH.out.2.2.2 _).mono ?_
    rintro e w' ⟨rfl, rfl⟩
    go_wp2_with fail
    obtain ⟨F, hF⟩ : ∃ F, rspF (nth L) n c X Y m h clip = F := ⟨_, rfl⟩
    refine (rsN NN.out RR.out GR.out HH.out.1 HH.out.2.1 n1 HH.out.2.2.1 hX hY rfl rfl rfl hF).mono ?_
    rintro e v3 ⟨g2, rfl, hg, hP, b1⟩
    have GR := Lib.hid (GR.out.step b1)
    have GS := Lib.hid (GS.out.step b1)
    have GP := Lib.hid (GP.out.step b1)
    have BB := Lib.hid (BB.out.trans (b1.mono BB.out.size))
    clear b1
    have GQ := Lib.hid hP
    clear hP hg hF
    go_wp2
    obtain ⟨q, hq⟩ : ∃ q, pcn (fun i => f i && F i) N = q := ⟨_, rfl⟩
    have QQ := Lib.hid hq
    have qN := pcn_le (fun i => f i && F i) N
    rw [hq] at qN
    have qI : (q : Int) ≤ 10000 := by have := NN.out; omega
    clear hq qN
    go_loop [17, 18] (fun a i => ∃ k p : Nat, k ≤ N ∧ a = .int .i64 (p : Int) ∧ i = .int .i64 (k : Int) ∧ p = pcn (fun i => f i && F i) k) (fun _ i => N - (intOf i).toNat)
    case atStart => exact ⟨0, 0, by omega, rfl, rfl, rfl⟩
    case round =>
      obtain ⟨k, p, hk, rfl, rfl, hp⟩ := hrel
      have p0 := pcn_le (fun i => f i && F i) k
      rw [← hp] at p0
      have p1 : (p : Int) ≤ 10000 := by have := NN.out; omega
      have k9 : (k : Int) ≤ 10000 := by have := NN.out; omega
      have HP := Lib.hid hp
      clear hp p0
      by_cases hlt : k < N
      · have ki : (k : Int) < (N : Int) := by omega
        have k8 := Lib.hid (show k < 8192 by have := NN.out; omega)
        have c1 := GP.out.at_ k k8.out
        have c2 := GQ.out.at_ k k8.out
        have ST := Lib.hid (pcn_step (fun i => f i && F i) k)
        obtain ⟨u1, e1⟩ : ∃ v, v = f k := ⟨_, rfl⟩
        obtain ⟨u2, e2⟩ : ∃ v, v = F k := ⟨_, rfl⟩
        rw [← e1] at c1
        rw [← e2] at c2
        have E := Lib.hid (And.intro e1 e2)
        clear e1 e2
        cases u1
        all_goals
          cases u2
          all_goals
            go_wp2
            go_round
            case rel => exact ⟨k + 1, _, by omega, by go_num, by go_num, by have e1 := E.out.1; have e2 := E.out.2; rw [ST.out, ← HP.out, ← e1, ← e2]; rfl⟩
            case measure => simp [intOf]; omega
      · have kN := Lib.hid (show k = N by omega)
        have ki : ¬ (k : Int) < (N : Int) := by omega
        have pq : p = q := by rw [HP.out, kN.out, QQ.out]
        subst pq
        have CF := counts_facts NN.out f F QQ.out
        obtain ⟨PA, hPA⟩ : ∃ Z, fwd f = Z := ⟨_, rfl⟩
        obtain ⟨PB, hPB⟩ : ∃ Z, fwd F = Z := ⟨_, rfl⟩
        rw [hPA, hPB] at CF
        obtain ⟨PZ, hPZ⟩ : ∃ Z, drawn PA PB = Z := ⟨_, rfl⟩
        rw [hPZ] at CF
        obtain ⟨na, hna⟩ : ∃ n, pcount PA = n := ⟨_, rfl⟩
        obtain ⟨nb, hnb⟩ : ∃ n, pcount PB = n := ⟨_, rfl⟩
        obtain ⟨nz, hnz⟩ : ∃ n, pcount PZ = n := ⟨_, rfl⟩
        rw [hna, hnb, hnz] at CF
        have la := pcount_le PA
        have lb := pcount_le PB
        rw [hna] at la
        rw [hnb] at lb
        have C1 := Lib.hid fun w => ctW (show ((pcount PA : Nat) : Int) = (na : Int) by rw [hna]) w
        have C2 := Lib.hid fun w => ctW (show ((pcount PB : Nat) : Int) = (nb : Int) by rw [hnb]) w
        have C3 := Lib.hid fun w => ctW (show ((pcount PZ : Nat) : Int) = (nz : Int) by rw [hnz]) w
        have PH := Lib.hid (And.intro hPA (And.intro hPB hPZ))
        have k1 : IntKind.i64.wrap ((na : Int) + (nb : Int)) = (na : Int) + (nb : Int) := IntWalk.i64_in _ (by omega)
        have k2 : IntKind.i64.wrap (2 * (p : Int)) = 2 * (p : Int) := IntWalk.i64_in _ (by omega)
        have k3 : IntKind.i64.wrap ((na : Int) + (nb : Int) - 2 * (p : Int)) = (nz : Int) := by rw [IntWalk.i64_in _ (by omega)]; omega
        have hcs : (hitB PA PB = true ∧ 0 < (p : Int)) ∨ (hitB PA PB = false ∧ ¬ 0 < (p : Int)) := by
          rw [CF.1]
          rcases Nat.eq_zero_or_pos p with e | e
          · exact .inr ⟨decide_eq_false (by omega), by omega⟩
          · exact .inl ⟨decide_eq_true e, by omega⟩
        have KK := Lib.hid (And.intro k1 (And.intro k2 k3))
        clear CF hPA hPB hPZ hna hnb hnz la lb k1 k2 k3
        rcases hcs with ⟨hh, hpos⟩ | ⟨hh, hpos⟩
        all_goals
          have HH2 := Lib.hid hh
          clear hh
          go_wp2_with fail
          refine (fwN NN.out GP.out PH.out.1).mono ?_
          rintro e v4 ⟨rfl, b1⟩
          have GR := Lib.hid (GR.out.step b1)
          have GS := Lib.hid (GS.out.step b1)
          have GP := Lib.hid (GP.out.step b1)
          have GQ := Lib.hid (GQ.out.step b1)
          have BB := Lib.hid (BB.out.trans (b1.mono BB.out.size))
          clear b1
          simp only []
          go_at_K
          go_step
          refine list_var (A := PA) rfl rfl rfl (.tmp 19) (.tmp 64) rfl (by simp [Act.eval, Act.put]) (by simp [Act.eval, Act.put]) ?_
          simp only [Act.put, List.setIfInBounds_toArray, List.set_cons_zero, List.set_cons_succ]
          have A1 := Lib.hid (PBox.new v4 PA 35)
          have GR := Lib.hid (GR.out.step (below_new _ (.cells (pcells PA) 35)))
          have GS := Lib.hid (GS.out.step (below_new _ (.cells (pcells PA) 35)))
          have GP := Lib.hid (GP.out.step (below_new _ (.cells (pcells PA) 35)))
          have GQ := Lib.hid (GQ.out.step (below_new _ (.cells (pcells PA) 35)))
          have BB := Lib.hid (BB.out.alloc BB.out.size (.cells (pcells PA) 35))
          obtain ⟨q1, hq⟩ : ∃ q, v4.heap.size = q := ⟨_, rfl⟩
          generalize v4.alloc (.cells (pcells PA) 35) = v5 at *
          rw [hq] at A1 ⊢
          clear hq
          go_wp2_with fail
          refine (fwN NN.out GQ.out PH.out.2.1).mono ?_
          rintro e v6 ⟨rfl, b1⟩
          have GR := Lib.hid (GR.out.step b1)
          have GS := Lib.hid (GS.out.step b1)
          have GP := Lib.hid (GP.out.step b1)
          have GQ := Lib.hid (GQ.out.step b1)
          have A1 := Lib.hid (A1.out.step b1)
          have BB := Lib.hid (BB.out.trans (b1.mono BB.out.size))
          clear b1
          simp only []
          go_at_K
          go_step
          refine list_var (A := PB) rfl rfl rfl (.tmp 20) (.tmp 66) rfl (by simp [Act.eval, Act.put]) (by simp [Act.eval, Act.put]) ?_
          simp only [Act.put, List.setIfInBounds_toArray, List.set_cons_zero, List.set_cons_succ]
          have A2 := Lib.hid (PBox.new v6 PB 35)
          have GR := Lib.hid (GR.out.step (below_new _ (.cells (pcells PB) 35)))
          have GS := Lib.hid (GS.out.step (below_new _ (.cells (pcells PB) 35)))
          have GP := Lib.hid (GP.out.step (below_new _ (.cells (pcells PB) 35)))
          have GQ := Lib.hid (GQ.out.step (below_new _ (.cells (pcells PB) 35)))
          have A1 := Lib.hid (A1.out.alloc (.cells (pcells PB) 35))
          have BB := Lib.hid (BB.out.alloc BB.out.size (.cells (pcells PB) 35))
          obtain ⟨q2, hq⟩ : ∃ q, v6.heap.size = q := ⟨_, rfl⟩
          generalize v6.alloc (.cells (pcells PB) 35) = v7 at *
          rw [hq] at A2 ⊢
          clear hq
          go_upto_region 13 with fail
          refine wp_region_lit ?_
          refine list_plane A1.out rfl (.tmp 19) rfl (by simp [Act.eval, Act.put]) ?_
          refine list_plane A2.out rfl (.tmp 20) rfl (by simp [Act.eval, Act.put]) ?_
          go_wp2_with fail
          refine (drW PH.out.2.2 HH2.out _).mono ?_
          rintro e v8 ⟨rfl, b1⟩
          have GR := Lib.hid (GR.out.step b1)
          have GS := Lib.hid (GS.out.step b1)
          have GP := Lib.hid (GP.out.step b1)
          have GQ := Lib.hid (GQ.out.step b1)
          have A1 := Lib.hid (A1.out.step b1)
          have A2 := Lib.hid (A2.out.step b1)
          have BB := Lib.hid (BB.out.trans (b1.mono BB.out.size))
          clear b1
          simp only []
          go_at_K
          go_step
          go_step
          go_step
          go_step
          go_step
          go_step
          go_step
          go_step
          go_step
          go_step
          refine list_var (A := PZ) rfl rfl rfl (.tmp 21) (.tmp 71) rfl (by simp [Act.eval, Act.put]) (by simp [Act.eval, Act.put]) ?_
          simp only [Act.put, List.setIfInBounds_toArray, List.set_cons_zero, List.set_cons_succ]
          have A3 := Lib.hid (PBox.new v8 PZ 35)
          have GR := Lib.hid (GR.out.step (below_new _ (.cells (pcells PZ) 35)))
          have GS := Lib.hid (GS.out.step (below_new _ (.cells (pcells PZ) 35)))
          have GP := Lib.hid (GP.out.step (below_new _ (.cells (pcells PZ) 35)))
          have GQ := Lib.hid (GQ.out.step (below_new _ (.cells (pcells PZ) 35)))
          have A1 := Lib.hid (A1.out.alloc (.cells (pcells PZ) 35))
          have A2 := Lib.hid (A2.out.alloc (.cells (pcells PZ) 35))
          have BB := Lib.hid (BB.out.alloc BB.out.size (.cells (pcells PZ) 35))
          obtain ⟨q3, hq⟩ : ∃ q, v8.heap.size = q := ⟨_, rfl⟩
          generalize v8.alloc (.cells (pcells PZ) 35) = v9 at *
          rw [hq] at A3 ⊢
          clear hq
          go_upto_region 14 with fail
          have k1 := KK.out.1
          have k2 := KK.out.2.1
          have k3 := KK.out.2.2
          refine calm_region (by kernel_rfl) (by kernel_rfl) ?_
          repeat (first
            | (refine quiet_plane A1.out ?_ (.tmp 19) rfl ?_ ?_; (focus rfl); (focus (simp [Act.eval]; done)); simp only [Act.put, List.setIfInBounds_toArray, List.set_cons_zero, List.set_cons_succ])
            | (refine quiet_plane A2.out ?_ (.tmp 20) rfl ?_ ?_; (focus rfl); (focus (simp [Act.eval]; done)); simp only [Act.put, List.setIfInBounds_toArray, List.set_cons_zero, List.set_cons_succ])
            | (refine quiet_plane A3.out ?_ (.tmp 21) rfl ?_ ?_; (focus rfl); (focus (simp [Act.eval]; done)); simp only [Act.put, List.setIfInBounds_toArray, List.set_cons_zero, List.set_cons_succ])
            | go_big_quiet_step ((first
              | (go_at_call_of 25 PA; exact calm_call (C1.out _))
              | (go_at_call_of 25 PB; exact calm_call (C2.out _))
              | (go_at_call_of 25 PZ; exact calm_call (C3.out _)))))
          refine wpQuiet_nil ?_
          intro _ hw'
          obtain ⟨x, rfl⟩ := hw'
          have GR := Lib.hid (GR.out.step x.below)
          have GS := Lib.hid (GS.out.step x.below)
          have GP := Lib.hid (GP.out.step x.below)
          have GQ := Lib.hid (GQ.out.step x.below)
          have A1 := Lib.hid (A1.out.step x.below)
          have A2 := Lib.hid (A2.out.step x.below)
          have A3 := Lib.hid (A3.out.step x.below)
          have BB := Lib.hid (BB.out.trans (x.below.mono BB.out.size))
          generalize x.w = v10 at *
          clear k1 k2 k3
          go_wp2
          go_ret
          first
            | exact ⟨rfl, BB.out⟩
            | (refine ⟨?_, BB.out⟩; rw [decide_eq_true (show 0 < p by omega)]; rfl)
            | (refine ⟨?_, BB.out⟩; rw [decide_eq_false (show ¬ 0 < p by omega)]; rfl)
  · have RI := Lib.hid hR
    clear hR
    go_wp2_with fail
    refine (right_no _ _ _ _ _ _ m h RR.out _ RI.out).mono ?_
    rintro e w' ⟨rfl, rfl⟩
    go_wp2_with fail
    refine (awake7 _).mono ?_
    rintro e v2 ⟨rfl, b2⟩
    have BB := Lib.hid (BB.out.trans (b2.mono BB.out.size))
    clear b2
    go_wp2
    go_ret
    exact ⟨rfl, BB.out⟩
theorem planeCounts_walk (a1 a2 a3 : Int) (A : Option Addr) (n cap : Nat) (L : List Nat) (big : Bool) (x y : Int) (hires clip : Bool) (w : World) (w1 : (Lit.int .i64 a1).wf = true) (w2 : (Lit.int .i64 a2).wf = true) (w3 : (Lit.int .i64 a3).wf = true) (H : Arg16 w A n L) (hx : (Lit.int .i64 x).wf = true) (hy : (Lit.int .i64 y).wf = true) :
    Calls Try.prog 8 #[.agg #[.int .i64 a1, .int .i64 a2, .int .i64 a3], .slice A n cap, .bool big, .int .i64 x, .int .i64 y, .bool hires, .bool clip] w fun e w' => e = .returned (.bool true) ∧ Below w.heap.size w w' :=
  planeCounts_go a1 a2 a3 A L n cap big hires clip x y w w1 w2 w3 H.rd H.le H.len
end Go.Proofs.Ytfijkbckokcbnaa
