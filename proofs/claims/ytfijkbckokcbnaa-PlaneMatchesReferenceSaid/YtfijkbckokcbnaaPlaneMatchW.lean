/- The walk of PlaneMatchesReference. -/
import Derived.Test.YtfijkbckokcbnaaPlaneAwake
import Derived.Test.YtfijkbckokcbnaaPlaneOpen
namespace Go.Proofs.Ytfijkbckokcbnaa
open Go.RowKit Num
set_option linter.unusedVariables false
set_option linter.unusedSimpArgs false

section
variable {ops : Array Oper} {W : World}
theorem list_byG {Q : Exit → Act → World → Prop} {o : Oper} {rest : List Oper} {a : Act} (hw : Region.wanted o (yielded ops a.tmps) = true) (v : Value) (h1 : (execOp a.eval o).run Try.prog W = .ok (.value v) W)
    (h : wpList Try.prog ops Q rest (a.put o.dst v) W) : wpList Try.prog ops Q (o :: rest) a W := by
  refine wpList_step fun K hK => ?_
  rw [if_pos hw]
  unfold Oper.wp
  rw [h1]
  exact hK _ _ h
theorem list_loadG {Q : Exit → Act → World → Prop} {o : Oper} {rest : List Oper} {a : Act} {b : Nat} {A : Pl} (H : PBox b 35 A W) (hw : Region.wanted o (yielded ops a.tmps) = true) (x : Operand) (ho : o.op = .load 35 x) (hx : a.eval x = .pointer (some ⟨b, 0, none⟩))
    (h : wpList Try.prog ops Q rest (a.put o.dst (.agg (pcells A))) W) : wpList Try.prog ops Q (o :: rest) a W :=
  list_byG hw _ (exec_load 35 x ho b hx _ _ _ _ H Try.underlying35 rfl (by rw [sizePlane, pcells_size])) h
theorem list_neqG {Q : Exit → Act → World → Prop} {o : Oper} {rest : List Oper} {a : Act} {A B : Pl} (hs : samePl A B = true) (hw : Region.wanted o (yielded ops a.tmps) = true) (x y : Operand) (z : TypeId) (ho : o.op = .binOp .neq 35 x y z) (hx : a.eval x = .agg (pcells A)) (hy : a.eval y = .agg (pcells B))
    (h : wpList Try.prog ops Q rest (a.put o.dst (.bool false)) W) : wpList Try.prog ops Q (o :: rest) a W :=
  list_byG hw (.bool false) (by rw [exec_neq x y z ho A B hx hy, hs]; rfl) h
end
theorem same_self (A : Pl) : samePl A A = true := same_of fun _ _ => rfl
theorem pget_fwd (f : Nat → Bool) (X Y : Nat) (hX : X < 128) (hY : Y < 64) : pget (fwd f) (X : Int) (Y : Int) = f (128 * Y + X) := by
  rw [pget_in _ _ _ hY, pxi_nat, px_fwd _ _ _ hX]
theorem match_facts {N : Nat} (hN : N = 8192) (f g : Nat → Bool) : pcount (fwd f) = pcn f N ∧ hitB (fwd f) (fwd g) = hitTo (fun i => f i && g i) N ∧ fwd (fun i => f i ^^ g i) = drawn (fwd f) (fwd g) := by
  have h1 := pcount_fwd f
  have h2 := hit_common f g
  rw [show (128 * 64 : Nat) = N by omega] at h1 h2
  exact ⟨h1, h2, funext fun y => fwd_drawn f g y⟩
set_option maxRecDepth 100000 in
set_option maxHeartbeats 8000000 in
theorem planeMatch_go (a1 a2 a3 dx dy : Int) (A : Option Addr) (L : List Nat) (n cap : Nat) (big hires clip : Bool) (x y : Int) (w : World) (w1 : (Lit.int .i64 a1).wf = true) (w2 : (Lit.int .i64 a2).wf = true) (w3 : (Lit.int .i64 a3).wf = true) (b1 : -128 ≤ dx ∧ dx ≤ 127) (b2 : -128 ≤ dy ∧ dy ≤ 127) (H : Rd16 w A L) (hL : ∀ x ∈ L, x ≤ 65535) (hn : L.length = n) :
    Calls Try.prog 3 #[.agg #[.int .i64 a1, .int .i64 a2, .int .i64 a3], .int .i8 dx, .int .i8 dy, .slice A n cap, .bool big, .int .i64 x, .int .i64 y, .bool hires, .bool clip] w fun e w' => e = .returned (.bool true) ∧ Below w.heap.size w w' := by
  obtain ⟨d0, d1⟩ := b1
  obtain ⟨d2, d3⟩ := b2
  obtain ⟨m, h, hr⟩ := resOf hires
  obtain ⟨c, c8, hc⟩ := countOf big
  obtain ⟨m0, m1, h0, h1⟩ := hr.bounds
  have RR := Lib.hid hr
  have WF := Lib.hid (And.intro w1 (And.intro w2 w3))
  obtain ⟨N, hN⟩ : ∃ N, N = 8192 := ⟨_, rfl⟩
  have NN := Lib.hid hN
  have HH := Lib.hid (And.intro hL (And.intro hn (And.intro c8 hc)))
  have BB := Lib.hid (below_new w (.cells #[.int .i64 a1, .int .i64 a2, .int .i64 a3] 23))
  have GR := Lib.hid (H.step (below_new w (.cells #[.int .i64 a1, .int .i64 a2, .int .i64 a3] 23)))
  have GS := Lib.hid (SBox.new w a1 a2 a3)
  clear hr H hL hn c8 hc w1 w2 w3 hN
  go_enter Try.func3, Try.ntmps3
  go_wp2_with fail
  generalize w.alloc (.cells #[.int .i64 a1, .int .i64 a2, .int .i64 a3] 23) = v0 at *
  refine (awake7 _).mono ?_
  rintro e v1 ⟨rfl, b1⟩
  have GR := Lib.hid (GR.out.step b1)
  have GS := Lib.hid (GS.out.step b1)
  have BB := Lib.hid (BB.out.trans (b1.mono BB.out.size))
  clear b1
  by_cases hR : Right n x y m h
  · have RI := Lib.hid hR
    obtain ⟨n1, x0, y0, x1, y1⟩ := hR
    obtain ⟨X, rfl⟩ := Int.eq_ofNat_of_zero_le x0
    obtain ⟨Y, rfl⟩ := Int.eq_ofNat_of_zero_le y0
    have hXk := Lib.hid (show X < m by omega)
    have hYk := Lib.hid (show Y < h by omega)
    have xI : (X : Int) ≤ 200 := by omega
    have yI : (Y : Int) ≤ 200 := by omega
    clear x0 y0 x1 y1
    rcases (show (¬ dy < -64 ∧ ¬ 64 < dy) ∨ dy < -64 ∨ (¬ dy < -64 ∧ 64 < dy) by omega) with ⟨g1, g2⟩ | g1 | ⟨g1, g2⟩
    · go_wp2_with fail
      refine (right_yes _ _ _ _ _ _ m h RR.out _ RI.out).mono ?_
      rintro e w' ⟨rfl, rfl⟩
      have s0 := GS.out.c0
      have s1 := GS.out.c1
      have s2 := GS.out.c2
      go_wp2_with fail
      clear s0 s1 s2 g1 g2
      refine (seedN NN.out WF.out.1 WF.out.2.1 WF.out.2.2 RR.out _).mono ?_
      rintro e v2 ⟨f, hf, r1, rfl, hg, hP, b1⟩
      have GR := Lib.hid (GR.out.step b1)
      have GS := Lib.hid (GS.out.step b1)
      have BB := Lib.hid (BB.out.trans (b1.mono BB.out.size))
      clear b1
      have GP := Lib.hid hP
      have FF := Lib.hid hf
      clear hP hf hg
      obtain ⟨PA, hPA⟩ : ∃ Z, fwd f = Z := ⟨_, rfl⟩
      obtain ⟨ZS, hZS⟩ : ∃ Z, scroll PA dx dy m h = Z := ⟨_, rfl⟩
      obtain ⟨FS, hFS⟩ : ∃ F, rscF f dx dy m h = F := ⟨_, rfl⟩
      have hZS2 : fwd FS = ZS := by rw [← hFS, ← hZS, ← hPA]; exact funext fun y => fwd_scroll f dx dy m h m1 FF.out y
      obtain ⟨F, hF⟩ : ∃ F, rspF (nth L) n c X Y m h clip = F := ⟨_, rfl⟩
      obtain ⟨PB, hPB⟩ : ∃ Z, spr (nth L) n c X Y m h clip = Z := ⟨_, rfl⟩
      have hPB2 : fwd F = PB := by rw [← hF, ← hPB]; exact fwd_rsp _ _ _ _ _ _ _ _
      obtain ⟨FD, hFD⟩ : ∃ F', (fun i => f i ^^ F i) = F' := ⟨_, rfl⟩
      obtain ⟨PZ, hPZ⟩ : ∃ Z, drawn PA PB = Z := ⟨_, rfl⟩
      obtain ⟨ht, hht⟩ : ∃ v, hitB PA PB = v := ⟨_, rfl⟩
      have MF := match_facts NN.out f F
      rw [hPA, hPB2, hFD, hPZ, hht] at MF
      obtain ⟨q, hq⟩ : ∃ q, pcn f N = q := ⟨_, rfl⟩
      rw [hq] at MF
      have q9 : (q : Int) ≤ 10000 := by have := pcn_le f N; have := NN.out; omega
      obtain ⟨pv, hpv⟩ : ∃ v, f (128 * Y + X) = v := ⟨_, rfl⟩
      have hpx : pget PA X Y = pv := by rw [← hPA, pget_fwd _ _ _ (by have := hXk.out; omega) (by have := hYk.out; omega), hpv]
      have P1 := Lib.hid fun w => pxW hpx (by omega) (by omega) (by omega) (by omega) w
      have S1 := Lib.hid fun w => scW RR.out hZS (by omega) (by omega) (by omega) (by omega) w
      have D1 := Lib.hid fun w => drW hPZ hht w
      have C1 := Lib.hid fun w => ctW (show ((pcount PA : Nat) : Int) = (q : Int) by rw [MF.1]) w
      have PH := Lib.hid (And.intro hPA (And.intro hFS (And.intro hZS2 (And.intro hF (And.intro hPB (And.intro hPB2 (And.intro hFD (And.intro MF.2.2 (And.intro MF.2.1.symm (And.intro hq hpv))))))))))
      have SS := Lib.hid (same_self ZS)
      have SB := Lib.hid (same_self PB)
      have SZ := Lib.hid (same_self PZ)
      clear hPA hZS hFS hZS2 hF hPB hPB2 hFD hPZ hht MF hq hpv hpx
      go_wp2_with fail
      refine (fwN NN.out GP.out PH.out.1).mono ?_
      rintro e v3 ⟨rfl, b1⟩
      have GR := Lib.hid (GR.out.step b1)
      have GS := Lib.hid (GS.out.step b1)
      have GP := Lib.hid (GP.out.step b1)
      have BB := Lib.hid (BB.out.trans (b1.mono BB.out.size))
      clear b1
      simp only []
      go_at_K
      go_step
      refine list_var (A := PA) rfl rfl rfl (.tmp 20) (.tmp 54) rfl (by simp [Act.eval, Act.put]) (by simp [Act.eval, Act.put]) ?_
      simp only [Act.put, List.setIfInBounds_toArray, List.set_cons_zero, List.set_cons_succ]
      have A1 := Lib.hid (PBox.new v3 PA 35)
      have GR := Lib.hid (GR.out.step (below_new _ (.cells (pcells PA) 35)))
      have GS := Lib.hid (GS.out.step (below_new _ (.cells (pcells PA) 35)))
      have GP := Lib.hid (GP.out.step (below_new _ (.cells (pcells PA) 35)))
      have BB := Lib.hid (BB.out.alloc BB.out.size (.cells (pcells PA) 35))
      obtain ⟨q1, hq⟩ : ∃ q, v3.heap.size = q := ⟨_, rfl⟩
      generalize v3.alloc (.cells (pcells PA) 35) = v4 at *
      rw [hq] at A1 ⊢
      clear hq
      go_wp2_with fail
      refine (size_any RR.out _).mono ?_
      rintro e w' ⟨rfl, rfl⟩
      go_wp2_with fail
      refine (rwidthR RR.out _).mono ?_
      rintro e w' ⟨rfl, rfl⟩
      go_wp2_with fail
      refine (rheightR RR.out _).mono ?_
      rintro e w' ⟨rfl, rfl⟩
      simp only []
      go_at_K
      repeat (first
        | (refine list_loadG A1.out ?_ (.tmp 20) rfl ?_ ?_; (focus rfl); (focus (simp [Act.eval]; done)); simp only [Act.put, List.setIfInBounds_toArray, List.set_cons_zero, List.set_cons_succ])
        | go_step)
      go_wp2_with fail
      refine (P1.out _).mono ?_
      rintro e v5 ⟨rfl, b1⟩
      have GR := Lib.hid (GR.out.step b1)
      have GS := Lib.hid (GS.out.step b1)
      have GP := Lib.hid (GP.out.step b1)
      have A1 := Lib.hid (A1.out.step b1)
      have BB := Lib.hid (BB.out.trans (b1.mono BB.out.size))
      clear b1
      go_wp2_with fail
      refine (rgetN NN.out r1 f _ GP.out (x := X) (y := Y) rfl rfl rfl (by have := hXk.out; omega) (by have := hYk.out; omega) PH.out.2.2.2.2.2.2.2.2.2.2).mono ?_
      rintro e w' ⟨rfl, rfl⟩
      simp only []
      go_at_K
      repeat (first
        | (refine list_loadG A1.out ?_ (.tmp 20) rfl ?_ ?_; (focus rfl); (focus (simp [Act.eval]; done)); simp only [Act.put, List.setIfInBounds_toArray, List.set_cons_zero, List.set_cons_succ])
        | go_step)
      go_wp2_with fail
      refine (S1.out _).mono ?_
      rintro e v6 ⟨rfl, b1⟩
      have GR := Lib.hid (GR.out.step b1)
      have GS := Lib.hid (GS.out.step b1)
      have GP := Lib.hid (GP.out.step b1)
      have A1 := Lib.hid (A1.out.step b1)
      have BB := Lib.hid (BB.out.trans (b1.mono BB.out.size))
      clear b1
      go_wp2_with fail
      refine (rscN NN.out RR.out GP.out (by omega) (by omega) (by omega) (by omega) PH.out.2.1).mono ?_
      rintro e v7 ⟨r2, rfl, hg, hP, b1⟩
      have GR := Lib.hid (GR.out.step b1)
      have GS := Lib.hid (GS.out.step b1)
      have GP := Lib.hid (GP.out.step b1)
      have A1 := Lib.hid (A1.out.step b1)
      have BB := Lib.hid (BB.out.trans (b1.mono BB.out.size))
      clear b1
      have GT := Lib.hid hP
      clear hP hg
      go_wp2_with fail
      refine (fwN NN.out GT.out PH.out.2.2.1).mono ?_
      rintro e v8 ⟨rfl, b1⟩
      have GR := Lib.hid (GR.out.step b1)
      have GS := Lib.hid (GS.out.step b1)
      have GP := Lib.hid (GP.out.step b1)
      have A1 := Lib.hid (A1.out.step b1)
      have GT := Lib.hid (GT.out.step b1)
      have BB := Lib.hid (BB.out.trans (b1.mono BB.out.size))
      clear b1
      simp only []
      go_at_K
      repeat (first
        | (refine list_neqG SS.out ?_ (.tmp 88) (.tmp 96) 35 rfl ?_ ?_ ?_; (focus rfl); (focus (simp [Act.eval]; done)); (focus (simp [Act.eval]; done)); simp only [Act.put, List.setIfInBounds_toArray, List.set_cons_zero, List.set_cons_succ])
        | go_step)
      go_loop [23, 24] (fun a i => ∃ k p : Nat, k ≤ N ∧ a = .int .i64 (p : Int) ∧ i = .int .i64 (k : Int) ∧ p = pcn f k) (fun _ i => N - (intOf i).toNat)
      case atStart => exact ⟨0, 0, by omega, rfl, rfl, rfl⟩
      case round =>
        obtain ⟨k, p, hk, rfl, rfl, hp⟩ := hrel
        have p0 := pcn_le f k
        rw [← hp] at p0
        have p1 : (p : Int) ≤ 10000 := by have := NN.out; omega
        have k9 : (k : Int) ≤ 10000 := by have := NN.out; omega
        have HP := Lib.hid hp
        clear hp p0
        by_cases hlt : k < N
        · have ki : (k : Int) < (N : Int) := by omega
          have k8 := Lib.hid (show k < 8192 by have := NN.out; omega)
          have c1 := GP.out.at_ k k8.out
          have ST := Lib.hid (pcn_step f k)
          obtain ⟨u1, e1⟩ : ∃ v, v = f k := ⟨_, rfl⟩
          rw [← e1] at c1
          have E := Lib.hid e1
          clear e1
          cases u1
          all_goals
            go_wp2
            go_round
            case rel => exact ⟨k + 1, _, by omega, by go_num, by go_num, by have e1 := E.out; rw [ST.out, ← HP.out, ← e1]; rfl⟩
            case measure => simp [intOf]; omega
        · have kN := Lib.hid (show k = N by omega)
          have ki : ¬ (k : Int) < (N : Int) := by omega
          have pq : p = q := by rw [HP.out, kN.out, PH.out.2.2.2.2.2.2.2.2.2.1]
          subst pq
          go_wp2_with fail
          refine (lcount_any big c HH.out.2.2.2 _).mono ?_
          rintro e w' ⟨rfl, rfl⟩
          go_wp2_with fail
          refine (rsN NN.out RR.out GR.out HH.out.1 HH.out.2.1 n1 HH.out.2.2.1 hXk.out hYk.out rfl rfl rfl PH.out.2.2.2.1).mono ?_
          rintro e v9 ⟨r3, rfl, hg, hP, b1⟩
          have GR := Lib.hid (GR.out.step b1)
          have GS := Lib.hid (GS.out.step b1)
          have GP := Lib.hid (GP.out.step b1)
          have A1 := Lib.hid (A1.out.step b1)
          have GT := Lib.hid (GT.out.step b1)
          have BB := Lib.hid (BB.out.trans (b1.mono BB.out.size))
          clear b1
          have GQ := Lib.hid hP
          clear hP hg
          go_wp2_with fail
          refine (lcount_any big c HH.out.2.2.2 _).mono ?_
          rintro e w' ⟨rfl, rfl⟩
          go_wp2_with fail
          refine (spW RR.out GR.out HH.out.1 HH.out.2.1 n1 HH.out.2.2.1 hXk.out hYk.out rfl rfl rfl PH.out.2.2.2.2.1).mono ?_
          rintro e v10 ⟨rfl, b1⟩
          have GR := Lib.hid (GR.out.step b1)
          have GS := Lib.hid (GS.out.step b1)
          have GP := Lib.hid (GP.out.step b1)
          have A1 := Lib.hid (A1.out.step b1)
          have GT := Lib.hid (GT.out.step b1)
          have GQ := Lib.hid (GQ.out.step b1)
          have BB := Lib.hid (BB.out.trans (b1.mono BB.out.size))
          clear b1
          simp only []
          go_at_K
          go_step
          refine list_var (A := PB) rfl rfl rfl (.tmp 26) (.tmp 126) rfl (by simp [Act.eval, Act.put]) (by simp [Act.eval, Act.put]) ?_
          simp only [Act.put, List.setIfInBounds_toArray, List.set_cons_zero, List.set_cons_succ]
          have A2 := Lib.hid (PBox.new v10 PB 35)
          have GR := Lib.hid (GR.out.step (below_new _ (.cells (pcells PB) 35)))
          have GS := Lib.hid (GS.out.step (below_new _ (.cells (pcells PB) 35)))
          have GP := Lib.hid (GP.out.step (below_new _ (.cells (pcells PB) 35)))
          have A1 := Lib.hid (A1.out.alloc (.cells (pcells PB) 35))
          have GT := Lib.hid (GT.out.step (below_new _ (.cells (pcells PB) 35)))
          have GQ := Lib.hid (GQ.out.step (below_new _ (.cells (pcells PB) 35)))
          have BB := Lib.hid (BB.out.alloc BB.out.size (.cells (pcells PB) 35))
          obtain ⟨q2, hq⟩ : ∃ q, v10.heap.size = q := ⟨_, rfl⟩
          generalize v10.alloc (.cells (pcells PB) 35) = v11 at *
          rw [hq] at A2 ⊢
          clear hq
          go_upto_region 16 with fail
          refine wp_region_lit ?_
          refine list_plane A1.out rfl (.tmp 20) rfl (by simp [Act.eval, Act.put]) ?_
          refine list_plane A2.out rfl (.tmp 26) rfl (by simp [Act.eval, Act.put]) ?_
          go_wp2_with fail
          refine (D1.out _).mono ?_
          rintro e v12 ⟨rfl, b1⟩
          have GR := Lib.hid (GR.out.step b1)
          have GS := Lib.hid (GS.out.step b1)
          have GP := Lib.hid (GP.out.step b1)
          have A1 := Lib.hid (A1.out.step b1)
          have GT := Lib.hid (GT.out.step b1)
          have GQ := Lib.hid (GQ.out.step b1)
          have A2 := Lib.hid (A2.out.step b1)
          have BB := Lib.hid (BB.out.trans (b1.mono BB.out.size))
          clear b1
          simp only []
          go_at_K
          go_step
          go_step
          go_step
          go_step
          go_step
          go_step
          go_step
          go_step
          go_step
          go_step
          refine list_var (A := PZ) rfl rfl rfl (.tmp 27) (.tmp 131) rfl (by simp [Act.eval, Act.put]) (by simp [Act.eval, Act.put]) ?_
          simp only [Act.put, List.setIfInBounds_toArray, List.set_cons_zero, List.set_cons_succ]
          have A3 := Lib.hid (PBox.new v12 PZ 35)
          have GR := Lib.hid (GR.out.step (below_new _ (.cells (pcells PZ) 35)))
          have GS := Lib.hid (GS.out.step (below_new _ (.cells (pcells PZ) 35)))
          have GP := Lib.hid (GP.out.step (below_new _ (.cells (pcells PZ) 35)))
          have A1 := Lib.hid (A1.out.alloc (.cells (pcells PZ) 35))
          have GT := Lib.hid (GT.out.step (below_new _ (.cells (pcells PZ) 35)))
          have GQ := Lib.hid (GQ.out.step (below_new _ (.cells (pcells PZ) 35)))
          have A2 := Lib.hid (A2.out.alloc (.cells (pcells PZ) 35))
          have BB := Lib.hid (BB.out.alloc BB.out.size (.cells (pcells PZ) 35))
          obtain ⟨q3, hq⟩ : ∃ q, v12.heap.size = q := ⟨_, rfl⟩
          generalize v12.alloc (.cells (pcells PZ) 35) = v13 at *
          rw [hq] at A3 ⊢
          clear hq
          go_wp2_with fail
          refine (rdN NN.out GP.out GQ.out PH.out.2.2.2.2.2.2.1 PH.out.2.2.2.2.2.2.2.2.1).mono ?_
          rintro e v14 ⟨r4, rfl, hg, hP, b1⟩
          have GR := Lib.hid (GR.out.step b1)
          have GS := Lib.hid (GS.out.step b1)
          have GP := Lib.hid (GP.out.step b1)
          have A1 := Lib.hid (A1.out.step b1)
          have GT := Lib.hid (GT.out.step b1)
          have GQ := Lib.hid (GQ.out.step b1)
          have A2 := Lib.hid (A2.out.step b1)
          have A3 := Lib.hid (A3.out.step b1)
          have BB := Lib.hid (BB.out.trans (b1.mono BB.out.size))
          clear b1
          have GU := Lib.hid hP
          clear hP hg
          go_upto_region 18 with fail
          have F1 := Lib.hid fun x : Calm v14 => fwN NN.out (GQ.out.step x.below) PH.out.2.2.2.2.2.1
          have F2 := Lib.hid fun x : Calm v14 => fwN NN.out (GU.out.step x.below) PH.out.2.2.2.2.2.2.2.1
          refine calm_region (by kernel_rfl) (by kernel_rfl) ?_
          repeat (first
            | (refine quiet_plane A1.out ?_ (.tmp 20) rfl ?_ ?_; (focus rfl); (focus (simp [Act.eval]; done)); simp only [Act.put, List.setIfInBounds_toArray, List.set_cons_zero, List.set_cons_succ])
            | (refine quiet_plane A2.out ?_ (.tmp 26) rfl ?_ ?_; (focus rfl); (focus (simp [Act.eval]; done)); simp only [Act.put, List.setIfInBounds_toArray, List.set_cons_zero, List.set_cons_succ])
            | (refine quiet_plane A3.out ?_ (.tmp 27) rfl ?_ ?_; (focus rfl); (focus (simp [Act.eval]; done)); simp only [Act.put, List.setIfInBounds_toArray, List.set_cons_zero, List.set_cons_succ])
            | (refine quiet_same SB.out ?_ (.tmp 144) (.tmp 146) 35 rfl ?_ ?_ ?_; (focus rfl); (focus (simp [Act.eval]; done)); (focus (simp [Act.eval]; done)); simp only [Act.put, List.setIfInBounds_toArray, List.set_cons_zero, List.set_cons_succ])
            | (refine quiet_same SZ.out ?_ (.tmp 150) (.tmp 152) 35 rfl ?_ ?_ ?_; (focus rfl); (focus (simp [Act.eval]; done)); (focus (simp [Act.eval]; done)); simp only [Act.put, List.setIfInBounds_toArray, List.set_cons_zero, List.set_cons_succ])
            | go_big_quiet_step ((first
              | (go_at_call 25; exact calm_call (C1.out _))
              | (go_at_call_of 12 r3; exact calm_call (F1.out _))
              | (go_at_call_of 12 r4; exact calm_call (F2.out _)))))
          refine wpQuiet_nil ?_
          intro _ hw'
          obtain ⟨x, rfl⟩ := hw'
          have GR := Lib.hid (GR.out.step x.below)
          have GS := Lib.hid (GS.out.step x.below)
          have GP := Lib.hid (GP.out.step x.below)
          have A1 := Lib.hid (A1.out.step x.below)
          have GT := Lib.hid (GT.out.step x.below)
          have GQ := Lib.hid (GQ.out.step x.below)
          have A2 := Lib.hid (A2.out.step x.below)
          have A3 := Lib.hid (A3.out.step x.below)
          have GU := Lib.hid (GU.out.step x.below)
          have BB := Lib.hid (BB.out.trans (x.below.mono BB.out.size))
          generalize x.w = v15 at *
          go_wp2
          go_ret
          exact ⟨by cases ht <;> rfl, BB.out⟩
    · go_wp2_with fail
      refine (right_yes _ _ _ _ _ _ m h RR.out _ RI.out).mono ?_
      rintro e w' ⟨rfl, rfl⟩
      go_wp2_with fail
      refine (awake7 _).mono ?_
      rintro e v2 ⟨rfl, b2⟩
      have BB := Lib.hid (BB.out.trans (b2.mono BB.out.size))
      clear b2
      go_wp2
      go_ret
      exact ⟨rfl, BB.out⟩
    · go_wp2_with fail
      refine (right_yes _ _ _ _ _ _ m h RR.out _ RI.out).mono ?_
      rintro e w' ⟨rfl, rfl⟩
      go_wp2_with fail
      refine (awake7 _).mono ?_
      rintro e v2 ⟨rfl, b2⟩
      have BB := Lib.hid (BB.out.trans (b2.mono BB.out.size))
      clear b2
      go_wp2
      go_ret
      exact ⟨rfl, BB.out⟩
  · have RI := Lib.hid hR
    clear hR
    go_wp2_with fail
    refine (right_no _ _ _ _ _ _ m h RR.out _ RI.out).mono ?_
    rintro e w' ⟨rfl, rfl⟩
    go_wp2_with fail
    refine (awake7 _).mono ?_
    rintro e v2 ⟨rfl, b2⟩
    have BB := Lib.hid (BB.out.trans (b2.mono BB.out.size))
    clear b2
    go_wp2
    go_ret
    exact ⟨rfl, BB.out⟩
theorem planeMatchesReference_walk (a1 a2 a3 dx dy : Int) (A : Option Addr) (n cap : Nat) (L : List Nat) (big : Bool) (x y : Int) (hires clip : Bool) (w : World) (w1 : (Lit.int .i64 a1).wf = true) (w2 : (Lit.int .i64 a2).wf = true) (w3 : (Lit.int .i64 a3).wf = true) (h1 : (Lit.int .i8 dx).wf = true) (h2 : (Lit.int .i8 dy).wf = true) (H : Arg16 w A n L) (hx : (Lit.int .i64 x).wf = true) (hy : (Lit.int .i64 y).wf = true) :
    Calls Try.prog 3 #[.agg #[.int .i64 a1, .int .i64 a2, .int .i64 a3], .int .i8 dx, .int .i8 dy, .slice A n cap, .bool big, .int .i64 x, .int .i64 y, .bool hires, .bool clip] w fun e w' => e = .returned (.bool true) ∧ Below w.heap.size w w' :=
  planeMatch_go a1 a2 a3 dx dy A L n cap big hires clip x y w w1 w2 w3 (bd_i8 h1) (bd_i8 h2) H.rd H.le H.len
end Go.Proofs.Ytfijkbckokcbnaa
