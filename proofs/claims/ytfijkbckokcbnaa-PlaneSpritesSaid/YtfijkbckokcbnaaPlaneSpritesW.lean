/- The walk of PlaneSprites. -/
import Derived.Test.YtfijkbckokcbnaaPlaneAwake
import Derived.Test.YtfijkbckokcbnaaPlaneOpen
namespace Go.Proofs.Ytfijkbckokcbnaa
open Go.RowKit Num
set_option linter.unusedVariables false
set_option linter.unusedSimpArgs false

theorem clip_facts (bits : Nat → Nat) (n c X Y m h k i : Nat) (c1 : c ≤ 16) (hm : 16 ≤ m) (m1 : m ≤ 128) (hx : X < m) (hl : n ≤ h) (hy : Y < h) (h64 : h ≤ 64) (hk : k < 128) (hi : i < 64) {PA PB : Pl} (hA : spr bits n c X Y m h false = PA) (hB : spr bits n c X Y m h true = PB) {v1 v2 : Bool} (e1 : pget PA k i = v1) (e2 : pget PB k i = v2) :
    (v1 = false ∧ v2 = false) ∨ (v1 = true ∧ ¬ X ≤ k ∧ v2 = false) ∨ (v1 = true ∧ X ≤ k ∧ ¬ Y ≤ i ∧ v2 = false) ∨ (v1 = true ∧ X ≤ k ∧ Y ≤ i ∧ v2 = true) := by
  have hc := spr_clip bits n c X Y m h c1 hm m1 hx hl hy h64 k i hk
  rw [hA, hB] at hc
  rw [pget_in _ _ _ hi, pxi_nat] at e1 e2
  rw [e1, e2] at hc
  subst hc
  cases v1
  · exact .inl ⟨rfl, rfl⟩
  · by_cases hkx : X ≤ k
    · by_cases hiy : Y ≤ i
      · exact .inr (.inr (.inr ⟨rfl, hkx, hiy, by simp [hkx, hiy]⟩))
      · exact .inr (.inr (.inl ⟨rfl, hkx, hiy, by simp [hiy]⟩))
    · exact .inr (.inl ⟨rfl, hkx, by simp [hkx]⟩)
theorem bit_step (b k v : Nat) (hv : v = b / 2 ^ k) : pcn b.testBit (k + 1) = pcn b.testBit k + v % 2 := by
  rw [pcn_step, bit_of b k v hv]
  rcases (show v % 2 = 0 ∨ v % 2 = 1 by omega) with e | e
  · rw [e]; rfl
  · rw [e]; rfl
theorem bits_le (bits : Nat → Nat) (c n : Nat) (c1 : c ≤ 16) (n1 : n ≤ 16) : sm (fun i => pcn (bits i).testBit c) n ≤ 256 := by
  have h := sm_const_le (fun i => pcn (bits i).testBit c) 16 n fun i _ => Nat.le_trans (pcn_le _ _) c1
  omega
set_option maxRecDepth 100000 in
set_option maxHeartbeats 8000000 in
theorem planeSprites_go (A : Option Addr) (L : List Nat) (n cap : Nat) (big hires : Bool) (x y : Int) (w : World) (H : Rd16 w A L) (hL : ∀ x ∈ L, x ≤ 65535) (hn : L.length = n) :
    Calls Try.prog 6 #[.slice A n cap, .bool big, .int .i64 x, .int .i64 y, .bool hires] w fun e w' => e = .returned (.bool true) ∧ Below w.heap.size w w' := by
  obtain ⟨m, h, hr⟩ := resOf hires
  obtain ⟨c, c8, hc⟩ := countOf big
  obtain ⟨m0, m1, h0, h1⟩ := hr.bounds
  have RR := Lib.hid hr
  have GR := Lib.hid H
  have HH := Lib.hid (And.intro hL (And.intro hn (And.intro c8 hc)))
  have BB := Lib.hid (Below.refl w.heap.size w)
  clear hr H hL hn c8 hc
  go_enter Try.func6, Try.ntmps6
  go_wp2_with fail
  refine (awake7 _).mono ?_
  rintro e v1 ⟨rfl, b1⟩
  have GR := Lib.hid (GR.out.step b1)
  have BB := Lib.hid (BB.out.trans (b1.mono BB.out.size))
  clear b1
  by_cases hR : Right n x y m h
  · have RI := hR
    obtain ⟨n1, x0, y0, x1, y1⟩ := hR
    obtain ⟨X, rfl⟩ := Int.eq_ofNat_of_zero_le x0
    obtain ⟨Y, rfl⟩ := Int.eq_ofNat_of_zero_le y0
    have hX : X < m := by omega
    have hY : Y < h := by omega
    obtain ⟨PA, hPA⟩ : ∃ Z, spr (nth L) n c X Y m h false = Z := ⟨_, rfl⟩
    obtain ⟨PB, hPB⟩ : ∃ Z, spr (nth L) n c X Y m h true = Z := ⟨_, rfl⟩
    have c16 : c ≤ 16 := by have := HH.out.2.2.1; omega
    have c0 : 0 < c := by have := HH.out.2.2.1; omega
    have hpc : pcount PA = sm (fun i => pcn (nth L i).testBit c) n := by rw [← hPA]; exact pcount_spr _ _ _ _ _ _ _ c16 m0 m1 hX (by omega) hY h1
    obtain ⟨S, hS⟩ : ∃ S, sm (fun i => pcn (nth L i).testBit c) n = S := ⟨_, rfl⟩
    rw [hS] at hpc
    have HS := Lib.hid (And.intro hS (And.intro hPA (And.intro hPB hpc)))
    have RI := Lib.hid RI
    have hXk := Lib.hid hX
    have hYk := Lib.hid hY
    clear hS hPA hPB hpc x0 y0 x1 y1
    go_wp2_with fail
    refine (right_yes _ _ _ _ _ _ m h RR.out _ RI.out).mono ?_
    rintro e w' ⟨rfl, rfl⟩
    go_wp2
    go_loop [11, 12] (fun a t => ∃ i p : Nat, i ≤ n ∧ a = .int .i64 (p : Int) ∧ t = .int .i64 (i : Int) ∧ p = sm (fun i => pcn (nth L i).testBit c) i) (fun _ t => n - (intOf t).toNat)
    case atStart => exact ⟨0, 0, by omega, rfl, rfl, rfl⟩
    case round =>
      obtain ⟨i, p, hi, rfl, rfl, hp⟩ := hrel
      have p0 := bits_le (nth L) c i c16 (by omega)
      rw [← hp] at p0
      have HP := Lib.hid hp
      clear hp
      by_cases hlt : i < n
      · have ki : (i : Int) < (n : Int) := by omega
        obtain ⟨ad, hA, had, hcell⟩ := GR.out.at_ (k := i) (by rw [HH.out.2.1]; exact hlt)
        have bl := nth_le HH.out.1 i
        change v1.cell? (ad.add i) = some (.int .u16 (nth L i : Int)) at hcell
        obtain ⟨b, hb⟩ : ∃ v, nth L i = v := ⟨_, rfl⟩
        rw [hb] at hcell bl
        have HB := Lib.hid hb
        obtain rfl := hA
        clear hb had
        go_wp2
        go_loop [11, 13, 14] (fun a bb t => ∃ k v r : Nat, k ≤ c ∧ a = .int .i64 ((p + r : Nat) : Int) ∧ bb = .int .i64 (v : Int) ∧ t = .int .i64 (k : Int) ∧ v = b / 2 ^ k ∧ r = pcn b.testBit k) (fun _ _ t => c - (intOf t).toNat)
        case atStart => exact ⟨0, b, 0, by omega, rfl, rfl, rfl, by simp, rfl⟩
        case round =>
          obtain ⟨k, v, r, hk, rfl, rfl, rfl, hv, hrr⟩ := hrel
          have v1 : (v : Int) ≤ 65535 := by have := Nat.div_le_self b (2 ^ k); rw [← hv] at this; omega
          have r0 := pcn_le b.testBit k
          rw [← hrr] at r0
          have ST := Lib.hid (bit_step b k v hv)
          obtain ⟨z, hz⟩ : ∃ z : Nat, p + r = z := ⟨_, rfl⟩
          rw [hz]
          have z1 : (z : Int) ≤ 10000 := by omega
          have HZ := Lib.hid (And.intro hz (And.intro hv hrr))
          clear hz hv hrr r0
          by_cases hkt : k < c
          · have kc : (k : Int) < (c : Int) := by omega
            go_wp2_with fail
            refine (lcount_any big c HH.out.2.2.2 _).mono ?_
            rintro e w' ⟨rfl, rfl⟩
            go_wp2
            go_round
            case rel =>
              refine ⟨k + 1, v / 2, r + v % 2, by omega, ?_, by go_num, by go_num, by rw [HZ.out.2.1, div_step], by rw [ST.out, ← HZ.out.2.2]⟩
              have := HZ.out.1
              rw [show p + (r + v % 2) = z + v % 2 by omega]
              go_num
            case measure => simp [intOf]; omega
          · have kc : ¬ (k : Int) < (c : Int) := by omega
            have ke := Lib.hid (show k = c by omega)
            go_wp2_with fail
            refine (lcount_any big c HH.out.2.2.2 _).mono ?_
            rintro e w' ⟨rfl, rfl⟩
            go_wp2
            go_round
            case rel =>
              refine ⟨i + 1, z, by omega, rfl, by go_num, ?_⟩
              rw [sm, ← HP.out, ← HZ.out.1, HZ.out.2.2, ke.out, HB.out]
            case measure => simp [intOf]; omega
      · have ke := Lib.hid (show i = n by omega)
        have ki : ¬ (i : Int) < (n : Int) := by omega
        have pS := Lib.hid (show p = S by rw [HP.out, ke.out, HS.out.1])
        go_wp2_with fail
        refine (lcount_any big c HH.out.2.2.2 _).mono ?_
        rintro e w' ⟨rfl, rfl⟩
        go_wp2_with fail
        refine (spW RR.out GR.out HH.out.1 HH.out.2.1 n1 HH.out.2.2.1 hXk.out hYk.out rfl rfl rfl HS.out.2.1).mono ?_
        rintro e v2 ⟨rfl, b1⟩
        have GR := Lib.hid (GR.out.step b1)
        have BB := Lib.hid (BB.out.trans (b1.mono BB.out.size))
        clear b1
        simp only []
        go_at_K
        go_step
        refine list_var (A := PA) rfl rfl rfl (.tmp 15) (.tmp 59) rfl (by simp [Act.eval, Act.put]) (by simp [Act.eval, Act.put]) ?_
        simp only [Act.put, List.setIfInBounds_toArray, List.set_cons_zero, List.set_cons_succ]
        have A1 := Lib.hid (PBox.new v2 PA 35)
        have GR := Lib.hid (GR.out.step (below_new _ (.cells (pcells PA) 35)))
        have BB := Lib.hid (BB.out.alloc BB.out.size (.cells (pcells PA) 35))
        obtain ⟨q1, hq⟩ : ∃ q, v2.heap.size = q := ⟨_, rfl⟩
        generalize v2.alloc (.cells (pcells PA) 35) = v3 at *
        rw [hq] at A1 ⊢
        clear hq
        go_wp2_with fail
        refine (lcount_any big c HH.out.2.2.2 _).mono ?_
        rintro e w' ⟨rfl, rfl⟩
        go_wp2_with fail
        refine (spW RR.out GR.out HH.out.1 HH.out.2.1 n1 HH.out.2.2.1 hXk.out hYk.out rfl rfl rfl HS.out.2.2.1).mono ?_
        rintro e v4 ⟨rfl, b1⟩
        have GR := Lib.hid (GR.out.step b1)
        have A1 := Lib.hid (A1.out.step b1)
        have BB := Lib.hid (BB.out.trans (b1.mono BB.out.size))
        clear b1
        simp only []
        go_at_K
        go_step
        refine list_var (A := PB) rfl rfl rfl (.tmp 16) (.tmp 66) rfl (by simp [Act.eval, Act.put]) (by simp [Act.eval, Act.put]) ?_
        simp only [Act.put, List.setIfInBounds_toArray, List.set_cons_zero, List.set_cons_succ]
        have A2 := Lib.hid (PBox.new v4 PB 35)
        have GR := Lib.hid (GR.out.step (below_new _ (.cells (pcells PB) 35)))
        have A1 := Lib.hid (A1.out.alloc (.cells (pcells PB) 35))
        have BB := Lib.hid (BB.out.alloc BB.out.size (.cells (pcells PB) 35))
        obtain ⟨q2, hq⟩ : ∃ q, v4.heap.size = q := ⟨_, rfl⟩
        generalize v4.alloc (.cells (pcells PB) 35) = v5 at *
        rw [hq] at A2 ⊢
        clear hq
        go_wp2
        clear hlt hi ki
        go_loopw [17] (fun t wr => ∃ j : Nat, j ≤ 64 ∧ t = .int .i64 (j : Int) ∧ PBox q1 35 PA wr ∧ PBox q2 35 PB wr ∧ Below w.heap.size w wr) (fun t _ => 64 - (intOf t).toNat)
        case atStart => exact ⟨0, by omega, rfl, A1.out, A2.out, BB.out⟩
        case round =>
          clear A1 A2 BB GR
          obtain ⟨j, hj, rfl, hA1, hA2, hBB⟩ := hrel
          have A1 := Lib.hid hA1
          have A2 := Lib.hid hA2
          have BB := Lib.hid hBB
          clear hA1 hA2 hBB
          by_cases hjt : j < 64
          · have jI : (j : Int) < 64 := by omega
            go_wp2
            go_loopw [18] (fun t wr => ∃ k : Nat, k ≤ 128 ∧ t = .int .i64 (k : Int) ∧ PBox q1 35 PA wr ∧ PBox q2 35 PB wr ∧ Below w.heap.size w wr) (fun t _ => 128 - (intOf t).toNat)
            case atStart => exact ⟨0, by omega, rfl, A1.out, A2.out, BB.out⟩
            case round =>
              clear A1 A2 BB
              obtain ⟨k, hk, rfl, hA1, hA2, hBB⟩ := hrel
              have A1 := Lib.hid hA1
              have A2 := Lib.hid hA2
              have BB := Lib.hid hBB
              clear hA1 hA2 hBB
              by_cases hkt : k < 128
              · have kI : (k : Int) < 128 := by omega
                obtain ⟨v1, e1⟩ : ∃ v, pget PA k j = v := ⟨_, rfl⟩
                obtain ⟨v2, e2⟩ : ∃ v, pget PB k j = v := ⟨_, rfl⟩
                have X1 := Lib.hid fun w => pxW e1 (by omega) (by omega) (by omega) (by omega) w
                have X2 := Lib.hid fun w => pxW e2 (by omega) (by omega) (by omega) (by omega) w
                have CF := clip_facts (nth L) n c X Y m h k j c16 m0 m1 hXk.out (by omega) hYk.out h1 hkt hjt HS.out.2.1 HS.out.2.2.1 e1 e2
                clear e1 e2
                rcases CF with ⟨rfl, rfl⟩ | ⟨rfl, g1, rfl⟩ | ⟨rfl, g1, g2, rfl⟩ | ⟨rfl, g1, g2, rfl⟩
                all_goals
                  try have gI1 : (X : Int) ≤ (k : Int) := by omega
                  try have gI2 : (Y : Int) ≤ (j : Int) := by omega
                  try have gJ1 : ¬ (X : Int) ≤ (k : Int) := by omega
                  try have gJ2 : ¬ (Y : Int) ≤ (j : Int) := by omega
                  go_wp2
                  refine calm_region (by kernel_rfl) (by kernel_rfl) ?_
                  repeat (first
                    | (refine quiet_plane A1.out ?_ (.tmp 15) rfl ?_ ?_; (focus rfl); (focus (simp [Act.eval]; done)); simp only [Act.put, List.setIfInBounds_toArray, List.set_cons_zero, List.set_cons_succ])
                    | (refine quiet_plane A2.out ?_ (.tmp 16) rfl ?_ ?_; (focus rfl); (focus (simp [Act.eval]; done)); simp only [Act.put, List.setIfInBounds_toArray, List.set_cons_zero, List.set_cons_succ])
                    | go_big_quiet_step ((first
                      | (go_at_call_of 16 PA; exact calm_call (X1.out _))
                      | (go_at_call_of 16 PB; exact calm_call (X2.out _)))))
                  refine wpQuiet_nil ?_
                  intro _ hw'
                  obtain ⟨x, rfl⟩ := hw'
                  have A1 := Lib.hid (A1.out.step x.below)
                  have A2 := Lib.hid (A2.out.step x.below)
                  have BB := Lib.hid (BB.out.trans (x.below.mono BB.out.size))
                  generalize x.w = v6 at *
                  go_wp2
                  go_roundw
                  case rel => exact ⟨k + 1, by omega, by go_num, A1.out, A2.out, BB.out⟩
                  case measure => simp [intOf]; omega
              · have kI : ¬ (k : Int) < 128 := by omega
                go_wp2
                go_roundw
                case rel => exact ⟨j + 1, by omega, by go_num, A1.out, A2.out, BB.out⟩
                case measure => simp [intOf]; omega
          · have jI : ¬ (j : Int) < 64 := by omega
            have C1 := Lib.hid fun w => ctW (show ((pcount PA : Nat) : Int) = (p : Int) by rw [HS.out.2.2.2, pS.out]) w
            go_upto_region 23 with fail
            refine wp_region_lit ?_
            refine list_plane A1.out rfl (.tmp 15) rfl (by simp [Act.eval, Act.put]) ?_
            go_wp2_with fail
            refine (C1.out _).mono ?_
            rintro e v7 ⟨rfl, b1⟩
            have A1 := Lib.hid (A1.out.step b1)
            have A2 := Lib.hid (A2.out.step b1)
            have BB := Lib.hid (BB.out.trans (b1.mono BB.out.size))
            clear b1
            go_wp2
            go_ret
            exact ⟨rfl, BB.out⟩
  · have RI := Lib.hid hR
    clear hR
    go_wp2_with fail
    refine (right_no _ _ _ _ _ _ m h RR.out _ RI.out).mono ?_
    rintro e w' ⟨rfl, rfl⟩
    go_wp2_with fail
    refine (awake7 _).mono ?_
    rintro e v2 ⟨rfl, b2⟩
    have BB := Lib.hid (BB.out.trans (b2.mono BB.out.size))
    clear b2
    go_wp2
    go_ret
    exact ⟨rfl, BB.out⟩
theorem planeSprites_walk (A : Option Addr) (n cap : Nat) (L : List Nat) (big : Bool) (x y : Int) (hires : Bool) (w : World) (H : Arg16 w A n L) (hx : (Lit.int .i64 x).wf = true) (hy : (Lit.int .i64 y).wf = true) :
    Calls Try.prog 6 #[.slice A n cap, .bool big, .int .i64 x, .int .i64 y, .bool hires] w fun e w' => e = .returned (.bool true) ∧ Below w.heap.size w w' :=
  planeSprites_go A L n cap big hires x y w H.rd H.le H.len
end Go.Proofs.Ytfijkbckokcbnaa
