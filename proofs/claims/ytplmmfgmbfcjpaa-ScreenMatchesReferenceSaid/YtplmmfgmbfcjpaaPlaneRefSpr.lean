/- Contracts of the reference of layer 7: Sprite. -/
import Derived.Test.YtplmmfgmbfcjpaaPlaneBits
namespace Go.Proofs.Ytplmmfgmbfcjpaa
open Go.RowKit Num
set_option linter.unusedVariables false
set_option linter.unusedSimpArgs false

set_option maxRecDepth 100000 in
set_option maxHeartbeats 4000000 in
theorem rpsprite_any (A : Option Addr) (L : List Nat) (n cap c x y : Nat) (clip b : Bool) (m h : Nat) (hr : Res b m h) (w : World) (H : Rd16 w A L) (hL : ∀ x ∈ L, x ≤ 65535) (hn : L.length = n) (n1 : n ≤ 16) (c0 : 0 < c) (c1 : c ≤ 16) (hx : x < m) (hy : y < h) :
    Calls Try.prog 52 #[.slice A n cap, .int .i64 (c : Int), .int .i64 (x : Int), .int .i64 (y : Int), .bool b, .bool clip] w (DrawnP (rspF (nth L) n c x y m h clip) w) := by
  have HH := Lib.hid (And.intro H (And.intro hL hn))
  obtain ⟨N, hN⟩ : ∃ N, N = 8192 := ⟨_, rfl⟩
  have BB := Lib.hid (blankN hN w)
  obtain ⟨m0, m1, h0, h1⟩ := hr.bounds
  have RR := Lib.hid hr
  unfold DrawnP
  rw [← hN]
  have NN := Lib.hid hN
  clear H hL hN hr hn
  go_enter Try.func52, Try.ntmps52
  go_wp2_with fail
  refine BB.out.mono ?_
  rintro e w1 ⟨G, rfl, hG, hP0, hb0⟩
  have G0 := Lib.hid hG
  have P0 := Lib.hid hP0
  have b0 := Lib.hid hb0
  clear hG hP0 hb0
  go_wp2_with fail
  refine (rheightR RR.out w1).mono ?_
  rintro e w' ⟨rfl, rfl⟩
  go_wp2
  go_loopw [15] (fun t wr => ∃ i : Nat, i ≤ n ∧ t = .int .i64 (i : Int) ∧ Pxs G (rspF (nth L) i c x y m h clip) wr ∧ Below w.heap.size w wr) (fun t _ => n - (intOf t).toNat)
  case atStart => exact ⟨0, by omega, rfl, P0.out.congr fun j hj => (rsp_none _ _ _ _ _ _ _ hy j).symm, b0.out⟩
  case round =>
    clear P0 b0
    obtain ⟨i, hi, rfl, hP, hB⟩ := hrel
    have PB := Lib.hid (And.intro hP hB)
    clear hP hB
    by_cases hlt : i < n
    · have hii : (i : Int) < (n : Int) := by omega
      obtain ⟨ad, hA, had, hcell⟩ := (HH.out.1.below PB.out.2).at_ (k := i) (by rw [HH.out.2.2]; exact hlt)
      have bl := nth_le HH.out.2.1 i
      change wr.cell? (ad.add i) = some (.int .u16 (nth L i : Int)) at hcell
      have SP := Lib.hid fun w => rsprite_any (nth L i) c x m clip w bl c0 c1 (by omega) hx m1
      obtain ⟨v, hv⟩ : ∃ v, nth L i = v := ⟨_, rfl⟩
      rw [hv] at hcell SP bl
      have HV := Lib.hid hv
      have had := Lib.hid had
      obtain rfl := hA
      clear hv
      go_wp2_with fail
      refine tail_region 9 (by kernel_rfl) (by kernel_rfl) ?_
      intro wd hwd
      have PD0 : (Pxs G (rspF (nth L) i c x y m h clip) wd ∧ Below w.heap.size w wd) ∧ wd.cell? (ad.add i) = some (.int .u16 (v : Int)) := by rw [hwd]; exact ⟨⟨PB.out.1.drew, PB.out.2.drew⟩, hcell⟩
      have hcd := PD0.2
      have PD := Lib.hid PD0.1
      clear hwd PB PD0 hcell
      simp only [List.take_succ_cons, List.take_zero, List.drop_succ_cons, List.drop_zero]
      repeat still_step
      still_call (stillOf (rwidthR RR.out _))
      repeat still_step
      refine wpStill_nil ?_
      go_wp2_with fail
      refine (SP.out wd).mono ?_
      rintro e w2 ⟨g2, rfl, hg2, hpix, hb2⟩
      have g20 := Lib.hid (show G < g2 from Nat.lt_of_lt_of_le PD.out.1.lt hg2)
      have PX := Lib.hid hpix
      have PE := Lib.hid (And.intro (PD.out.1.step hb2) (PD.out.2.trans (hb2.mono PD.out.2.size)))
      have ea : (y : Int) + (i : Int) = ((y + i : Nat) : Int) := by omega
      obtain ⟨a, ha⟩ : ∃ a, a = y + i := ⟨_, rfl⟩
      rw [← ha] at ea
      have HA := Lib.hid ha
      clear hcd hg2 hpix hb2 ha
      rcases Nat.lt_or_ge a h with hin | hin
      · have hii2 : (a : Int) < (h : Int) := by omega
        go_wp2_with fail
        go_loopw [18] (fun t wr => ∃ k : Nat, k ≤ 128 ∧ t = .int .i64 (k : Int) ∧ Pxs G (rowTo (spF v c x m clip c) a k (rspF (nth L) i c x y m h clip)) wr ∧ Pix g2 (spF v c x m clip c) wr ∧ Below w.heap.size w wr) (fun t _ => 128 - (intOf t).toNat)
        case atStart => exact ⟨0, by omega, rfl, PE.out.1.congr fun j hj => (rowTo_zero _ _ _ j).symm, PX.out, PE.out.2⟩
        case round =>
          clear PE PX
          obtain ⟨k, hk, rfl, hP, hX, hB⟩ := hrel
          by_cases hkt : k < 128
          · have k1 : (k : Int) < 128 := by omega
            obtain ⟨q, hq⟩ : ∃ q, q = 128 * a + k := ⟨_, rfl⟩
            have r6 : (a : Int) < 64 := by have := HA.out; omega
            have eq2 : 128 * (a : Int) + (k : Int) = (q : Int) := by omega
            have q8 : q < 8192 := by omega
            have kN : (q : Int) < (N : Int) := by have := NN.out; omega
            have kn : q < N := by omega
            have c1' := hX.at_ k hkt
            have c3 := hP.at_ q q8
            have c4 := hP.fz q q8
            have ST0 := rowTo_set (spF v c x m clip c) a k (rspF (nth L) i c x y m h clip) q hkt hq
            obtain ⟨u, hu⟩ : ∃ u, spF v c x m clip c k = u := ⟨_, rfl⟩
            rw [hu] at c1'
            have ST := Lib.hid (ST0 u hu)
            have PQ := Lib.hid (And.intro hP (And.intro hX (And.intro hB q8)))
            have hne : G ≠ g2 := by have := g20.out; omega
            have HN := Lib.hid hne
            clear ST0 hu hP hX hB q8 hq
            go_wp2
            go_roundw
            case rel =>
              exact ⟨k + 1, by omega, by go_num, (PQ.out.1.set PQ.out.2.2.2 u).congr fun j _ => ST.out j, PQ.out.2.1.other HN.out _ _, PQ.out.2.2.1.setCell (p := ⟨G, q, none⟩) G0.out _⟩
            case measure => simp [intOf]; omega
          · have PQ := Lib.hid (And.intro hP (And.intro hB (show k = 128 by omega)))
            have k1 : ¬ (k : Int) < 128 := by omega
            clear hP hX hB
            go_wp2
            go_roundw
            case rel =>
              refine ⟨i + 1, by omega, by go_num, PQ.out.1.congr fun j _ => ?_, PQ.out.2.1⟩
              rw [PQ.out.2.2, ← HV.out]
              exact rsp_in _ _ _ _ _ _ _ _ c1 m0 m1 hx (by omega) hy (by have := HA.out; omega) _ HA.out j
            case measure => simp [intOf]; omega
      · have hii2 : ¬ (a : Int) < (h : Int) := by omega
        cases clip
        · obtain ⟨r, hr⟩ : ∃ r, r = a - h := ⟨_, rfl⟩
          have HR := Lib.hid hr
          have er : (a : Int) - (h : Int) = (r : Int) := by omega
          clear hr
          go_wp2_with fail
          go_loopw [18] (fun t wr => ∃ k : Nat, k ≤ 128 ∧ t = .int .i64 (k : Int) ∧ Pxs G (rowTo (spF v c x m false c) r k (rspF (nth L) i c x y m h false)) wr ∧ Pix g2 (spF v c x m false c) wr ∧ Below w.heap.size w wr) (fun t _ => 128 - (intOf t).toNat)
          case atStart => exact ⟨0, by omega, rfl, PE.out.1.congr fun j hj => (rowTo_zero _ _ _ j).symm, PX.out, PE.out.2⟩
          case round =>
            clear PE PX
            obtain ⟨k, hk, rfl, hP, hX, hB⟩ := hrel
            by_cases hkt : k < 128
            · have k1 : (k : Int) < 128 := by omega
              obtain ⟨q, hq⟩ : ∃ q, q = 128 * r + k := ⟨_, rfl⟩
              have r6 : (r : Int) < 64 := by have := HA.out; omega
              have eq2 : 128 * (r : Int) + (k : Int) = (q : Int) := by omega
              have q8 : q < 8192 := by omega
              have kN : (q : Int) < (N : Int) := by have := NN.out; omega
              have kn : q < N := by omega
              have c1' := hX.at_ k hkt
              have c3 := hP.at_ q q8
              have c4 := hP.fz q q8
              have ST0 := rowTo_set (spF v c x m false c) r k (rspF (nth L) i c x y m h false) q hkt hq
              obtain ⟨u, hu⟩ : ∃ u, spF v c x m false c k = u := ⟨_, rfl⟩
              rw [hu] at c1'
              have ST := Lib.hid (ST0 u hu)
              have PQ := Lib.hid (And.intro hP (And.intro hX (And.intro hB q8)))
              have hne : G ≠ g2 := by have := g20.out; omega
              have HN := Lib.hid hne
              clear ST0 hu hP hX hB q8 hq
              go_wp2
              go_roundw
              case rel =>
                exact ⟨k + 1, by omega, by go_num, (PQ.out.1.set PQ.out.2.2.2 u).congr fun j _ => ST.out j, PQ.out.2.1.other HN.out _ _, PQ.out.2.2.1.setCell (p := ⟨G, q, none⟩) G0.out _⟩
              case measure => simp [intOf]; omega
            · have PQ := Lib.hid (And.intro hP (And.intro hB (show k = 128 by omega)))
              have k1 : ¬ (k : Int) < 128 := by omega
              clear hP hX hB
              go_wp2
              go_roundw
              case rel =>
                refine ⟨i + 1, by omega, by go_num, PQ.out.1.congr fun j _ => ?_, PQ.out.2.1⟩
                rw [PQ.out.2.2, ← HV.out]
                exact rsp_out _ _ _ _ _ _ _ c1 m0 m1 hx (by omega) hy (by have := HA.out; omega) _ (by have := HA.out; have := HR.out; omega) j
              case measure => simp [intOf]; omega
        · go_wp2
          go_roundw
          case rel =>
            exact ⟨i + 1, by omega, by go_num, PE.out.1.congr fun j _ => (rsp_lost _ _ _ _ _ _ _ (by have := HA.out; omega) j).symm, PE.out.2⟩
          case measure => simp [intOf]; omega
    · have en := Lib.hid (show i = n by omega)
      have hii : ¬ (i : Int) < (n : Int) := by omega
      go_wp2
      go_ret
      exact ⟨G, rfl, G0.out, by rw [← en.out]; exact PB.out.1, PB.out.2⟩
end Go.Proofs.Ytplmmfgmbfcjpaa
