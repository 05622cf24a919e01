/- Contracts of package plane: Sprite. -/
import Derived.Test.YtplmmfgmbfcjpaaPlaneScr
import Derived.Test.YtplmmfgmbfcjpaaPlaneBits
namespace Go.Proofs.Ytplmmfgmbfcjpaa
open Go.RowKit Num
set_option linter.unusedVariables false
set_option linter.unusedSimpArgs false

set_option maxRecDepth 100000 in
set_option maxHeartbeats 4000000 in
theorem psprite_any (A : Option Addr) (L : List Nat) (n cap c x y : Nat) (clip b : Bool) (m h : Nat) (hr : Res b m h) (w : World) (H : Rd16 w A L) (hL : ∀ x ∈ L, x ≤ 65535) (hn : L.length = n) (n1 : n ≤ 16) (c8 : c = 8 ∨ c = 16) (hx : x < m) (hy : y < h) :
    Calls Try.prog 41 #[.slice A n cap, .int .i64 (c : Int), .int .i64 (x : Int), .int .i64 (y : Int), .bool b, .bool clip] w fun e w' => e = .returned (.agg (pcells (spr (nth L) n c x y m h clip))) ∧ Below w.heap.size w w' := by
  obtain ⟨m0, m1, h0, h1⟩ := hr.bounds
  have HH := Lib.hid (And.intro H (And.intro hL hn))
  have RR := Lib.hid hr
  have hz := zeroPlane
  have C8 := Lib.hid c8
  have cc : c ≤ 16 := by omega
  clear hr H hL hn c8
  go_enter Try.func41, Try.ntmps41
  go_wp2_with fail
  have N1 := Lib.hid (PBox.new w (fun _ => 0#128) 29)
  have B1 := Lib.hid (below_new w (.cells (pcells fun _ => 0#128) 29))
  have S1 : (w.alloc (.cells (pcells fun _ => 0#128) 29)).heap.size = w.heap.size + 1 := by simp
  generalize w.alloc (.cells (pcells fun _ => 0#128) 29) = w1 at *
  refine (size_any RR.out w1).mono ?_
  rintro e w' ⟨rfl, rfl⟩
  go_wp2
  have L2 := Lib.hid (PBox.new w1 (fun _ => 0#128) 29)
  rw [S1] at L2
  have L1 := Lib.hid (N1.out.alloc (.cells (pcells fun _ => 0#128) 29))
  have B2 := Lib.hid (B1.out.alloc (by rw [S1]; omega) (.cells (pcells fun _ => 0#128) 29))
  clear N1 B1 S1 hz
  generalize w1.alloc (.cells (pcells fun _ => 0#128) 29) = w2 at *
  go_loopw [26] (fun t wr => ∃ i : Nat, i ≤ n ∧ t = .int .i64 (i : Int) ∧ PBox w.heap.size 29 (fun _ => 0#128) wr ∧ PBox (w.heap.size + 1) 29 (spr (nth L) i c x y m h clip) wr ∧ Below w.heap.size w wr) (fun t _ => n - (intOf t).toNat)
  case atStart => exact ⟨0, by omega, rfl, L1.out, L2.out.congr fun j _ => (spr_none _ _ _ _ _ _ _ hy j).symm, B2.out⟩
  case round =>
    clear L1 L2 B2
    obtain ⟨i, hi, rfl, h1', h2', hB⟩ := hrel
    have Q := Lib.hid (And.intro h1' (And.intro h2' hB))
    clear h1' h2' hB
    by_cases hlt : i < n
    · have hii : (i : Int) < (n : Int) := by omega
      obtain ⟨ad, hA, had, hcell⟩ := (HH.out.1.below Q.out.2.2).at_ (k := i) (by rw [HH.out.2.2]; exact hlt)
      have bl := nth_le HH.out.2.1 i
      change wr.cell? (ad.add i) = some (.int .u16 (nth L i : Int)) at hcell
      obtain ⟨v, hv⟩ : ∃ v, nth L i = v := ⟨_, rfl⟩
      rw [hv] at hcell bl
      have HV := Lib.hid hv
      obtain rfl := hA
      clear hv had
      obtain ⟨v1, v2, ev⟩ := words (sprite v c x m clip)
      have SP := Lib.hid fun w => spriteW (b := v) (c := c) (x := x) (m := m) (clip := clip) ev rfl rfl rfl rfl C8.out bl (by omega) m1 w
      have EV := Lib.hid ev
      clear ev
      have ea : (y : Int) + (i : Int) = ((y + i : Nat) : Int) := by omega
      obtain ⟨a, ha⟩ : ∃ a, a = y + i := ⟨_, rfl⟩
      rw [← ha] at ea
      have a9 : (a : Int) ≤ 1000 := by omega
      have HA := Lib.hid ha
      clear ha
      rcases Nat.lt_or_ge a h with hin | hin
      · have r6 : a < 64 := by have := HA.out; omega
        have r7 : (a : Int) < (h : Int) := by omega
        go_wp2_with fail
        refine (SP.out _).mono ?_
        rintro e w' ⟨rfl, hb⟩
        have Q2 := Lib.hid (And.intro (Q.out.1.step hb) (And.intro (Q.out.2.1.step hb) (Q.out.2.2.trans (hb.mono Q.out.2.2.size))))
        clear hb hcell
        have c1 := Q2.out.2.1.left a r6
        have c2 := Q2.out.2.1.right a r6
        have c3 := Q2.out.2.1.frozen (a * 2)
        have c4 := Q2.out.2.1.frozen (a * 2 + 1)
        generalize Num.hi (spr (nth L) i c x y m h clip a) = u3 at *
        generalize Num.lo (spr (nth L) i c x y m h clip a) = u4 at *
        go_wp2
        go_roundw
        case rel =>
          refine ⟨i + 1, by omega, by go_num, (Q2.out.1.other (by omega) _ _).other (by omega) _ _, (Q2.out.2.1.row a r6 v1 v2).congr fun j _ => ?_, (Q2.out.2.2.setCell (p := ⟨w.heap.size + 1, a * 2, none⟩) (by simp) _).setCell (p := ⟨w.heap.size + 1, a * 2 + 1, none⟩) (by simp) _⟩
          rw [spr_in _ _ _ _ _ _ _ _ (by omega) hy (by have := HA.out; omega), HV.out, EV.out, ← HA.out]
          by_cases e : j = a
          · rw [e, upd_same, if_pos rfl]
          · rw [upd_other _ _ _ _ e, if_neg e]
        case measure => simp [intOf]; omega
      · have hii2 : ¬ (a : Int) < (h : Int) := by omega
        cases clip
        · obtain ⟨r, hr⟩ : ∃ r, r = a - h := ⟨_, rfl⟩
          have HR := Lib.hid hr
          have HRR := Lib.hid (show r = y + i - h by have := HA.out; omega)
          have er : (a : Int) - (h : Int) = (r : Int) := by omega
          have er7 : r < h := by have := HA.out; omega
          clear hr
          have r6 : r < 64 := by have := HA.out; omega
          have r7 : (r : Int) < (h : Int) := by omega
          go_wp2_with fail
          refine (SP.out _).mono ?_
          rintro e w' ⟨rfl, hb⟩
          have Q2 := Lib.hid (And.intro (Q.out.1.step hb) (And.intro (Q.out.2.1.step hb) (Q.out.2.2.trans (hb.mono Q.out.2.2.size))))
          clear hb hcell
          have c1 := Q2.out.2.1.left r r6
          have c2 := Q2.out.2.1.right r r6
          have c3 := Q2.out.2.1.frozen (r * 2)
          have c4 := Q2.out.2.1.frozen (r * 2 + 1)
          generalize Num.hi (spr (nth L) i c x y m h false r) = u3 at *
          generalize Num.lo (spr (nth L) i c x y m h false r) = u4 at *
          go_wp2
          go_roundw
          case rel =>
            refine ⟨i + 1, by omega, by go_num, (Q2.out.1.other (by omega) _ _).other (by omega) _ _, (Q2.out.2.1.row r r6 v1 v2).congr fun j _ => ?_, (Q2.out.2.2.setCell (p := ⟨w.heap.size + 1, r * 2, none⟩) (by simp) _).setCell (p := ⟨w.heap.size + 1, r * 2 + 1, none⟩) (by simp) _⟩
            rw [spr_out _ _ _ _ _ _ _ (by omega) hy (by have := HA.out; omega), HV.out, EV.out, ← HRR.out]
            by_cases e : j = r
            · rw [e, upd_same, if_pos rfl]
            · rw [upd_other _ _ _ _ e, if_neg e]
          case measure => simp [intOf]; omega
        · go_wp2
          go_roundw
          case rel =>
            exact ⟨i + 1, by omega, by go_num, Q.out.1, Q.out.2.1.congr fun j _ => (spr_lost _ _ _ _ _ _ _ (by have := HA.out; omega) j).symm, Q.out.2.2⟩
          case measure => simp [intOf]; omega
    · have ke := Lib.hid (show i = n by omega)
      have ki : ¬ (i : Int) < (n : Int) := by omega
      have q1 := Lib.hid Q.out.1
      have q2 := Lib.hid (Q.out.2.1.congr (Q := spr (nth L) n c x y m h clip) fun j _ => by rw [ke.out])
      have hb := Lib.hid Q.out.2.2
      clear Q
      go_upto_region 12 with fail
      refine wp_region_lit ?_
      refine wpList_load_row rfl 29 (.tmp 15) rfl (w.heap.size + 1) (by simp [Act.eval]) _ _ _ _ q2.out Try.underlying29 rfl (by rw [sizePlane, pcells_size]) ?_
      refine wpList_store_row rfl 29 (.tmp 12) (.tmp 61) rfl w.heap.size (pcells (spr (nth L) n c x y m h clip)) (by simp [Act.eval, Act.put]) (by simp [Act.eval, Act.put]) _ _ q1.out (by rw [sizePlane, pcells_size]) (by rw [pcells_size, pcells_size]) (pcells_one _) ?_
      have q4 := Lib.hid (q1.out.store (spr (nth L) n c x y m h clip))
      have hb2 := Lib.hid (belowRow hb.out (Nat.le_refl _) (pcells (spr (nth L) n c x y m h clip)))
      generalize wr.setRow w.heap.size (pcells (spr (nth L) n c x y m h clip)) = w4 at *
      iterate 4 go_step
      exact bodyPost_ret (results_cell_row rfl _ _ w.heap.size _ _ _ _ rfl q4.out Try.underlying29 rfl (by rw [sizePlane, pcells_size])) rfl ⟨rfl, hb2.out⟩
end Go.Proofs.Ytplmmfgmbfcjpaa
