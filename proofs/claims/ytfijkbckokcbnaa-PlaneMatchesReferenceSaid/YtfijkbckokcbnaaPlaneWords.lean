/- Contracts: the words of a row of a reference plane, and the plane that they make (forward). -/
import Derived.Test.YtfijkbckokcbnaaPlaneRef
import Derived.KernelRfl
import Derived.Deep.WholeRow
import Derived.Deep.Cut
import Derived.Deep.CutRange
import Derived.Laws.CopyOwn
namespace Go.Proofs.Ytfijkbckokcbnaa
open Go.RowKit Num
set_option linter.unusedVariables false
set_option linter.unusedSimpArgs false

theorem acc_small (g : Nat → Bool) (k : Nat) (hk : k < 64) : (acc g k : Int) ≤ 9223372036854775807 := by
  have h := acc_lt g k
  have h2 : 2 ^ k ≤ 2 ^ 63 := Nat.pow_le_pow_right (by decide) (by omega)
  omega
/-- The words of row y. -/
def rowHi (f : Nat → Bool) (y : Nat) : BitVec 64 := wd (fun i => f (128 * y + i))
def rowLo (f : Nat → Bool) (y : Nat) : BitVec 64 := wd (fun i => f (128 * y + (64 + i)))
set_option maxHeartbeats 4000000 in
theorem words_any (g : Nat) (f : Nat → Bool) (w : World) (H : Pxs g f w) {y : Nat} {yi : Int} (hy : yi = (y : Int)) (y1 : y < 64) :
    Calls Try.prog 27 #[.slice (some ⟨g, 0, none⟩) 8192 8192, .int .i64 yi] w fun e w' => e = .returned (.tuple #[.int .u64 ((rowHi f y).toNat : Int), .int .u64 ((rowLo f y).toNat : Int)]) ∧ w = w' := by
  subst hy
  have HH := Lib.hid H
  have EH : Hid ((rowHi f y).toNat = acc (fun i => f (128 * y + i)) 64) := Lib.hid (wd_nat _)
  have EL : Hid ((rowLo f y).toNat = acc (fun i => f (128 * y + (64 + i))) 64) := Lib.hid (wd_nat _)
  generalize (rowHi f y).toNat = U at *
  generalize (rowLo f y).toNat = V at *
  clear H
  go_enter Try.func27, Try.ntmps27
  go_wp2
  go_loop [6, 7, 8] (fun a b i => ∃ k X Y : Nat, k ≤ 64 ∧ a = .int .u64 (X : Int) ∧ b = .int .u64 (Y : Int) ∧ i = .int .i64 (k : Int) ∧ X = acc (fun i => f (128 * y + i)) k ∧ Y = acc (fun i => f (128 * y + (64 + i))) k) (fun _ _ i => 64 - (intOf i).toNat)
  case atStart => exact ⟨0, 0, 0, by omega, rfl, rfl, rfl, rfl, rfl⟩
  case round =>
    obtain ⟨k, X, Y, hk, rfl, rfl, rfl, hX, hY⟩ := hrel
    by_cases hlt : k < 64
    · have hi : (k : Int) < 64 := by omega
      have X1 : (X : Int) ≤ 9223372036854775807 := by rw [hX]; exact acc_small _ _ hlt
      have Y1 : (Y : Int) ≤ 9223372036854775807 := by rw [hY]; exact acc_small _ _ hlt
      have C1 := Lib.hid (rget_any g f w HH.out (x := k) (y := y) rfl rfl rfl (by omega) y1)
      have C2 := Lib.hid (rget_any g f w HH.out (x := 64 + k) (y := y) (xi := 64 + (k : Int)) (by omega) rfl rfl (by omega) y1)
      have XX := Lib.hid hX
      have YY := Lib.hid hY
      clear hX hY
      cases e1 : f (128 * y + k)
      all_goals
        have E1 := Lib.hid e1
        rw [e1] at C1
        clear e1
        cases e2 : f (128 * y + (64 + k))
        all_goals
          have E2 := Lib.hid e2
          rw [e2] at C2
          clear e2
          go_wp2_with fail
          refine C1.out.mono ?_
          rintro e w' ⟨rfl, rfl⟩
          go_wp2_with fail
          refine C2.out.mono ?_
          rintro e w' ⟨rfl, rfl⟩
          go_wp2
          go_round
          case rel =>
            refine ⟨k + 1, _, _, by omega, by go_num, by go_num, by go_num, ?_, ?_⟩
            · first | (rw [acc_set (fun i => f (128 * y + i)) k E1.out, XX.out]) | (rw [acc_unset (fun i => f (128 * y + i)) k E1.out, XX.out])
            · first | (rw [acc_set (fun i => f (128 * y + (64 + i))) k E2.out, YY.out]) | (rw [acc_unset (fun i => f (128 * y + (64 + i))) k E2.out, YY.out])
          case measure => simp [intOf]; omega
    · have K64 := Lib.hid (show k = 64 by omega)
      have hi : ¬ (k : Int) < 64 := by omega
      have XX := Lib.hid hX
      have YY := Lib.hid hY
      clear hX hY
      go_wp2
      go_ret2
      have e1 : X = U := by rw [XX.out, EH.out, K64.out]
      have e2 : Y = V := by rw [YY.out, EL.out, K64.out]
      rw [← e1, ← e2]
      exact ⟨rfl, rfl⟩

/-- The zero plane's cells. -/
theorem zeroP : pcells (fun _ => 0#128) = Array.replicate 128 (.int .u64 0) := by
  apply Array.ext_getElem?
  intro j
  by_cases hj : j < 128
  · rw [pcells_get _ _ hj]
    unfold wordOf
    simp [hj, hi, lo]
  · rw [Array.getElem?_eq_none (by simp [pcells_size]; omega), Array.getElem?_eq_none (by simp; omega)]
theorem infoPlane : (Try.prog.info? 35).map (fun i => (i.zero, i.size)) = some (some (.agg (pcells fun _ => 0#128)), 128) := by
  rw [zeroP]
  kernel_rfl
theorem zeroPlane (w : World) : (zeroValue 35).run Try.prog w = .ok (.agg (pcells fun _ => 0#128)) w := (zero_of_info infoPlane).1 w
theorem sizePlane : (Try.prog.info? 35).map (·.size) = some 128 := by kernel_rfl
set_option maxRecDepth 100000 in
set_option maxHeartbeats 1000000 in
theorem forward_any (g : Nat) (f : Nat → Bool) (w : World) (H : Pxs g f w) :
    Calls Try.prog 12 #[.slice (some ⟨g, 0, none⟩) 8192 8192] w fun e w' => e = .returned (.agg (pcells (fwd f))) ∧ Below w.heap.size w w' := by
  have hz := zeroPlane
  go_enter Try.func12, Try.ntmps12
  go_wp2
  have N1 := Lib.hid (PBox.new w (fun _ => 0#128) 35)
  have N2 := Lib.hid ((PBox.new (w.alloc (.cells (pcells fun _ => 0#128) 35)) (fun _ => 0#128) 35))
  have B := Lib.hid ((below_new w (.cells (pcells fun _ => 0#128) 35)).alloc (by simp) (.cells (pcells fun _ => 0#128) 35))
  have N1 := Lib.hid (N1.out.alloc (.cells (pcells fun _ => 0#128) 35))
  rw [show (w.alloc (.cells (pcells fun _ => 0#128) 35)).heap.size = w.heap.size + 1 by simp] at N2
  generalize (w.alloc (.cells (pcells fun _ => 0#128) 35)).alloc (.cells (pcells fun _ => 0#128) 35) = w1 at *
  clear hz
  go_loopw [4] (fun i wr => ∃ k : Nat, k ≤ 64 ∧ i = .int .i64 (k : Int) ∧ PBox w.heap.size 35 (fun _ => 0#128) wr ∧ PBox (w.heap.size + 1) 35 (fun y => if y < k then fwd f y else 0#128) wr ∧ Below w.heap.size w wr) (fun i _ => 64 - (intOf i).toNat)
  case atStart => exact ⟨0, by omega, rfl, N1.out, N2.out.congr fun y hy => by simp, B.out⟩
  case round =>
    clear N1 N2 B
    obtain ⟨k, hk, rfl, H1, H2, HB⟩ := hrel
    by_cases hlt : k < 64
    · have C := Lib.hid (words_any g f wr (H.below HB H.lt) (y := k) rfl hlt)
      have EE := Lib.hid (show rowHi f k ++ rowLo f k = fwd f k from rfl)
      generalize rowHi f k = h at *
      generalize rowLo f k = l at *
      have a1 := H2.left k hlt
      have a2 := H2.right k hlt
      have a3 := H2.frozen (k * 2)
      have a4 := H2.frozen (k * 2 + 1)
      have H1 := Lib.hid H1
      have H2 := Lib.hid H2
      have HB := Lib.hid HB
      go_wp2_with fail
      refine C.out.mono ?_
      rintro e w' ⟨rfl, rfl⟩
      go_wp2
      go_roundw
      case rel =>
        refine ⟨k + 1, by omega, by go_num, (H1.out.other (by omega) _ _).other (by omega) _ _, (H2.out.row k hlt h l).congr fun y hy => ?_, (HB.out.setCell (p := ⟨w.heap.size + 1, k * 2, none⟩) (by simp) _).setCell (p := ⟨w.heap.size + 1, k * 2 + 1, none⟩) (by simp) _⟩
        rw [EE.out]
        by_cases e : y = k
        · subst e; rw [upd_same, if_pos (by omega)]
        · rw [upd_other _ _ _ _ e]
          by_cases e2 : y < k
          · rw [if_pos e2, if_pos (by omega)]
          · rw [if_neg e2, if_neg (by omega)]
      case measure => simp [intOf]; omega
    · have h1 := Lib.hid H1
      have h2 := Lib.hid (H2.congr (Q := fwd f) fun y hy => by rw [if_pos (by omega)])
      have hb := Lib.hid HB
      clear H1 H2 HB
      have hi : ¬ (k : Int) < 64 := by omega
      go_upto_region 7 with fail
      refine wp_region_lit ?_
      refine wpList_load_row rfl 35 (.tmp 3) rfl (w.heap.size + 1) (by simp [Act.eval]) _ _ _ _ h2.out Try.underlying35 rfl (by rw [sizePlane, pcells_size]) ?_
      refine wpList_store_row rfl 35 (.tmp 2) (.tmp 23) rfl w.heap.size (pcells (fwd f)) (by simp [Act.eval, Act.put]) (by simp [Act.eval, Act.put]) _ _ h1.out (by rw [sizePlane, pcells_size]) (by rw [pcells_size, pcells_size]) (pcells_one _) ?_
      have h3 := Lib.hid (h1.out.store (fwd f))
      have hb := Lib.hid (belowRow hb.out (Nat.le_refl _) (pcells (fwd f)))
      generalize wr.setRow w.heap.size (pcells (fwd f)) = w2 at *
      iterate 4 go_step
      exact bodyPost_ret (results_cell_row rfl _ _ w.heap.size _ _ _ _ rfl h3.out Try.underlying35 rfl (by rw [sizePlane, pcells_size])) rfl ⟨rfl, hb.out⟩
end Go.Proofs.Ytfijkbckokcbnaa
