/- Contracts of package plane: Scroll. -/
import Derived.Test.YtplmmfgmbfcjpaaPlane
namespace Go.Proofs.Ytplmmfgmbfcjpaa
open Go.RowKit Num
set_option linter.unusedVariables false
set_option linter.unusedSimpArgs false

/-- The first k rows of a plane. -/
def rowsTo (Q : Pl) (k : Nat) : Pl := fun y => if y < k then Q y else 0#128
theorem rowsTo_zero (Q : Pl) (y : Nat) : rowsTo Q 0 y = 0#128 := by simp [rowsTo]
theorem rowsTo_all (Q : Pl) (k y : Nat) (h : y < k) : rowsTo Q k y = Q y := by rw [rowsTo, if_pos h]
theorem rowsTo_set (Q : Pl) (k : Nat) (r : BitVec 128) (hr : Q k = r) (y : Nat) : upd (rowsTo Q k) k r y = rowsTo Q (k + 1) y := by
  by_cases e : y = k
  · subst e; rw [upd_same, rowsTo_all _ _ _ (by omega), hr]
  · rw [upd_other _ _ _ _ e]
    unfold rowsTo
    by_cases e2 : y < k
    · rw [if_pos e2, if_pos (by omega)]
    · rw [if_neg e2, if_neg (by omega)]
theorem rowsTo_skip (Q : Pl) (k : Nat) (hr : Q k = 0#128) (y : Nat) : rowsTo Q k y = rowsTo Q (k + 1) y := by
  unfold rowsTo
  by_cases e2 : y < k
  · rw [if_pos e2, if_pos (by omega)]
  · rw [if_neg e2]
    by_cases e : y = k
    · subst e; rw [if_pos (by omega), hr]
    · rw [if_neg (by omega)]
/-- What is left below a plane's height. -/
theorem rowsTo_res (Q : Pl) (k : Nat) (hQ : ∀ y, k ≤ y → Q y = 0#128) (y : Nat) : rowsTo Q k y = Q y := by
  unfold rowsTo
  by_cases e2 : y < k
  · rw [if_pos e2]
  · rw [if_neg e2, hQ _ (by omega)]
theorem scroll_high_row (P : Pl) (dx dy : Int) (m h y : Nat) (hy : h ≤ y) : scroll P dx dy m h y = 0#128 := by
  unfold scroll; rw [if_neg (by omega)]

set_option maxRecDepth 100000 in
set_option maxHeartbeats 2000000 in
theorem scroll_any (P : Pl) (dx dy : Int) (b : Bool) (m h : Nat) (hr : Res b m h) (w : World) (d0 : -1000 ≤ dx) (d1 : dx ≤ 1000) (e0 : -1000 ≤ dy) (e1 : dy ≤ 1000) :
    Calls Try.prog 46 #[.agg (pcells P), .int .i64 dx, .int .i64 dy, .bool b] w fun e w' => e = .returned (.agg (pcells (scroll P dx dy m h))) ∧ Below w.heap.size w w' := by
  obtain ⟨m0, m1, h0, h1⟩ := hr.bounds
  have RR := Lib.hid hr
  have hz := zeroPlane
  clear hr
  go_enter Try.func46, Try.ntmps46
  go_wp2_with fail
  have N1 := Lib.hid (PBox.new w P 29)
  have B1 := Lib.hid (below_new w (.cells (pcells P) 29))
  have S1 : (w.alloc (.cells (pcells P) 29)).heap.size = w.heap.size + 1 := by simp
  have M2 := Lib.hid (PBox.new (w.alloc (.cells (pcells P) 29)) (fun _ => 0#128) 29)
  rw [S1] at M2
  have M1 := Lib.hid (N1.out.alloc (.cells (pcells fun _ => 0#128) 29))
  have B2 := Lib.hid (B1.out.alloc (by rw [S1]; omega) (.cells (pcells fun _ => 0#128) 29))
  have S2 : ((w.alloc (.cells (pcells P) 29)).alloc (.cells (pcells fun _ => 0#128) 29)).heap.size = w.heap.size + 2 := by simp
  clear N1 B1 S1
  generalize (w.alloc (.cells (pcells P) 29)).alloc (.cells (pcells fun _ => 0#128) 29) = w2 at *
  refine (size_any RR.out w2).mono ?_
  rintro e w' ⟨rfl, rfl⟩
  go_wp2
  have L3 := Lib.hid (PBox.new w2 (fun _ => 0#128) 29)
  rw [S2] at L3
  have L2 := Lib.hid (M2.out.alloc (.cells (pcells fun _ => 0#128) 29))
  have L1 := Lib.hid (M1.out.alloc (.cells (pcells fun _ => 0#128) 29))
  have B3 := Lib.hid (B2.out.alloc (by rw [S2]; omega) (.cells (pcells fun _ => 0#128) 29))
  clear M2 M1 B2 S2 hz
  generalize w2.alloc (.cells (pcells fun _ => 0#128) 29) = w3 at *
  go_loopw [20] (fun i wr => ∃ k : Nat, k ≤ h ∧ i = .int .i64 (k : Int) ∧ PBox w.heap.size 29 P wr ∧ PBox (w.heap.size + 1) 29 (fun _ => 0#128) wr ∧ PBox (w.heap.size + 2) 29 (rowsTo (scroll P dx dy m h) k) wr ∧ Below w.heap.size w wr) (fun i _ => h - (intOf i).toNat)
  case atStart => exact ⟨0, by omega, rfl, L1.out, L2.out, L3.out.congr fun y _ => (rowsTo_zero _ y).symm, B3.out⟩
  case round =>
    clear L1 L2 L3 B3
    obtain ⟨k, hk, rfl, h1', h2', h3', hB⟩ := hrel
    have Q := Lib.hid (And.intro h1' (And.intro h2' (And.intro h3' hB)))
    clear h1' h2' h3' hB
    by_cases hlt : k < h
    · have ki : (k : Int) < (h : Int) := by omega
      have k6 : (k : Int) < 64 := by omega
      rcases (show (0 ≤ (k : Int) - dy ∧ (k : Int) - dy < h) ∨ ¬ 0 ≤ (k : Int) - dy ∨ (0 ≤ (k : Int) - dy ∧ ¬ (k : Int) - dy < h) by omega) with ⟨i1, i2⟩ | i1 | ⟨i1, i2⟩
      · obtain ⟨f, hf⟩ : ∃ f : Nat, (k : Int) - dy = f := ⟨((k : Int) - dy).toNat, by omega⟩
        have f6 : f < 64 := by omega
        have c1 := Q.out.1.left f f6
        have c2 := Q.out.1.right f f6
        have e3 : scroll P dx dy m h k = shift (P f) dx m := by
          unfold scroll
          rw [if_pos (by omega), hf, Int.toNat_natCast]
        obtain ⟨v1, v2, ev⟩ := words (shift (P f) dx m)
        have SH := Lib.hid fun w => shiftW (h := hi (P f)) (l := lo (P f)) (h' := v1) (l' := v2) (n := dx) (m := (m : Int)) (by rw [hi_lo, ev]) d0 d1 (by omega) (by omega) w
        have EV := Lib.hid (show scroll P dx dy m h k = v1 ++ v2 by rw [e3, ev])
        clear e3 ev
        rw [hf] at i1 i2
        generalize hi (P f) = u1 at *
        generalize lo (P f) = u2 at *
        go_wp2_with fail
        refine (SH.out _).mono ?_
        rintro e w' ⟨rfl, hb⟩
        have Q2 := Lib.hid (And.intro (Q.out.1.step hb) (And.intro (Q.out.2.1.step hb) (And.intro (Q.out.2.2.1.step hb) (Q.out.2.2.2.trans (hb.mono Q.out.2.2.2.size)))))
        clear c1 c2 hb
        have k64 : k < 64 := by omega
        have c1 := Q2.out.2.2.1.left k k64
        have c2 := Q2.out.2.2.1.right k k64
        have c3 := Q2.out.2.2.1.frozen (k * 2)
        have c4 := Q2.out.2.2.1.frozen (k * 2 + 1)
        generalize hi (rowsTo (scroll P dx dy m h) k k) = u3 at *
        generalize lo (rowsTo (scroll P dx dy m h) k k) = u4 at *
        go_wp2
        go_roundw
        case rel =>
          exact ⟨k + 1, by omega, by go_num, (Q2.out.1.other (by omega) _ _).other (by omega) _ _, (Q2.out.2.1.other (by omega) _ _).other (by omega) _ _, (Q2.out.2.2.1.row k k64 v1 v2).congr fun y _ => rowsTo_set _ _ _ EV.out y, (Q2.out.2.2.2.setCell (p := ⟨w.heap.size + 2, k * 2, none⟩) (by simp) _).setCell (p := ⟨w.heap.size + 2, k * 2 + 1, none⟩) (by simp) _⟩
        case measure => simp [intOf]; omega
      · have HF := Lib.hid (show scroll P dx dy m h k = 0#128 by unfold scroll; rw [if_neg (by omega)])
        go_wp2
        go_roundw
        case rel => exact ⟨k + 1, by omega, by go_num, Q.out.1, Q.out.2.1, Q.out.2.2.1.congr fun y _ => rowsTo_skip _ _ HF.out y, Q.out.2.2.2⟩
        case measure => simp [intOf]; omega
      · have HF := Lib.hid (show scroll P dx dy m h k = 0#128 by unfold scroll; rw [if_neg (by omega)])
        go_wp2
        go_roundw
        case rel => exact ⟨k + 1, by omega, by go_num, Q.out.1, Q.out.2.1, Q.out.2.2.1.congr fun y _ => rowsTo_skip _ _ HF.out y, Q.out.2.2.2⟩
        case measure => simp [intOf]; omega
    · have ke := Lib.hid (show k = h by omega)
      have ki : ¬ (k : Int) < (h : Int) := by omega
      have q2 := Lib.hid Q.out.2.1
      have q3 := Lib.hid (Q.out.2.2.1.congr (Q := scroll P dx dy m h) fun y hy => rowsTo_res _ _ (fun j hj => scroll_high_row _ _ _ _ _ _ (by have := ke.out; omega)) y)
      have hb := Lib.hid Q.out.2.2.2
      clear Q
      go_upto_region 10 with fail
      refine wp_region_lit ?_
      refine wpList_load_row rfl 29 (.tmp 11) rfl (w.heap.size + 2) (by simp [Act.eval]) _ _ _ _ q3.out Try.underlying29 rfl (by rw [sizePlane, pcells_size]) ?_
      refine wpList_store_row rfl 29 (.tmp 8) (.tmp 44) rfl (w.heap.size + 1) (pcells (scroll P dx dy m h)) (by simp [Act.eval, Act.put]) (by simp [Act.eval, Act.put]) _ _ q2.out (by rw [sizePlane, pcells_size]) (by rw [pcells_size, pcells_size]) (pcells_one _) ?_
      have q4 := Lib.hid (q2.out.store (scroll P dx dy m h))
      have hb2 := Lib.hid (belowRow hb.out (show w.heap.size ≤ w.heap.size + 1 by omega) (pcells (scroll P dx dy m h)))
      generalize wr.setRow (w.heap.size + 1) (pcells (scroll P dx dy m h)) = w4 at *
      iterate 4 go_step
      exact bodyPost_ret (results_cell_row rfl _ _ (w.heap.size + 1) _ _ _ _ rfl q4.out Try.underlying29 rfl (by rw [sizePlane, pcells_size])) rfl ⟨rfl, hb2.out⟩
end Go.Proofs.Ytplmmfgmbfcjpaa
