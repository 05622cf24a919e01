/- Contracts of package plane: combine. -/
import Derived.Test.YtplmmfgmbfcjpaaPlaneScr
import Derived.Deep.RegionWith
namespace Go.Proofs.Ytplmmfgmbfcjpaa
open Go.RowKit Num
set_option linter.unusedVariables false
set_option linter.unusedSimpArgs false

/-- What a function on rows does. -/
def Combines (F : FuncId) (op : BitVec 128 → BitVec 128 → BitVec 128) : Prop :=
  ∀ (h l h' l' v1 v2 : BitVec 64), op (h ++ l) (h' ++ l') = v1 ++ v2 → ∀ w : World, Calls Try.prog F #[.agg #[.int .u64 (h.toNat : Int), .int .u64 (l.toNat : Int)], .agg #[.int .u64 (h'.toNat : Int), .int .u64 (l'.toNat : Int)]] w fun e w' =>
    e = .returned (.agg #[.int .u64 (v1.toNat : Int), .int .u64 (v2.toNat : Int)]) ∧ Below w.heap.size w w'
/-- The first k rows are combined. -/
def combTo (op : BitVec 128 → BitVec 128 → BitVec 128) (A B : Pl) (k : Nat) : Pl := fun y => if y < k then op (A y) (B y) else A y
theorem combTo_set (op : BitVec 128 → BitVec 128 → BitVec 128) (A B : Pl) (k : Nat) (r : BitVec 128) (hr : op (A k) (B k) = r) (y : Nat) : upd (combTo op A B k) k r y = combTo op A B (k + 1) y := by
  unfold combTo
  by_cases e : y = k
  · subst e; rw [upd_same, if_pos (by omega), hr]
  · rw [upd_other _ _ _ _ e]
    by_cases e2 : y < k
    · rw [if_pos e2, if_pos (by omega)]
    · rw [if_neg e2, if_neg (by omega)]
theorem combTo_at (op : BitVec 128 → BitVec 128 → BitVec 128) (A B : Pl) (k : Nat) : combTo op A B k k = A k := by
  rw [combTo, if_neg (by omega)]
theorem two_new (w : World) (t : TypeId) (A B : Pl) : PBox w.heap.size t A ((w.alloc (.cells (pcells A) t)).alloc (.cells (pcells B) t)) ∧ PBox (w.heap.size + 1) t B ((w.alloc (.cells (pcells A) t)).alloc (.cells (pcells B) t)) ∧
    Below w.heap.size w ((w.alloc (.cells (pcells A) t)).alloc (.cells (pcells B) t)) ∧ ((w.alloc (.cells (pcells A) t)).alloc (.cells (pcells B) t)).heap.size = w.heap.size + 1 + 1 := by
  have S1 : (w.alloc (.cells (pcells A) t)).heap.size = w.heap.size + 1 := by simp
  have N2 := PBox.new (w.alloc (.cells (pcells A) t)) B t
  rw [S1] at N2
  exact ⟨(PBox.new w A t).alloc _, N2, (below_new w _).alloc (by rw [S1]; omega) _, by simp⟩
theorem three_new (w : World) (t : TypeId) (A B C : Pl) : PBox w.heap.size t A (((w.alloc (.cells (pcells A) t)).alloc (.cells (pcells B) t)).alloc (.cells (pcells C) t)) ∧ PBox (w.heap.size + 1) t B (((w.alloc (.cells (pcells A) t)).alloc (.cells (pcells B) t)).alloc (.cells (pcells C) t)) ∧
    PBox (w.heap.size + 1 + 1) t C (((w.alloc (.cells (pcells A) t)).alloc (.cells (pcells B) t)).alloc (.cells (pcells C) t)) ∧ Below w.heap.size w (((w.alloc (.cells (pcells A) t)).alloc (.cells (pcells B) t)).alloc (.cells (pcells C) t)) := by
  obtain ⟨h1, h2, h3, h4⟩ := two_new w t A B
  have N3 := PBox.new ((w.alloc (.cells (pcells A) t)).alloc (.cells (pcells B) t)) C t
  rw [h4] at N3
  exact ⟨h1.alloc _, h2.alloc _, N3, h3.alloc (by rw [h4]; omega) _⟩
set_option maxRecDepth 100000 in
set_option maxHeartbeats 4000000 in
theorem combine_xor (op : BitVec 128 → BitVec 128 → BitVec 128) (hF : Combines 56 op) (A B : Pl) (w : World) :
    Calls Try.prog 55 #[.agg (pcells A), .agg (pcells B), .func (.func 56) #[] #[]] w fun e w' => e = .returned (.agg (pcells fun y => op (A y) (B y))) ∧ Below w.heap.size w w' := by
  have hz := zeroPlane
  have FF := Lib.hid hF
  obtain ⟨Z, hZ⟩ : ∃ Z : Pl, (fun y => op (A y) (B y)) = Z := ⟨_, rfl⟩
  rw [hZ]
  have ZZ := Lib.hid hZ
  clear hF hZ
  go_enter Try.func55, Try.ntmps55
  go_upto_region 1 with fail
  have L := Lib.hid (three_new w 29 A B (fun _ => 0#128))
  generalize ((w.alloc (.cells (pcells A) 29)).alloc (.cells (pcells B) 29)).alloc (.cells (pcells fun _ => 0#128) 29) = w3 at *
  clear hz
  go_wp2
  go_loopw [8] (fun i wr => ∃ k : Nat, k ≤ 64 ∧ i = .int .i64 (k : Int) ∧ PBox w.heap.size 29 (combTo op A B k) wr ∧ PBox (w.heap.size + 1) 29 B wr ∧ PBox (w.heap.size + 1 + 1) 29 (fun _ => 0#128) wr ∧ Below w.heap.size w wr) (fun i _ => 64 - (intOf i).toNat)
  case atStart => exact ⟨0, by omega, rfl, L.out.1.congr fun y _ => by simp [combTo], L.out.2.1, L.out.2.2.1, L.out.2.2.2⟩
  case round =>
    clear L
    obtain ⟨k, hk, rfl, h1', h2', h3', hB⟩ := hrel
    have Q := Lib.hid (And.intro h1' (And.intro h2' (And.intro h3' hB)))
    clear h1' h2' h3' hB
    by_cases hlt : k < 64
    · have ki : (k : Int) < 64 := by omega
      obtain ⟨v1, v2, ev⟩ := words (op (A k) (B k))
      have FC := Lib.hid fun w => FF.out (hi (A k)) (lo (A k)) (hi (B k)) (lo (B k)) v1 v2 (by rw [hi_lo, hi_lo, ev]) w
      have EV := Lib.hid ev
      have KL := Lib.hid hlt
      clear ev
      have a1 := Q.out.1.left k hlt
      have a2 := Q.out.1.right k hlt
      rw [combTo_at] at a1 a2
      have a3 := Q.out.2.1.left k hlt
      have a4 := Q.out.2.1.right k hlt
      generalize hi (A k) = u1 at *
      generalize lo (A k) = u2 at *
      generalize hi (B k) = u3 at *
      generalize lo (B k) = u4 at *
      go_wp2
      have Q1 := Lib.hid (And.intro Q.out.1.drew (And.intro Q.out.2.1.drew (And.intro Q.out.2.2.1.drew Q.out.2.2.2.drew)))
      clear Q
      go_region_with (go_at_call 56; refine (FC.out _).mono ?_; rintro e wc ⟨rfl, b3⟩; have Q := Lib.hid (And.intro (Q1.out.1.step b3) (And.intro (Q1.out.2.1.step b3) (And.intro (Q1.out.2.2.1.step b3) (Q1.out.2.2.2.trans (b3.mono Q1.out.2.2.2.size))))); clear Q1 b3 a1 a2 a3 a4; have a1 := Q.out.1.left k KL.out; have a2 := Q.out.1.right k KL.out; have a3 := Q.out.1.frozen (k * 2); have a4 := Q.out.1.frozen (k * 2 + 1))
      all_goals
        go_wp2
        go_roundw
        case rel =>
          exact ⟨k + 1, by omega, by go_num, (Q.out.1.row k KL.out v1 v2).congr fun y _ => combTo_set op A B k _ EV.out y, (Q.out.2.1.other (by omega) _ _).other (by omega) _ _, (Q.out.2.2.1.other (by omega) _ _).other (by omega) _ _, (Q.out.2.2.2.setCell (p := ⟨w.heap.size, k * 2, none⟩) (by simp) _).setCell (p := ⟨w.heap.size, k * 2 + 1, none⟩) (by simp) _⟩
        case measure => simp [intOf]; omega
    · have ke := Lib.hid (show k = 64 by omega)
      have ki : ¬ (k : Int) < 64 := by omega
      have q1 := Lib.hid (Q.out.1.congr (Q := Z) fun y hy => by rw [combTo, if_pos (by rw [ke.out]; exact hy), ← ZZ.out])
      have q2 := Lib.hid Q.out.2.2.1
      have hb := Lib.hid Q.out.2.2.2
      clear Q
      go_upto_region 6 with fail
      refine wp_region_lit ?_
      refine wpList_load_row rfl 29 (.tmp 3) rfl w.heap.size (by simp [Act.eval]) _ _ _ _ q1.out Try.underlying29 rfl (by rw [sizePlane, pcells_size]) ?_
      refine wpList_store_row rfl 29 (.tmp 6) (.tmp 25) rfl (w.heap.size + 1 + 1) _ (by simp [Act.eval, Act.put]) (by simp [Act.eval, Act.put]; rfl) _ _ q2.out (by rw [sizePlane, pcells_size]) (by rw [pcells_size, pcells_size]) (pcells_one _) ?_
      have q4 := Lib.hid (q2.out.store Z)
      have hb2 := Lib.hid (belowRow hb.out (show w.heap.size ≤ w.heap.size + 1 + 1 by omega) (pcells Z))
      generalize wr.setRow (w.heap.size + 1 + 1) (pcells Z) = w4 at *
      iterate 4 go_step
      exact bodyPost_ret (results_cell_row rfl _ _ (w.heap.size + 1 + 1) _ _ _ _ rfl q4.out Try.underlying29 rfl (by rw [sizePlane, pcells_size])) rfl ⟨rfl, hb2.out⟩
set_option maxRecDepth 100000 in
set_option maxHeartbeats 4000000 in
theorem combine_and (op : BitVec 128 → BitVec 128 → BitVec 128) (hF : Combines 57 op) (A B : Pl) (w : World) :
    Calls Try.prog 55 #[.agg (pcells A), .agg (pcells B), .func (.func 57) #[] #[]] w fun e w' => e = .returned (.agg (pcells fun y => op (A y) (B y))) ∧ Below w.heap.size w w' := by
  have hz := zeroPlane
  have FF := Lib.hid hF
  obtain ⟨Z, hZ⟩ : ∃ Z : Pl, (fun y => op (A y) (B y)) = Z := ⟨_, rfl⟩
  rw [hZ]
  have ZZ := Lib.hid hZ
  clear hF hZ
  go_enter Try.func55, Try.ntmps55
  go_upto_region 1 with fail
  have L := Lib.hid (three_new w 29 A B (fun _ => 0#128))
  generalize ((w.alloc (.cells (pcells A) 29)).alloc (.cells (pcells B) 29)).alloc (.cells (pcells fun _ => 0#128) 29) = w3 at *
  clear hz
  go_wp2
  go_loopw [8] (fun i wr => ∃ k : Nat, k ≤ 64 ∧ i = .int .i64 (k : Int) ∧ PBox w.heap.size 29 (combTo op A B k) wr ∧ PBox (w.heap.size + 1) 29 B wr ∧ PBox (w.heap.size + 1 + 1) 29 (fun _ => 0#128) wr ∧ Below w.heap.size w wr) (fun i _ => 64 - (intOf i).toNat)
  case atStart => exact ⟨0, by omega, rfl, L.out.1.congr fun y _ => by simp [combTo], L.out.2.1, L.out.2.2.1, L.out.2.2.2⟩
  case round =>
    clear L
    obtain ⟨k, hk, rfl, h1', h2', h3', hB⟩ := hrel
    have Q := Lib.hid (And.intro h1' (And.intro h2' (And.intro h3' hB)))
    clear h1' h2' h3' hB
    by_cases hlt : k < 64
    · have ki : (k : Int) < 64 := by omega
      obtain ⟨v1, v2, ev⟩ := words (op (A k) (B k))
      have FC := Lib.hid fun w => FF.out (hi (A k)) (lo (A k)) (hi (B k)) (lo (B k)) v1 v2 (by rw [hi_lo, hi_lo, ev]) w
      have EV := Lib.hid ev
      have KL := Lib.hid hlt
      clear ev
      have a1 := Q.out.1.left k hlt
      have a2 := Q.out.1.right k hlt
      rw [combTo_at] at a1 a2
      have a3 := Q.out.2.1.left k hlt
      have a4 := Q.out.2.1.right k hlt
      generalize hi (A k) = u1 at *
      generalize lo (A k) = u2 at *
      generalize hi (B k) = u3 at *
      generalize lo (B k) = u4 at *
      go_wp2
      have Q1 := Lib.hid (And.intro Q.out.1.drew (And.intro Q.out.2.1.drew (And.intro Q.out.2.2.1.drew Q.out.2.2.2.drew)))
      clear Q
      go_region_with (go_at_call 57; refine (FC.out _).mono ?_; rintro e wc ⟨rfl, b3⟩; have Q := Lib.hid (And.intro (Q1.out.1.step b3) (And.intro (Q1.out.2.1.step b3) (And.intro (Q1.out.2.2.1.step b3) (Q1.out.2.2.2.trans (b3.mono Q1.out.2.2.2.size))))); clear Q1 b3 a1 a2 a3 a4; have a1 := Q.out.1.left k KL.out; have a2 := Q.out.1.right k KL.out; have a3 := Q.out.1.frozen (k * 2); have a4 := Q.out.1.frozen (k * 2 + 1))
      all_goals
        go_wp2
        go_roundw
        case rel =>
          exact ⟨k + 1, by omega, by go_num, (Q.out.1.row k KL.out v1 v2).congr fun y _ => combTo_set op A B k _ EV.out y, (Q.out.2.1.other (by omega) _ _).other (by omega) _ _, (Q.out.2.2.1.other (by omega) _ _).other (by omega) _ _, (Q.out.2.2.2.setCell (p := ⟨w.heap.size, k * 2, none⟩) (by simp) _).setCell (p := ⟨w.heap.size, k * 2 + 1, none⟩) (by simp) _⟩
        case measure => simp [intOf]; omega
    · have ke := Lib.hid (show k = 64 by omega)
      have ki : ¬ (k : Int) < 64 := by omega
      have q1 := Lib.hid (Q.out.1.congr (Q := Z) fun y hy => by rw [combTo, if_pos (by rw [ke.out]; exact hy), ← ZZ.out])
      have q2 := Lib.hid Q.out.2.2.1
      have hb := Lib.hid Q.out.2.2.2
      clear Q
      go_upto_region 6 with fail
      refine wp_region_lit ?_
      refine wpList_load_row rfl 29 (.tmp 3) rfl w.heap.size (by simp [Act.eval]) _ _ _ _ q1.out Try.underlying29 rfl (by rw [sizePlane, pcells_size]) ?_
      refine wpList_store_row rfl 29 (.tmp 6) (.tmp 25) rfl (w.heap.size + 1 + 1) _ (by simp [Act.eval, Act.put]) (by simp [Act.eval, Act.put]; rfl) _ _ q2.out (by rw [sizePlane, pcells_size]) (by rw [pcells_size, pcells_size]) (pcells_one _) ?_
      have q4 := Lib.hid (q2.out.store Z)
      have hb2 := Lib.hid (belowRow hb.out (show w.heap.size ≤ w.heap.size + 1 + 1 by omega) (pcells Z))
      generalize wr.setRow (w.heap.size + 1 + 1) (pcells Z) = w4 at *
      iterate 4 go_step
      exact bodyPost_ret (results_cell_row rfl _ _ (w.heap.size + 1 + 1) _ _ _ _ rfl q4.out Try.underlying29 rfl (by rw [sizePlane, pcells_size])) rfl ⟨rfl, hb2.out⟩
end Go.Proofs.Ytplmmfgmbfcjpaa
