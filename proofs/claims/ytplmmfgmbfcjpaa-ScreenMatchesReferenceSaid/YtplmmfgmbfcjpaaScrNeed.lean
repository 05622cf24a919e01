/- Contract of screen.Need. -/
import Derived.Test.YtplmmfgmbfcjpaaScrIter
namespace Go.Proofs.Ytplmmfgmbfcjpaa
open Go.RowKit Go.Shelf Num
set_option linter.unusedVariables false
set_option linter.unusedSimpArgs false
attribute [local go_sem] Oper.semAt_some

theorem need_len (M n : Nat) (big : Bool) (k : Nat) (hk : k ≤ 4) : need M n big k = (selTo M k).length * per n big := by
  induction k with
  | zero => rw [selTo_zero]; simp [need]
  | succ k ih =>
    rw [need, ih (by omega), selTo_succ M k (by omega)]
    split
    · simp [Nat.add_mul]
    · simp
theorem per_shape (n : Nat) (big : Bool) : (if big then 16 else n) * (if big then 2 else 1) = per n big := by
  unfold per
  cases big <;> simp
set_option maxRecDepth 100000 in
set_option maxHeartbeats 4000000 in
theorem need8_any (S : Sc) (M n : Nat) (big : Bool) (hM : S.M = (M : Int)) (M1 : M ≤ 10000) (n1 : n ≤ 32) (w : World) :
    Calls Try.prog 24 #[.agg (scells S), .int .i64 (n : Int), .bool big] w fun e w' => e = .returned (.int .i64 (need M n big 4 : Nat)) ∧ Below w.heap.size w w' := by
  refine (callsIn_wide (n := 6)).1 ?_
  have S0 := Lib.hid (SB.new w S)
  have B0 := Lib.hid (below_new w (.cells (scells S) 32))
  have Z0 : (w.alloc (.cells (scells S) 32)).heap.size = w.heap.size + 1 := by simp
  obtain ⟨r, hr⟩ : ∃ r : Nat, (if big then 16 else n) = r := ⟨_, rfl⟩
  obtain ⟨z, hz⟩ : ∃ z : Nat, (if big then 2 else 1) = z := ⟨_, rfl⟩
  have r1 : (r : Int) ≤ 32 := by rw [← hr]; split <;> omega
  have z1 : (z : Int) ≤ 2 := by rw [← hz]; split <;> omega
  have PZ := Lib.hid (show r * z = per n big by rw [← hr, ← hz, per_shape])
  have SH := Lib.hid fun w => shape_any n big w
  rw [hr, hz] at SH
  have HM := Lib.hid hM
  clear hr hz hM
  refine callsIn_of_wp_marks Try.func24 rfl trivial ?_ rfl
  simp only [Try.ntmps24, List.size_toArray, List.length_cons, List.length_nil, Nat.reduceAdd, Nat.reduceSub, Array.replicate_succ, Array.replicate_zero, List.push_toArray, List.append_toArray, List.nil_append, List.cons_append]
  gi_wp2_with fail
  generalize w.alloc (.cells (scells S) 32) = w1 at *
  refine ⟨trivial, ?_⟩
  gi_at_call 35
  refine (callsIn_wide.2 (SH.out _)).mono ?_
  rintro e w' ⟨rfl, rfl⟩
  have c513 := S0.out.maskc
  have l0 := S0.out.lt
  rw [HM.out] at c513
  gi_wp2_with fail
  clear c513 l0
  have B7 := Lib.hid (((Boxed.new w1 3 (.int .i64 (r : Int))).alloc (.cells #[.int .i64 (z : Int)] 3)).alloc (.cells #[.int .i64 0] 3))
  have B8 := Lib.hid ((Boxed.new (w1.alloc (.cells #[.int .i64 (r : Int)] 3)) 3 (.int .i64 (z : Int))).alloc (.cells #[.int .i64 0] 3))
  have B9 := Lib.hid (Boxed.new ((w1.alloc (.cells #[.int .i64 (r : Int)] 3)).alloc (.cells #[.int .i64 (z : Int)] 3)) 3 (.int .i64 0))
  have BB := Lib.hid (((B0.out.alloc B0.out.size (.cells #[.int .i64 (r : Int)] 3)).alloc (by simp [Z0]; omega) (.cells #[.int .i64 (z : Int)] 3)).alloc (by simp [Z0]; omega) (.cells #[.int .i64 0] 3))
  rw [World.size_alloc, Z0] at B8
  rw [World.size_alloc, World.size_alloc, Z0] at B9
  rw [Z0] at B7
  have Z3 : (((w1.alloc (.cells #[.int .i64 (r : Int)] 3)).alloc (.cells #[.int .i64 (z : Int)] 3)).alloc (.cells #[.int .i64 0] 3)).heap.size = w.heap.size + 4 := by simp [Z0]
  generalize ((w1.alloc (.cells #[.int .i64 (r : Int)] 3)).alloc (.cells #[.int .i64 (z : Int)] 3)).alloc (.cells #[.int .i64 0] 3) = w2 at *
  clear Z0 S0 B0 w1
  refine ⟨trivial, ?_⟩
  refine (selected_in _ _ _).mono ?_
  rintro e w' ⟨rfl, rfl⟩
  simp only []
  gi_wp2_with fail
  have BM := Boxed.new w2 3 (.int .i64 (M : Int))
  have B7 := Lib.hid (B7.out.alloc (.cells #[.int .i64 (M : Int)] 3))
  have B8 := Lib.hid (B8.out.alloc (.cells #[.int .i64 (M : Int)] 3))
  have B9 := Lib.hid (B9.out.alloc (.cells #[.int .i64 (M : Int)] 3))
  have BB := Lib.hid (BB.out.alloc (by rw [Z3]; omega) (.cells #[.int .i64 (M : Int)] 3))
  have Z4 : (w2.alloc (.cells #[.int .i64 (M : Int)] 3)).heap.size = w.heap.size + 5 := by simp [Z3]
  rw [Z3] at BM ⊢
  generalize w2.alloc (.cells #[.int .i64 (M : Int)] 3) = w3 at *
  clear Z3
  obtain ⟨pz, hpz⟩ : ∃ pz : Nat, r * z = pz := ⟨_, rfl⟩
  have pz1 : pz ≤ 64 := by rw [← hpz]; exact Nat.mul_le_mul (by omega : r ≤ 32) (by omega : z ≤ 2)
  have hpI : (r : Int) * (z : Int) = (pz : Int) := by rw [← hpz]; simp
  have PQ := Lib.hid (show pz = per n big by rw [← hpz, PZ.out])
  clear hpz PZ
  refine wpIn_rangeFunc_ownG rfl (by omega) (gf := 61) (lb := #[.pointer (some ⟨w.heap.size + 4, 0, none⟩)]) rfl trivial (enters_of Try.func61 (by kernel_rfl) rfl)
    (selected_stops _ (by omega) (w.heap.size + 4) M M1 w3 BM) KeepM.trans (fun W l o o' hl _ _ _ => keepM_put (by omega)) (Below.refl _ _) (fun _ => rfl)
    (fun pre W => Boxed W (w.heap.size + 1) 3 (.int .i64 (r : Int)) ∧ Boxed W (w.heap.size + 1 + 1) 3 (.int .i64 (z : Int)) ∧ Boxed W (w.heap.size + 1 + 1 + 1) 3 (.int .i64 ((pre.length * pz : Nat) : Int)) ∧ Below w.heap.size w W)
    (fun _ _ _ => False)
    (OwnFrom.and (Own.from (boxed_own _ _ _) _) (OwnFrom.and (Own.from (boxed_own _ _ _) _) (OwnFrom.and (Own.from (boxed_own _ _ _) _) (ownFrom_below (Nat.le_refl _) (by omega)))))
    (fun _ _ _ _ _ hs _ _ => hs)
    ⟨B7.out, B8.out, by simpa using B9.out, BB.out⟩
    (fun x => { tmps := #[.agg (scells S), .int .i64 (n : Int), .bool big, .pointer (some ⟨w.heap.size, 0, none⟩), undef, undef, .int .i64 0, .pointer (some ⟨w.heap.size + 1, 0, none⟩), .pointer (some ⟨w.heap.size + 1 + 1, 0, none⟩), .pointer (some ⟨w.heap.size + 1 + 1 + 1, 0, none⟩), .tuple #[.int .i64 (r : Int), .int .i64 (z : Int)], .int .i64 (n : Int), .bool big, .tuple #[.int .i64 (r : Int), .int .i64 (z : Int)], .int .i64 (r : Int), .int .i64 (z : Int), .pointer (some ⟨w.heap.size, 513, none⟩), .int .i64 (M : Int), .func (.func 61) #[] #[.pointer (some ⟨w.heap.size + 4, 0, none⟩)], .int .i64 (x.val : Int), undef, undef, undef, undef, undef, undef], defers := [] }) ?assign ?body ?done ?stop
  case assign =>
    intro l x W K hK
    gi_wp2
    go_simp
    exact hK
  case body =>
    rintro l pre x W ⟨h7, h8, h9, hB⟩ hlt
    have c7 := h7.cell
    have c8 := h8.cell
    have c9 := h9.cell
    have f9 := h9.frozen
    have HH := Lib.hid (And.intro h7 (And.intro h8 (And.intro h9 hB)))
    obtain ⟨t, ht⟩ : ∃ t : Nat, pre.length * pz = t := ⟨_, rfl⟩
    have t1 : t ≤ 256 := by rw [← ht]; exact Nat.mul_le_mul (by have := selTo_len M 4; omega : pre.length ≤ 4) pz1
    have HT := Lib.hid (show (pre ++ [x]).length * pz = t + pz by rw [List.length_append, Nat.add_mul, ht]; simp)
    rw [ht] at c9 HH
    clear h7 h8 h9 hB ht hlt
    gi_wp2
    refine ⟨(KeepsOthers.setCell _ _ _).from _, ?_, HH.out.1.other (by omega) _, HH.out.2.1.other (by omega) _, ?_, HH.out.2.2.2.setCell (p := ⟨w.heap.size + 1 + 1 + 1, 0, none⟩) (by show w.heap.size ≤ w.heap.size + 1 + 1 + 1; omega) _⟩
    · exact Below.heap_setCell W ⟨w.heap.size + 1 + 1 + 1, 0, none⟩ _ _ (by show w.heap.size + 4 ≠ w.heap.size + 1 + 1 + 1; omega)
    · rw [HT.out]
      exact HH.out.2.2.1.set _
  case done =>
    rintro D ys W hD rfl ⟨h7, h8, h9, hB⟩ hK
    have c9 := h9.cell
    rw [show ((selTo M 4).length * pz : Nat) = need M n big 4 by rw [need_len M n big 4 (by omega), PQ.out]] at c9
    gi_wp2
    refine ⟨by simp, .inl ⟨_, _, rfl, run_takeDeferred hK, ?_⟩⟩
    refine ⟨_, results_tmp rfl _ _ _, rfl, ?_⟩
    exact hB.trans (belowK_b (w := w) (Nat.le_refl _) W D _ _ (by omega) hK rfl rfl)
  case stop =>
    rintro D c pre W _ _ h _
    exact h.elim
end Go.Proofs.Ytplmmfgmbfcjpaa
