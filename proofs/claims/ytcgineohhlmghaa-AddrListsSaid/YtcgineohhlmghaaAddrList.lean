/- The contract of addr.List: a loop over the iterator of a span's addresses. -/
import Derived.RangeFuncBox
import Derived.RangeFuncLeaves
import Derived.RangeFuncNested
import Derived.RangeFuncBound
import Derived.RangeFuncCalls
import Derived.Shelf.Abstract
import Derived.Shelf.RegionOpen
import Derived.OwnWalkIn
import Derived.TacticsInMore
import Derived.LoopNIn
import Derived.LoopIn
import Derived.Test.YtcgineohhlmghaaAddrRef
namespace Go.Proofs.Ytcgineohhlmghaa
open Go.RowKit Go.Shelf Num
set_option linter.unusedVariables false
attribute [local go_sem] Oper.semAt_some

/-- What a round of the loop keeps: the two boxes in which the iterator finds the span. -/
def Boxes (b1 b2 : Nat) (w w' : World) : Prop := w'.heap[b1]? = w.heap[b1]? ∧ w'.heap[b2]? = w.heap[b2]?
theorem Boxes.trans {b1 b2 : Nat} {u v w : World} (h : Boxes b1 b2 u v) (h' : Boxes b1 b2 v w) : Boxes b1 b2 u w := ⟨h'.1.trans h.1, h'.2.trans h.2⟩
theorem Boxes.refl (b1 b2 : Nat) (w : World) : Boxes b1 b2 w w := ⟨rfl, rfl⟩

set_option maxRecDepth 100000 in
set_option maxHeartbeats 2000000 in
/-- The iterator yields the addresses of the span in order. -/
theorem span1_in (m : Nat) (hm : 1 ≤ m) (l Ba Bn : Nat) (a : Int) (n : Nat) (a0 : 0 ≤ a) (a1 : a ≤ 65535) (n1 : n ≤ 65536) (J Jx : List Int → World → Prop)
    (hY : ∀ pre x W, J pre W → pre.length < n → YieldAt Fence.wide (m - 1) Try.prog l #[.int .i64 x] W fun e W' =>
      (e = .returned (.bool true) ∧ J (pre ++ [x]) W' ∧ Boxes Ba Bn W W') ∨ (e = .returned (.bool false) ∧ Jx (pre ++ [x]) W'))
    (W : World) (hBa : Boxed W Ba 3 (.int .i64 a)) (hBn : Boxed W Bn 3 (.int .i64 n)) (h0 : J [] W) :
    CallsIn Fence.wide m Try.prog 19 #[.func (.yield l) #[] #[], .pointer (some ⟨Bn, 0, none⟩), .pointer (some ⟨Ba, 0, none⟩)] W fun e W' => (∃ v, e = .returned v) ∧
      ((∃ ys, ys = lst a n ∧ J ys W') ∨ (∃ pre, True ∧ Jx pre W')) := by
  have cn := hBn.cell
  have hmin : min (n : Int) 65536 = n := by omega
  refine callsIn_of_wp Try.func19 rfl trivial ?_ rfl
  simp only [Try.ntmps19, List.size_toArray, List.length_cons, List.length_nil, Nat.reduceAdd, Nat.reduceSub, Array.replicate_succ, Array.replicate_zero, List.push_toArray, List.append_toArray, List.nil_append, List.cons_append]
  gi_wp2
  gi_loopw [7] (fun i wr => ∃ k : Nat, k ≤ n ∧ i = .int .i64 k ∧ Boxed wr Ba 3 (.int .i64 a) ∧ J (lst a k) wr) (fun i _ => n - (intOf i).toNat)
  case atStart =>
    exact ⟨0, Nat.zero_le _, rfl, hBa, h0⟩
  case round =>
    obtain ⟨k, hk, rfl, hB, hJ⟩ := hrel
    by_cases hlt : k < n
    · have ca := hB.cell
      obtain ⟨fn, tmps, assign, body, hy, hR⟩ := hY (lst a k) ((a + (k : Int)) % 65536) wr hJ (by rw [lst_len]; exact hlt)
      gi_wp2_with (refine ⟨trivial, ?_⟩; gi_at_call 8; refine (callsIn_wide.2 (wrap_any _ _)).mono ?_; rintro e w' ⟨rfl, rfl⟩)
      refine hR.mono ?_
      rintro e W3 (⟨rfl, hJ3, hk3⟩ | ⟨rfl, hJx3⟩)
      · gi_wp2
        go_roundw
        case rel => exact ⟨k + 1, by omega, by go_num, hk3.1.trans hB, by rw [lst_succ]; exact hJ3⟩
        case measure => simp [intOf]; omega
      · gi_wp2
        refine bodyPost_ret (results_none rfl _ _ _) rfl ?_
        exact ⟨⟨_, rfl⟩, .inr ⟨_, trivial, hJx3⟩⟩
    · have hkn : k = n := by omega
      subst hkn
      gi_wp2
      go_end0
      exact ⟨⟨_, rfl⟩, .inl ⟨_, rfl, hJ⟩⟩

set_option maxHeartbeats 1000000 in
theorem span_in (m : Nat) (a n : Int) (w : World) :
    CallsIn Fence.wide m Try.prog 18 #[.int .i64 a, .int .i64 n] w fun e w' =>
      e = .returned (.func (.func 19) #[] #[.pointer (some ⟨w.heap.size + 1, 0, none⟩), .pointer (some ⟨w.heap.size, 0, none⟩)]) ∧ w' = (w.alloc (.cells #[.int .i64 a] 3)).alloc (.cells #[.int .i64 n] 3) := by
  refine callsIn_of_wp Try.func18 rfl trivial ?_ rfl
  simp only [Try.ntmps18, List.size_toArray, List.length_cons, List.length_nil, Nat.reduceAdd, Nat.reduceSub, Array.replicate_succ, Array.replicate_zero, List.push_toArray, List.append_toArray, List.nil_append, List.cons_append]
  gi_wp2
  go_ret
  exact ⟨rfl, rfl⟩

theorem span_stops (m : Nat) (hm : 1 ≤ m) (Ba Bn : Nat) (a : Int) (n : Nat) (a0 : 0 ≤ a) (a1 : a ≤ 65535) (n1 : n ≤ 65536) (w : World) (hBa : Boxed w Ba 3 (.int .i64 a)) (hBn : Boxed w Bn 3 (.int .i64 n)) :
    SeqStopsK Fence.wide m Try.prog 19 #[.pointer (some ⟨Bn, 0, none⟩), .pointer (some ⟨Ba, 0, none⟩)] (fun x : Int => #[Value.int .i64 x]) (Boxes Ba Bn) (fun ys => ys = lst a n) (fun _ => True) n w := fun l J Jx W hW _ _ hY h0 =>
  span1_in m hm l Ba Bn a n a0 a1 n1 J Jx hY W ((hW.block Ba hBa.lt).trans hBa) ((hW.block Bn hBn.lt).trans hBn) h0

theorem boxes_put {b1 b2 : Nat} {W : World} {l : Nat} {o' : Obj} (h1 : b1 ≠ l) (h2 : b2 ≠ l) : Boxes b1 b2 W (W.putObj l o') :=
  ⟨World.putObj_heap_other h1, World.putObj_heap_other h2⟩
/-- A box below the list's own row is as it was behind an append and the store of what it gave. -/
theorem box_step {W w1 : World} {B B0 n1 k : Nat} {e : TypeId} {v v' : Value} {xs : List Value} {tmp : Obj} (hrow : W.ownsRow n1 e 1 v k xs) (hB : B < n1) (hW : n1 ≤ W.heap.size) (hne : B ≠ B0)
    (hgrow : (W.alloc tmp).grownBy w1 v.ownBlock) : (w1.setCell ⟨B0, 0, none⟩ v').heap[B]? = W.heap[B]? := by
  have h1 : (W.alloc tmp).heap[B]? = W.heap[B]? := heap_alloc_old W tmp B (by omega)
  have h2 : w1.heap[B]? = (W.alloc tmp).heap[B]? := hgrow.block B (by simp; omega) (fun e => by have := (hrow.lt B e.symm).1; omega)
  have h3 : (w1.setCell ⟨B0, 0, none⟩ v').heap[B]? = w1.heap[B]? := Below.heap_setCell w1 _ v' B hne
  rw [h3, h2, h1]

set_option maxRecDepth 100000 in
set_option maxHeartbeats 4000000 in
theorem list_any (a : Int) (n : Nat) (w : World) (a0 : 0 ≤ a) (a1 : a ≤ 65535) (n1 : n ≤ 65536) :
    Calls Try.prog 15 #[.int .i64 a, .int .i64 n] w (GivesInts (lst a n) w) := by
  refine (callsIn_wide (n := 6)).1 ?_
  obtain ⟨i0, hi, hz0, hz1, hz2⟩ := info_parts infoInt
  refine callsIn_of_wp_marks Try.func15 rfl trivial ?_ rfl
  simp only [Try.ntmps15, List.size_toArray, List.length_cons, List.length_nil, Nat.reduceAdd, Nat.reduceSub, Array.replicate_succ, Array.replicate_zero, List.push_toArray, List.append_toArray, List.nil_append, List.cons_append]
  gi_wp2_with (refine ⟨trivial, ?_⟩; gi_at_call 18; refine (span_in _ _ _ _).mono ?_; rintro e w' ⟨rfl, rfl⟩)
  have bL := ((Boxed.new w 29 (.slice none 0 0)).alloc (.cells #[.int .i64 a] 3)).alloc (.cells #[.int .i64 n] 3)
  have bA := (Boxed.new (w.alloc (.cells #[.slice none 0 0] 29)) 3 (.int .i64 a)).alloc (.cells #[.int .i64 n] 3)
  have bN := Boxed.new ((w.alloc (.cells #[.slice none 0 0] 29)).alloc (.cells #[.int .i64 a] 3)) 3 (.int .i64 n)
  rw [World.size_alloc] at bA
  rw [World.size_alloc, World.size_alloc] at bN
  have hB0 : Below w.heap.size w (((w.alloc (.cells #[.slice none 0 0] 29)).alloc (.cells #[.int .i64 a] 3)).alloc (.cells #[.int .i64 n] 3)) := (((Below.refl _ w).alloc (Nat.le_refl _) _).alloc (by simp) _).alloc (by simp; omega) _
  refine wpIn_rangeFunc_ownG rfl (by omega) (gf := 19) (lb := #[.pointer (some ⟨w.heap.size + 1 + 1, 0, none⟩), .pointer (some ⟨w.heap.size + 1, 0, none⟩)]) rfl trivial (enters_of Try.func19 (by kernel_rfl) rfl)
    (span_stops _ (by omega) (w.heap.size + 1) (w.heap.size + 1 + 1) a n a0 a1 n1 _ bA bN) Boxes.trans (fun W l o o' hl _ _ _ => boxes_put (by simp at hl; omega) (by simp at hl; omega)) (Below.refl _ _) (fun _ => rfl)
    (fun pre W => (∃ v, Boxed W w.heap.size 29 v ∧ W.ownsRow (w.heap.size + 3) 3 1 v pre.length (pre.map (Value.int .i64)) ∧ True) ∧ (w.heap.size + 3 ≤ W.heap.size ∧ Below w.heap.size w W))
    (fun _ _ _ => False)
    (OwnFrom.and (Own.from (holdsRow_own (w.heap.size + 3) w.heap.size 29 3 1 (fun pre : List Int => pre.length) (fun pre => pre.map (Value.int .i64)) (fun pre v => True)) _) (OwnFrom.and (fun s A B row hs hg _ => Nat.le_trans hs hg.size) (ownFrom_below (Nat.le_refl _) (by simp; omega))))
    (fun _ _ _ _ _ hs _ _ => hs)
    ⟨⟨_, bL, World.ownsRow_nil _ _ _ _, trivial⟩, by simp, hB0⟩
    (fun x => { tmps := #[.int .i64 a, .int .i64 n, undef, undef, .slice none 0 0, .pointer (some ⟨w.heap.size, 0, none⟩), .int .i64 x, .int .i64 a, .int .i64 n, .func (.func 19) #[] #[.pointer (some ⟨w.heap.size + 1 + 1, 0, none⟩), .pointer (some ⟨w.heap.size + 1, 0, none⟩)], .int .i64 x, undef, undef, undef, undef, undef], defers := [] }) ?assign ?body ?done ?stop
  case assign =>
    intro l x W K hK
    gi_wp2
    exact hK
  case body =>
    rintro l pre x W ⟨⟨v, hv, hrow, _⟩, hz, hB⟩ hlt
    have hc := hv.cell
    gi_wp2_with (gi_at_builtin; refine wpListIn_append_own _ rfl _ _ 29 rfl (w.heap.size + 3) 3 i0 (.int .i64 0) 1 8 Try.underlying29 hi hz0 hz1 hz2 rfl (by decide) _ _ _ rfl (hrow.alloc _) ⟨W.heap.size, 0, none⟩ 1 1 [.int .i64 x] rfl rfl (cell_one_new _ _ _) (by simp [Value.oneCell']) (by unfold maxLen; omega) (by omega) (by simp; omega) ?_; intro v' w1 hown' hgrow _; obtain ⟨g', cap', rfl⟩ := ownsRow_succ hown'; obtain ⟨hv1, hv2, hr2, hk2, hb2⟩ := hv.appended (by decide) (own_mono hrow (by omega : w.heap.size ≤ w.heap.size + 3)) hB.size (Nat.le_refl _) (own_mono hown' (by omega : w.heap.size ≤ w.heap.size + 3)) hgrow; have hc1 := hv1.cell; have hf1 := hv1.frozen)
    have hr3 := hown'.kept (grownBy_setCell' w1 w.heap.size (.slice (some ⟨g', 0, none⟩) (pre.length + 1) cap')) (.inr (hv1.not_row (by decide) hown').symm)
    exact ⟨hk2.from _, ⟨box_step hrow (by omega) hz (by omega) hgrow, box_step hrow (by omega) hz (by omega) hgrow⟩, ⟨_, hv2, by simpa using hr3, trivial⟩, Nat.le_trans hz (Nat.le_trans (by simp) (Nat.le_trans hgrow.size (by simp))), hB.trans hb2⟩
  case done =>
    rintro D ys W hD rfl ⟨⟨v, hv, hrow, _⟩, _, hB⟩ hK
    have hc := hv.cell
    gi_wp2
    refine ⟨by simp, .inl ⟨_, _, rfl, run_takeDeferred hK, ?_⟩⟩
    obtain ⟨A, c, rfl⟩ := own_form hrow
    have hr := ownsRow_putObj hrow (.deferred none) hK rfl
    refine ⟨_, results_tmp rfl _ _ _, ⟨A, c, rfl, Row.of_own hr⟩, hB.trans (belowK_b (w := w) (Nat.le_refl _) W D _ _ (by simp at hD; omega) hK rfl rfl)⟩
  case stop =>
    rintro D c pre W _ _ h _
    exact h.elim
end Go.Proofs.Ytcgineohhlmghaa
