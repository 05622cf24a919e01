/- The iterator of the selected planes (screen.selected); shape; Size. -/
import Derived.Test.YtplmmfgmbfcjpaaScrBox
import Derived.Test.YtplmmfgmbfcjpaaScrNum
import Derived.Test.YtplmmfgmbfcjpaaRound
import Derived.RangeFuncBox
import Derived.RangeFuncLeaves
import Derived.RangeFuncNested
import Derived.RangeFuncBound
import Derived.RangeFuncCalls
import Derived.Shelf.Abstract
import Derived.Shelf.RegionOpen
import Derived.OwnWalkIn
import Derived.TacticsInMore
import Derived.LoopNIn
import Derived.LoopIn
namespace Go.Proofs.Ytplmmfgmbfcjpaa
open Go.RowKit Go.Shelf Num
set_option linter.unusedVariables false
attribute [local go_sem] Oper.semAt_some

/-- The selected planes among the first k. -/
def selTo (M k : Nat) : List (Fin 4) := (List.finRange 4).filter fun i => decide (i.val < k) && onB M i.val
theorem selTo_zero (M : Nat) : selTo M 0 = [] := by simp [selTo]
theorem selTo_succ (M k : Nat) (hk : k < 4) : selTo M (k + 1) = selTo M k ++ if onB M k then [⟨k, hk⟩] else [] := by
  unfold selTo
  generalize h0 : onB M 0 = b0
  generalize h1 : onB M 1 = b1
  generalize h2 : onB M 2 = b2
  generalize h3 : onB M 3 = b3
  have e : ∀ k, (List.finRange 4).filter (fun i => decide (i.val < k) && onB M i.val) = (List.finRange 4).filter (fun i => decide (i.val < k) && (if i.val = 0 then b0 else if i.val = 1 then b1 else if i.val = 2 then b2 else b3)) := fun k => by
    refine List.filter_congr fun i _ => ?_
    rcases i with ⟨i, hi⟩
    rcases (show i = 0 ∨ i = 1 ∨ i = 2 ∨ i = 3 by omega) with rfl | rfl | rfl | rfl <;> simp [h0, h1, h2, h3]
  rw [e, e]
  clear e
  rcases (show k = 0 ∨ k = 1 ∨ k = 2 ∨ k = 3 by omega) with rfl | rfl | rfl | rfl
  · rw [h0]; clear h0 h1 h2 h3 M; revert b0 b1 b2 b3 hk; decide
  · rw [h1]; clear h0 h1 h2 h3 M; revert b0 b1 b2 b3 hk; decide
  · rw [h2]; clear h0 h1 h2 h3 M; revert b0 b1 b2 b3 hk; decide
  · rw [h3]; clear h0 h1 h2 h3 M; revert b0 b1 b2 b3 hk; decide
theorem selTo_len (M k : Nat) : (selTo M k).length ≤ k := by
  by_cases h : k ≤ 4
  · induction k with
    | zero => rw [selTo_zero]; simp
    | succ k ih =>
      have := ih (by omega)
      rw [selTo_succ M k (by omega)]
      split <;> simp <;> omega
  · exact Nat.le_trans (List.length_filter_le _ _) (by simp; omega)

theorem selTo_mono (M : Nat) {j k : Nat} (h : j ≤ k) (hk : k ≤ 4) : (selTo M j).length ≤ (selTo M k).length := by
  induction k with
  | zero => obtain rfl : j = 0 := by omega
            exact Nat.le_refl _
  | succ k ih =>
    rcases (show j = k + 1 ∨ j ≤ k by omega) with rfl | h1
    · exact Nat.le_refl _
    · refine Nat.le_trans (ih h1 (by omega)) ?_
      rw [selTo_succ M k (by omega), List.length_append]
      omega
theorem selTo_lt (M : Nat) {k : Nat} (hk : k < 4) (h : onB M k = true) : (selTo M k).length < (selTo M 4).length := by
  have h1 := selTo_mono M (show k + 1 ≤ 4 by omega) (Nat.le_refl 4)
  rw [selTo_succ M k hk, if_pos h, List.length_append, List.length_singleton] at h1
  omega
/-- What a round keeps for the iterator: the box of the mask. -/
def KeepM (b : Nat) (W W' : World) : Prop := W'.heap[b]? = W.heap[b]?
theorem and_one (a : Nat) (ha : a < 9223372036854775808) : bits .and .i64 (a : Int) 1 = ((a % 2 : Nat) : Int) := by
  unfold bits
  have e : (BitVec.ofInt IntKind.i64.bits (a : Int) &&& BitVec.ofInt IntKind.i64.bits 1).toNat = a % 2 := by
    show (BitVec.ofInt 64 (a : Int) &&& BitVec.ofInt 64 1).toNat = a % 2
    rw [BitVec.ofInt_natCast, BitVec.toNat_and, BitVec.toNat_ofNat, Nat.mod_eq_of_lt (by omega), show (BitVec.ofInt 64 1).toNat = 1 by decide, Nat.and_one_is_mod]
  simp only [e]
  rcases (show a % 2 = 0 ∨ a % 2 = 1 by omega) with h | h <;> rw [h] <;> decide
theorem shr_on (M k : Nat) (hM : M ≤ 10000) : ∃ z : Nat, (M : Int) / 2 ^ k = (z : Int) ∧ bits .and .i64 (z : Int) 1 = (if onB M k then 1 else 0) := by
  refine ⟨M / 2 ^ k, by simp, ?_⟩
  have := Nat.div_le_self M (2 ^ k)
  rw [and_one _ (by omega)]
  unfold onB
  by_cases h : M / 2 ^ k % 2 = 1
  · rw [h]; simp
  · rw [show M / 2 ^ k % 2 = 0 by omega]; simp
set_option maxRecDepth 100000 in
set_option maxHeartbeats 2000000 in
theorem selected1_in (m : Nat) (hm : 1 ≤ m) (l Bm M : Nat) (hM : M ≤ 10000) (J Jx : List (Fin 4) → World → Prop)
    (hY : ∀ pre x W, J pre W → pre.length < (selTo M 4).length → YieldAt Fence.wide (m - 1) Try.prog l #[.int .i64 ((x : Fin 4).val : Int)] W fun e W' =>
      (e = .returned (.bool true) ∧ J (pre ++ [x]) W' ∧ KeepM Bm W W') ∨ (e = .returned (.bool false) ∧ Jx (pre ++ [x]) W'))
    (W : World) (hB : Boxed W Bm 3 (.int .i64 (M : Int))) (h0 : J [] W) :
    CallsIn Fence.wide m Try.prog 61 #[.func (.yield l) #[] #[], .pointer (some ⟨Bm, 0, none⟩)] W fun e W' => (∃ v, e = .returned v) ∧
      ((∃ ys, ys = selTo M 4 ∧ J ys W') ∨ (∃ pre, True ∧ Jx pre W')) := by
  refine callsIn_of_wp Try.func61 rfl trivial ?_ rfl
  simp only [Try.ntmps61, List.size_toArray, List.length_cons, List.length_nil, Nat.reduceAdd, Nat.reduceSub, Array.replicate_succ, Array.replicate_zero, List.push_toArray, List.append_toArray, List.nil_append, List.cons_append]
  gi_wp2
  gi_loopw [4] (fun i wr => ∃ k : Nat, k ≤ 4 ∧ i = .int .i64 k ∧ Boxed wr Bm 3 (.int .i64 (M : Int)) ∧ J (selTo M k) wr) (fun i _ => 4 - (intOf i).toNat)
  case atStart => exact ⟨0, by omega, rfl, hB, by rw [selTo_zero]; exact h0⟩
  case round =>
    obtain ⟨k, hk, rfl, hB, hJ⟩ := hrel
    by_cases hlt : k < 4
    · have cm := hB.cell
      have ki : (k : Int) < 4 := by omega
      obtain ⟨z, z1, z2⟩ := shr_on M k hM
      have SU := Lib.hid (selTo_succ M k hlt)
      cases hon : onB M k
      · rw [hon, if_neg (by decide)] at z2
        have SV := Lib.hid hon
        clear hon
        gi_wp2
        refine ⟨fun _ h => (by cases h), ?_⟩
        gi_wp2
        go_roundw
        case rel => exact ⟨k + 1, by omega, by go_num, hB, by rw [SU.out, SV.out, if_neg (by decide), List.append_nil]; exact hJ⟩
        case measure => simp [intOf]; omega
      · rw [hon, if_pos rfl] at z2
        have SV := Lib.hid hon
        clear hon
        obtain ⟨fn, tmps, assign, body, hy, hR⟩ := hY (selTo M k) ⟨k, hlt⟩ wr hJ (selTo_lt M hlt SV.out)
        dsimp only at hy
        gi_wp2
        refine hR.mono ?_
        rintro e W3 (⟨rfl, hJ3, hk3⟩ | ⟨rfl, hJx3⟩)
        · gi_wp2
          go_roundw
          case rel => exact ⟨k + 1, by omega, by go_num, hk3.trans hB, by rw [SU.out, SV.out, if_pos rfl]; exact hJ3⟩
          case measure => simp [intOf]; omega
        · gi_wp2
          refine bodyPost_ret (results_none rfl _ _ _) rfl ?_
          exact ⟨⟨_, rfl⟩, .inr ⟨_, trivial, hJx3⟩⟩
    · have hkn : k = 4 := by omega
      subst hkn
      gi_wp2
      go_end0
      exact ⟨⟨_, rfl⟩, .inl ⟨_, rfl, hJ⟩⟩
theorem selected_in (m : Nat) (M : Int) (w : World) : CallsIn Fence.wide m Try.prog 43 #[.int .i64 M] w fun e w' =>
      e = .returned (.func (.func 61) #[] #[.pointer (some ⟨w.heap.size, 0, none⟩)]) ∧ w' = w.alloc (.cells #[.int .i64 M] 3) := by
  refine callsIn_of_wp Try.func43 rfl trivial ?_ rfl
  simp only [Try.ntmps43, List.size_toArray, List.length_cons, List.length_nil, Nat.reduceAdd, Nat.reduceSub, Array.replicate_succ, Array.replicate_zero, List.push_toArray, List.append_toArray, List.nil_append, List.cons_append]
  gi_wp2
  go_ret
  exact ⟨rfl, rfl⟩
theorem selected_stops (m : Nat) (hm : 1 ≤ m) (Bm M : Nat) (hM : M ≤ 10000) (w : World) (hB : Boxed w Bm 3 (.int .i64 (M : Int))) :
    SeqStopsK Fence.wide m Try.prog 61 #[.pointer (some ⟨Bm, 0, none⟩)] (fun x : Fin 4 => #[Value.int .i64 (x.val : Int)]) (KeepM Bm) (fun ys => ys = selTo M 4) (fun _ => True) (selTo M 4).length w := fun l J Jx W hW _ _ hY h0 =>
  selected1_in m hm l Bm M hM J Jx hY W ((hW.block Bm hB.lt).trans hB) h0
theorem KeepM.trans {b : Nat} {u v w : World} (h : KeepM b u v) (h' : KeepM b v w) : KeepM b u w := Eq.trans h' h
theorem keepM_put {b : Nat} {W : World} {l : Nat} {o' : Obj} (h1 : b ≠ l) : KeepM b W (W.putObj l o') := World.putObj_heap_other h1
theorem shape_any (n : Nat) (big : Bool) (w : World) : Calls Try.prog 35 #[.int .i64 (n : Int), .bool big] w fun e w' => e = .returned (.tuple #[.int .i64 ((if big then 16 else n : Nat) : Int), .int .i64 ((if big then 2 else 1 : Nat) : Int)]) ∧ w = w' := by
  cases big
  all_goals
    go_enter Try.func35, Try.ntmps35
    go_wp2
    go_ret2
    exact ⟨rfl, rfl⟩
end Go.Proofs.Ytplmmfgmbfcjpaa
