/- The library's Chunk, over a slice of bytes of whole chunks. -/
import Derived.Test.YtplmmfgmbfcjpaaScrIter
import Derived.BigRegionIn
namespace Go.Proofs.Ytplmmfgmbfcjpaa
open Go.RowKit Go.Shelf Num
set_option linter.unusedVariables false
set_option linter.unusedSimpArgs false
attribute [local go_sem] Oper.semAt_some

/-- The slice at A reads as n bytes of F. -/
def DatA (g o : Nat) (F : Nat → Nat) (n : Nat) (A : Option Addr) (w : World) : Prop := 0 < n → A = some ⟨g, o, none⟩ ∧ g < w.heap.size ∧ ∀ j, j < n → w.cell? ⟨g, o + j, none⟩ = some (.int .u8 (F j : Int))
theorem DatA.step {g o : Nat} {F : Nat → Nat} {n : Nat} {A : Option Addr} {w w' : World} (h : DatA g o F n A w) (hb : Below w.heap.size w w') : DatA g o F n A w' := fun hn => by
  obtain ⟨h1, h2, h3⟩ := h hn
  exact ⟨h1, Nat.lt_of_lt_of_le h2 hb.size, fun j hj => (hb.cell (p := ⟨g, o + j, none⟩) h2).trans (h3 j hj)⟩
/-- What a round keeps for the iterator: its two variables. -/
def Keep2 (b1 b2 : Nat) (W W' : World) : Prop := W'.heap[b1]? = W.heap[b1]? ∧ W'.heap[b2]? = W.heap[b2]?
theorem Keep2.trans {b1 b2 : Nat} {u v w : World} (h : Keep2 b1 b2 u v) (h' : Keep2 b1 b2 v w) : Keep2 b1 b2 u w := ⟨h'.1.trans h.1, h'.2.trans h.2⟩
theorem keep2_put {b1 b2 : Nat} {W : World} {l : Nat} {o' : Obj} (h1 : b1 ≠ l) (h2 : b2 ≠ l) : Keep2 b1 b2 W (W.putObj l o') := ⟨World.putObj_heap_other h1, World.putObj_heap_other h2⟩
theorem fin_take {n k : Nat} (hk : k < n) : (List.finRange n).take (k + 1) = (List.finRange n).take k ++ [⟨k, hk⟩] := by
  rw [List.take_succ_eq_append_getElem (by simpa using hk)]
  simp
/-- The chunk number k. -/
def chunkV (g o z k : Nat) : Value := .slice (some ⟨g, o + k * z, none⟩) z z
set_option maxRecDepth 100000 in
set_option maxHeartbeats 4000000 in
theorem chunk1_in (m : Nat) (hm : 1 ≤ m) (l Bs Bz g o n z c : Nat) (A : Option Addr) (z0 : 0 < z) (z1 : z ≤ 2) (n1 : n ≤ 16) (hc : n * z ≤ c) (c1 : c ≤ 1000) (hA : 0 < n → A = some ⟨g, o, none⟩) (J Jx : List (Fin n) → World → Prop)
    (hY : ∀ pre x W, J pre W → pre.length < n → YieldAt Fence.wide (m - 1) Try.prog l #[chunkV g o z (x : Fin n).val] W fun e W' =>
      (e = .returned (.bool true) ∧ J (pre ++ [x]) W' ∧ Keep2 Bs Bz W W') ∨ (e = .returned (.bool false) ∧ Jx (pre ++ [x]) W'))
    (W : World) (hS : Boxed W Bs 39 (.slice A (n * z) c)) (hZ : Boxed W Bz 3 (.int .i64 (z : Int))) (hJd : ∀ pre W, J pre W → J pre W.drew) (h0 : J [] W) :
    CallsIn Fence.wide m Try.prog 64 #[.func (.yield l) #[] #[], .pointer (some ⟨Bs, 0, none⟩), .pointer (some ⟨Bz, 0, none⟩)] W fun e W' => (∃ v, e = .returned v) ∧
      ((∃ ys, ys = List.finRange n ∧ J ys W') ∨ (∃ pre, True ∧ Jx pre W')) := by
  obtain ⟨t, ht⟩ : ∃ t, n * z = t := ⟨_, rfl⟩
  have t1 : t ≤ 32 := by rw [← ht]; exact Nat.mul_le_mul n1 z1
  rw [ht] at hc hS
  have HT := Lib.hid ht
  have zI : (0 : Int) < (z : Int) := by omega
  clear ht
  refine callsIn_of_wp Try.func64 rfl trivial ?_ rfl
  simp only [Try.ntmps64, List.size_toArray, List.length_cons, List.length_nil, Nat.reduceAdd, Nat.reduceSub, Array.replicate_succ, Array.replicate_zero, List.push_toArray, List.append_toArray, List.nil_append, List.cons_append]
  gi_wp2
  gi_loopw [4] (fun i wr => ∃ k q : Nat, k ≤ n ∧ q = k * z ∧ i = .int .i64 (q : Int) ∧ Boxed wr Bs 39 (.slice A t c) ∧ Boxed wr Bz 3 (.int .i64 (z : Int)) ∧ J ((List.finRange n).take k) wr) (fun i _ => t - (intOf i).toNat)
  case atStart => exact ⟨0, 0, by omega, by simp, rfl, hS, hZ, by simpa using h0⟩
  case round =>
    clear h0 hS hZ
    obtain ⟨k, q, hk, hq, rfl, hS, hZ, hJ⟩ := hrel
    by_cases hlt : k < n
    · have q1 : q + z ≤ t := by
        rw [hq, ← HT.out, ← Nat.succ_mul]
        exact Nat.mul_le_mul_right z hlt
      have hqt : (q : Int) < (t : Int) := by omega
      have hA' := hA (by omega)
      subst hA'
      have cS := hS.cell
      have cZ := hZ.cell
      obtain ⟨fn, tmps, assign, body, hy, hR⟩ := hY ((List.finRange n).take k) ⟨k, hlt⟩ wr.drew (hJd _ _ hJ) (by simp; omega)
      unfold chunkV at hy
      dsimp only at hy
      rw [← hq] at hy
      have HQ := Lib.hid hq
      clear hq
      have cq : ¬ c = q := by omega
      have e1 : min (z : Int) ((t : Int) - (q : Int)) = (z : Int) := by omega
      have e2 : (q : Int) ≤ (t : Int) := by omega
      gi_wp2
      gi_region
      have e3 : (q : Int) + (z : Int) ≤ (c : Int) := by omega
      have e4 : ¬ z = 0 := by omega
      gi_wp2
      refine hR.mono ?_
      rintro e W3 (⟨rfl, hJ3, hk3⟩ | ⟨rfl, hJx3⟩)
      · have cZ3 := (show Boxed W3 Bz 3 (.int .i64 (z : Int)) from hk3.2.trans hZ).cell
        gi_wp2
        go_roundw
        case rel => exact ⟨k + 1, q + z, by omega, by rw [HQ.out, Nat.succ_mul], by go_num, hk3.1.trans hS, hk3.2.trans hZ, by rw [fin_take hlt]; exact hJ3⟩
        case measure => simp [intOf]; omega
      · gi_wp2
        refine bodyPost_ret (results_none rfl _ _ _) rfl ?_
        exact ⟨⟨_, rfl⟩, .inr ⟨_, trivial, hJx3⟩⟩
    · have hkn : k = n := by omega
      have hqt : ¬ (q : Int) < (t : Int) := by rw [hq, ← HT.out, hkn]; omega
      have cS := hS.cell
      clear hq
      gi_wp2
      go_end0
      rw [hkn, List.take_of_length_le (by simp)] at hJ
      exact ⟨⟨_, rfl⟩, .inl hJ⟩
theorem chunk_stops (m : Nat) (hm : 1 ≤ m) (Bs Bz g o n z c : Nat) (A : Option Addr) (z0 : 0 < z) (z1 : z ≤ 2) (n1 : n ≤ 16) (hc : n * z ≤ c) (c1 : c ≤ 1000) (hA : 0 < n → A = some ⟨g, o, none⟩) (w : World) (hS : Boxed w Bs 39 (.slice A (n * z) c)) (hZ : Boxed w Bz 3 (.int .i64 (z : Int))) :
    SeqStopsK Fence.wide m Try.prog 64 #[.pointer (some ⟨Bs, 0, none⟩), .pointer (some ⟨Bz, 0, none⟩)] (fun x : Fin n => #[chunkV g o z x.val]) (Keep2 Bs Bz) (fun ys => ys = List.finRange n) (fun _ => True) n w := fun l J Jx W hW hJ _ hY h0 =>
  chunk1_in m hm l Bs Bz g o n z c A z0 z1 n1 hc c1 hA J Jx hY W ((hW.block Bs hS.lt).trans hS) ((hW.block Bz hZ.lt).trans hZ) (fun pre W h => hJ pre W W.drew none h ⟨rfl, rfl, rfl, Nat.le_refl _, fun _ _ _ => rfl⟩ (fun _ e => by cases e)) h0
theorem chunk_in (m : Nat) (A : Option Addr) (t c z : Nat) (z0 : 0 < z) (w : World) : CallsIn Fence.wide m Try.prog 54 #[.slice A t c, .int .i64 (z : Int)] w fun e w' =>
      e = .returned (.func (.func 64) #[] #[.pointer (some ⟨w.heap.size, 0, none⟩), .pointer (some ⟨w.heap.size + 1, 0, none⟩)]) ∧ w' = (w.alloc (.cells #[.slice A t c] 39)).alloc (.cells #[.int .i64 (z : Int)] 3) := by
  have zI : ¬ (z : Int) < 1 := by omega
  refine callsIn_of_wp Try.func54 rfl trivial ?_ rfl
  simp only [Try.ntmps54, List.size_toArray, List.length_cons, List.length_nil, Nat.reduceAdd, Nat.reduceSub, Array.replicate_succ, Array.replicate_zero, List.push_toArray, List.append_toArray, List.nil_append, List.cons_append]
  gi_wp2
  go_ret
  exact ⟨rfl, rfl⟩
end Go.Proofs.Ytplmmfgmbfcjpaa
