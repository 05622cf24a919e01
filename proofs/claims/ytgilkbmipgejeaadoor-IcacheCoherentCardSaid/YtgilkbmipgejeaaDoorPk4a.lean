/- The reference's Level, its lists, and its Decode. -/
import Derived.Test.YtgilkbmipgejeaaDoorKDecRef
import Derived.Test.YtgilkbmipgejeaaDoorKDecFin2
namespace Go.Proofs.YtgilkbmipgejeaaDoor
open Go.RowKit Num Dec
set_option linter.unusedVariables false
set_option linter.unusedSimpArgs false

set_option maxHeartbeats 1000000 in
theorem rlevel_any (op : Int) (w : World) : Calls Tryd.prog 52 #[.int .i64 op] w fun e w' => e = .returned (.int .i64 (lvR op)) ∧ w = w' := by
  have hp : op < 1 ∨ (1 ≤ op ∧ 51 < op) ∨ (1 ≤ op ∧ op ≤ 51 ∧ op ≤ 34) ∨ (1 ≤ op ∧ op ≤ 51 ∧ 34 < op ∧ op ≤ 44) ∨ (1 ≤ op ∧ op ≤ 51 ∧ 34 < op ∧ 44 < op) := by omega
  rcases hp with h | ⟨h, h2⟩ | ⟨h, h2, h3⟩ | ⟨h, h2, h3, h4⟩ | ⟨h, h2, h3, h4⟩
  all_goals
    have E := Lib.hid (show lvR op = _ by unfold lvR; first | rw [if_pos (by omega)] | rw [if_neg (by omega), if_pos (by omega)] | rw [if_neg (by omega), if_neg (by omega), if_pos (by omega)] | rw [if_neg (by omega), if_neg (by omega), if_neg (by omega)])
    go_enter Tryd.func52, Tryd.ntmps52
    go_wp2
    go_ret
    exact ⟨by rw [E.out]; rfl, rfl⟩

def InAt (n : Int) (L : List Int) (k : Nat) : Prop := inB n L = inB n (L.drop k)
set_option maxHeartbeats 1000000 in
theorem in14_any (n : Int) (L : List Int) (b m c : Nat) (w : World) (hm : L.length = m) (hL : m ≤ 100) (hc : ∀ k (h : k < L.length), w.cell? ⟨b, k, none⟩ = some (.int .i64 L[k])) :
    Calls Tryd.prog 54 #[.int .i64 n, .slice (some ⟨b, 0, none⟩) m c] w fun e w' => e = .returned (.bool (inB n L)) ∧ w = w' := by
  have HC := Lib.hid hc
  have HM := Lib.hid hm
  clear hc hm
  go_enter Tryd.func54, Tryd.ntmps54
  go_wp2
  go_loop [5] (fun i => ∃ k : Nat, k ≤ m ∧ i = .int .i64 (k : Int) ∧ InAt n L k) (fun i => m - (intOf i).toNat)
  case atStart => exact ⟨0, Nat.zero_le _, rfl, rfl⟩
  case round =>
    obtain ⟨k, hk, rfl, ht⟩ := hrel
    have HT := Lib.hid ht
    clear ht
    by_cases hlt : k < m
    · have h2 : k < L.length := by have := HM.out; omega
      obtain ⟨v, hv⟩ : ∃ v, L[k] = v := ⟨_, rfl⟩
      have c0 := HC.out k h2
      rw [hv] at c0
      by_cases he : v = n
      · have E := Lib.hid (show inB n L = true by rw [show inB n L = inB n (L.drop k) from HT.out]; exact inB_hit n L k h2 (hv.trans he))
        subst he
        clear hv h2
        go_wp2
        go_ret
        exact ⟨by rw [E.out]; rfl, rfl⟩
      · have E := Lib.hid (show InAt n L (k + 1) from (show inB n L = inB n (L.drop k) from HT.out).trans (inB_step n L k h2 (by rw [hv]; exact he)))
        have he' : (v == n) = false := by simpa using he
        clear hv h2
        go_wp2
        exact ⟨⟨k + 1, by omega, rfl, E.out⟩, by simp [intOf]; omega⟩
    · have E := Lib.hid (show inB n L = false by rw [show inB n L = inB n (L.drop k) from HT.out]; exact inB_end n L k (by have := HM.out; omega))
      go_wp2
      go_ret
      exact ⟨by rw [E.out]; rfl, rfl⟩

theorem cell_list (v W : World) (T : TypeId) (L : List Int) (cs : Array Value) (b : Nat) (hW : W = v.alloc (.cells cs T)) (hcs : cs = (L.map (Value.int .i64)).toArray) (hb : v.heap.size = b) (k : Nat) (h : k < L.length) : W.cell? ⟨b, k, none⟩ = some (.int .i64 L[k]) := by
  subst hW hcs hb
  rw [(Blk.new v T _).cell k]
  simp [h]
theorem LX_len : LX.length = 36 := rfl
theorem LX_cells : (#[.int .i64 5, .int .i64 6, .int .i64 7, .int .i64 8, .int .i64 9, .int .i64 10, .int .i64 11, .int .i64 12, .int .i64 13, .int .i64 14, .int .i64 15, .int .i64 16, .int .i64 17, .int .i64 18, .int .i64 19, .int .i64 21, .int .i64 22, .int .i64 23, .int .i64 24, .int .i64 25, .int .i64 26, .int .i64 27, .int .i64 28, .int .i64 29, .int .i64 30, .int .i64 31, .int .i64 32, .int .i64 33, .int .i64 34, .int .i64 41, .int .i64 42, .int .i64 43, .int .i64 44, .int .i64 46, .int .i64 47, .int .i64 51] : Array Value) = (LX.map (Value.int .i64)).toArray := by kernel_rfl
theorem LY_len : LY.length = 15 := rfl
theorem LY_cells : (#[.int .i64 7, .int .i64 10, .int .i64 11, .int .i64 12, .int .i64 13, .int .i64 14, .int .i64 15, .int .i64 16, .int .i64 17, .int .i64 18, .int .i64 19, .int .i64 23, .int .i64 41, .int .i64 46, .int .i64 47] : Array Value) = (LY.map (Value.int .i64)).toArray := by kernel_rfl
theorem LN_len : LN.length = 3 := rfl
theorem LN_cells : (#[.int .i64 23, .int .i64 35, .int .i64 45] : Array Value) = (LN.map (Value.int .i64)).toArray := by kernel_rfl
theorem LNN_len : LNN.length = 5 := rfl
theorem LNN_cells : (#[.int .i64 5, .int .i64 6, .int .i64 8, .int .i64 9, .int .i64 22] : Array Value) = (LNN.map (Value.int .i64)).toArray := by kernel_rfl
theorem LA_len : LA.length = 4 := rfl
theorem LA_cells : (#[.int .i64 3, .int .i64 4, .int .i64 20, .int .i64 21] : Array Value) = (LA.map (Value.int .i64)).toArray := by kernel_rfl
/-- The result, the fields and the variable of the reference's Decode. -/
structure RB (w0 : World) (g bx : Nat) (fc cs : Array Value) (w : World) : Prop where
  res : Blk w0.heap.size 38 zeroI w
  fl : Blk g 110 fc w
  var : Blk bx 38 cs w
  low : Below w0.heap.size w0 w
  g1 : w0.heap.size < g
  g2 : g < bx
section
variable {w0 w w' : World} {g bx : Nat} {fc cs : Array Value}
theorem RB.step (H : RB w0 g bx fc cs w) (hb : Below w.heap.size w w') : RB w0 g bx fc cs w' :=
  ⟨H.res.step hb, H.fl.step hb, H.var.step hb, H.low.trans (hb.mono (by have := H.res.lt; omega)), H.g1, H.g2⟩
theorem RB.alloc (H : RB w0 g bx fc cs w) (o : Obj) : RB w0 g bx fc cs (w.alloc o) := H.step (below_new' _ _)
theorem RB.put (H : RB w0 g bx fc cs w) (j : Nat) (v : Value) : RB w0 g bx fc (cs.setIfInBounds j v) (w.setCell ⟨bx, j, none⟩ v) :=
  ⟨H.res.other (by have := H.g1; have := H.g2; omega) _ _, H.fl.other (by have := H.g2; omega) _ _, H.var.put _ _, H.low.setCell (by have := H.g1; have := H.g2; simp; omega) _, H.g1, H.g2⟩
end
end Go.Proofs.YtgilkbmipgejeaaDoor
