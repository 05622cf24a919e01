/- The reference's words and lists of layer 15. -/
import Derived.Test.YthfiaemdpfffcaaGreatDoorBlk
import Derived.Test.YthfiaemdpfffcaaGreatDoorPlain
import Derived.Test.YthfiaemdpfffcaaGreatDoorHexRef
import Derived.Test.YthfiaemdpfffcaaGreatDoorAsmOr
import Derived.Deep.Cut
import Derived.Test.YthfiaemdpfffcaaGreatDoorDecRef2
namespace Go.Proofs.YthfiaemdpfffcaaGreatDoor
open Go.RowKit Num Dec
set_option linter.unusedVariables false
set_option linter.unusedSimpArgs false

def wordCells : Array Value := #[.string ⟨#[99, 108, 101, 97, 114]⟩, .string ⟨#[114, 101, 116, 117, 114, 110]⟩, .string ⟨#[106, 117, 109, 112]⟩, .string ⟨#[99, 97, 108, 108]⟩, .string ⟨#[115, 107, 105, 112, 46, 101, 113]⟩, .string ⟨#[115, 107, 105, 112, 46, 110, 101]⟩, .string ⟨#[115, 107, 105, 112, 46, 101, 113, 118]⟩, .string ⟨#[115, 101, 116]⟩, .string ⟨#[97, 100, 100]⟩, .string ⟨#[109, 111, 118, 101]⟩, .string ⟨#[111, 114]⟩, .string ⟨#[97, 110, 100]⟩, .string ⟨#[120, 111, 114]⟩, .string ⟨#[97, 100, 100, 118]⟩, .string ⟨#[115, 117, 98]⟩, .string ⟨#[115, 104, 114]⟩, .string ⟨#[115, 117, 98, 110]⟩, .string ⟨#[115, 104, 108]⟩, .string ⟨#[115, 107, 105, 112, 46, 110, 101, 118]⟩, .string ⟨#[115, 101, 116, 105]⟩, .string ⟨#[106, 117, 109, 112, 97, 100, 100]⟩, .string ⟨#[114, 97, 110, 100, 111, 109]⟩, .string ⟨#[100, 114, 97, 119]⟩, .string ⟨#[115, 107, 105, 112, 46, 107, 101, 121]⟩, .string ⟨#[115, 107, 105, 112, 46, 110, 111, 107, 101, 121]⟩, .string ⟨#[103, 101, 116, 100, 101, 108, 97, 121]⟩, .string ⟨#[119, 97, 105, 116, 107, 101, 121]⟩, .string ⟨#[115, 101, 116, 100, 101, 108, 97, 121]⟩, .string ⟨#[115, 101, 116, 115, 111, 117, 110, 100]⟩, .string ⟨#[97, 100, 100, 105]⟩, .string ⟨#[103, 108, 121, 112, 104]⟩, .string ⟨#[100, 101, 99, 105, 109, 97, 108]⟩, .string ⟨#[115, 116, 111, 114, 101]⟩, .string ⟨#[108, 111, 97, 100]⟩, .string ⟨#[100, 111, 119, 110]⟩, .string ⟨#[114, 105, 103, 104, 116]⟩, .string ⟨#[108, 101, 102, 116]⟩, .string ⟨#[101, 120, 105, 116]⟩, .string ⟨#[108, 111, 114, 101, 115]⟩, .string ⟨#[104, 105, 114, 101, 115]⟩, .string ⟨#[100, 114, 97, 119, 98, 105, 103]⟩, .string ⟨#[98, 105, 103, 103, 108, 121, 112, 104]⟩, .string ⟨#[115, 97, 118, 101]⟩, .string ⟨#[114, 101, 115, 116, 111, 114, 101]⟩, .string ⟨#[117, 112]⟩, .string ⟨#[115, 116, 111, 114, 101, 114, 97, 110, 103, 101]⟩, .string ⟨#[108, 111, 97, 100, 114, 97, 110, 103, 101]⟩, .string ⟨#[108, 111, 110, 103, 105]⟩, .string ⟨#[112, 108, 97, 110, 101, 115]⟩, .string ⟨#[112, 97, 116, 116, 101, 114, 110]⟩, .string ⟨#[112, 105, 116, 99, 104]⟩]
def strV (l : List UInt8) : Value := .string ⟨l.toArray⟩
theorem wordCells_eq : wordCells = ((wds.drop 1).map strV).toArray := by kernel_rfl
theorem wordCells_at (op : Nat) (h1 : 1 ≤ op) (h2 : op ≤ 51) : wordCells[op - 1]? = some (strV (wdL op)) := by
  rw [wordCells_eq]
  have hl : (wds.drop 1).length = 51 := by decide +kernel
  have hl2 : wds.length = 52 := by decide +kernel
  simp only [List.getElem?_toArray, List.getElem?_map, List.getElem?_drop]
  rw [show 1 + (op - 1) = op by omega, List.getElem?_eq_getElem (by omega)]
  unfold wdL
  rw [List.getD_eq_getElem?_getD, List.getElem?_eq_getElem (by omega)]
  rfl
theorem wdL_size : ∀ op : Fin 52, (wdL op.val).length ≤ 10 := by decide +kernel
set_option maxRecDepth 100000 in
set_option maxHeartbeats 4000000 in
theorem rword_any (op : Nat) (h1 : 1 ≤ op) (h2 : op ≤ 51) (w : World) : Calls Tryz.prog 43 #[.int .i64 (op : Int)] w fun e w' => e = .returned (strV (wdL op)) ∧ Below w.heap.size w w' := by
  have hc := (Blk.new w 9 wordCells).cell (op - 1)
  rw [wordCells_at op h1 h2] at hc
  have B := Lib.hid ((Below.refl w.heap.size w).alloc (Nat.le_refl _) (.cells wordCells 9))
  obtain ⟨V, hV⟩ : ∃ V, V = w.alloc (.cells wordCells 9) := ⟨_, rfl⟩
  rw [← hV] at hc B
  have HC := Lib.hid hc
  have HV := Lib.hid hV
  clear hc hV
  unfold strV at *
  generalize wdL op = W at *
  have hn : ((op : Int) - 1).toNat = op - 1 := by omega
  have i1 : (op : Int) - 1 < 51 := by omega
  have i0 : 0 ≤ (op : Int) - 1 := by omega
  go_enter Tryz.func43, Tryz.ntmps43
  go_upto_region 2 with fail
  rw [show w.alloc (.cells #[.string ⟨#[99, 108, 101, 97, 114]⟩, .string ⟨#[114, 101, 116, 117, 114, 110]⟩, .string ⟨#[106, 117, 109, 112]⟩, .string ⟨#[99, 97, 108, 108]⟩, .string ⟨#[115, 107, 105, 112, 46, 101, 113]⟩, .string ⟨#[115, 107, 105, 112, 46, 110, 101]⟩, .string ⟨#[115, 107, 105, 112, 46, 101, 113, 118]⟩, .string ⟨#[115, 101, 116]⟩, .string ⟨#[97, 100, 100]⟩, .string ⟨#[109, 111, 118, 101]⟩, .string ⟨#[111, 114]⟩, .string ⟨#[97, 110, 100]⟩, .string ⟨#[120, 111, 114]⟩, .string ⟨#[97, 100, 100, 118]⟩, .string ⟨#[115, 117, 98]⟩, .string ⟨#[115, 104, 114]⟩, .string ⟨#[115, 117, 98, 110]⟩, .string ⟨#[115, 104, 108]⟩, .string ⟨#[115, 107, 105, 112, 46, 110, 101, 118]⟩, .string ⟨#[115, 101, 116, 105]⟩, .string ⟨#[106, 117, 109, 112, 97, 100, 100]⟩, .string ⟨#[114, 97, 110, 100, 111, 109]⟩, .string ⟨#[100, 114, 97, 119]⟩, .string ⟨#[115, 107, 105, 112, 46, 107, 101, 121]⟩, .string ⟨#[115, 107, 105, 112, 46, 110, 111, 107, 101, 121]⟩, .string ⟨#[103, 101, 116, 100, 101, 108, 97, 121]⟩, .string ⟨#[119, 97, 105, 116, 107, 101, 121]⟩, .string ⟨#[115, 101, 116, 100, 101, 108, 97, 121]⟩, .string ⟨#[115, 101, 116, 115, 111, 117, 110, 100]⟩, .string ⟨#[97, 100, 100, 105]⟩, .string ⟨#[103, 108, 121, 112, 104]⟩, .string ⟨#[100, 101, 99, 105, 109, 97, 108]⟩, .string ⟨#[115, 116, 111, 114, 101]⟩, .string ⟨#[108, 111, 97, 100]⟩, .string ⟨#[100, 111, 119, 110]⟩, .string ⟨#[114, 105, 103, 104, 116]⟩, .string ⟨#[108, 101, 102, 116]⟩, .string ⟨#[101, 120, 105, 116]⟩, .string ⟨#[108, 111, 114, 101, 115]⟩, .string ⟨#[104, 105, 114, 101, 115]⟩, .string ⟨#[100, 114, 97, 119, 98, 105, 103]⟩, .string ⟨#[98, 105, 103, 103, 108, 121, 112, 104]⟩, .string ⟨#[115, 97, 118, 101]⟩, .string ⟨#[114, 101, 115, 116, 111, 114, 101]⟩, .string ⟨#[117, 112]⟩, .string ⟨#[115, 116, 111, 114, 101, 114, 97, 110, 103, 101]⟩, .string ⟨#[108, 111, 97, 100, 114, 97, 110, 103, 101]⟩, .string ⟨#[108, 111, 110, 103, 105]⟩, .string ⟨#[112, 108, 97, 110, 101, 115]⟩, .string ⟨#[112, 97, 116, 116, 101, 114, 110]⟩, .string ⟨#[112, 105, 116, 99, 104]⟩] 9) = V from HV.out.symm]
  have hc := HC.out
  go_wp2
  go_ret
  exact ⟨rfl, B.out⟩
end Go.Proofs.YthfiaemdpfffcaaGreatDoor
/- The reference's lists of Ops of layer 15. -/
namespace Go.Proofs.YthfiaemdpfffcaaGreatDoor
open Go.RowKit Num Dec
set_option linter.unusedVariables false
set_option linter.unusedSimpArgs false

set_option maxHeartbeats 1000000 in
theorem in15_any (n : Int) (L : List Int) (b m c : Nat) (w : World) (hm : L.length = m) (hL : m ≤ 100) (hc : ∀ k (h : k < L.length), w.cell? ⟨b, k, none⟩ = some (.int .i64 L[k])) :
    Calls Tryz.prog 44 #[.int .i64 n, .slice (some ⟨b, 0, none⟩) m c] w fun e w' => e = .returned (.bool (inB n L)) ∧ w = w' := by
  have HC := Lib.hid hc
  have HM := Lib.hid hm
  clear hc hm
  go_enter Tryz.func44, Tryz.ntmps44
  go_wp2
  go_loop [5] (fun i => ∃ k : Nat, k ≤ m ∧ i = .int .i64 (k : Int) ∧ InAt n L k) (fun i => m - (intOf i).toNat)
  case atStart => exact ⟨0, Nat.zero_le _, rfl, rfl⟩
  case round =>
    obtain ⟨k, hk, rfl, ht⟩ := hrel
    have HT := Lib.hid ht
    clear ht
    by_cases hlt : k < m
    · have h2 : k < L.length := by have := HM.out; omega
      obtain ⟨v, hv⟩ : ∃ v, L[k] = v := ⟨_, rfl⟩
      have c0 := HC.out k h2
      rw [hv] at c0
      by_cases he : v = n
      · have E := Lib.hid (show inB n L = true by rw [show inB n L = inB n (L.drop k) from HT.out]; exact inB_hit n L k h2 (hv.trans he))
        subst he
        clear hv h2
        go_wp2
        go_ret
        exact ⟨by rw [E.out]; rfl, rfl⟩
      · have E := Lib.hid (show InAt n L (k + 1) from (show inB n L = inB n (L.drop k) from HT.out).trans (inB_step n L k h2 (by rw [hv]; exact he)))
        have he' : (v == n) = false := by simpa using he
        clear hv h2
        go_wp2
        exact ⟨⟨k + 1, by omega, rfl, E.out⟩, by simp [intOf]; omega⟩
    · have E := Lib.hid (show inB n L = false by rw [show inB n L = inB n (L.drop k) from HT.out]; exact inB_end n L k (by have := HM.out; omega))
      go_wp2
      go_ret
      exact ⟨by rw [E.out]; rfl, rfl⟩
theorem TX_len : TX.length = 35 := rfl
theorem TX_cells : (#[.int .i64 5, .int .i64 6, .int .i64 7, .int .i64 8, .int .i64 9, .int .i64 10, .int .i64 11, .int .i64 12, .int .i64 13, .int .i64 14, .int .i64 15, .int .i64 16, .int .i64 17, .int .i64 18, .int .i64 19, .int .i64 22, .int .i64 23, .int .i64 24, .int .i64 25, .int .i64 26, .int .i64 27, .int .i64 28, .int .i64 29, .int .i64 30, .int .i64 31, .int .i64 32, .int .i64 33, .int .i64 34, .int .i64 41, .int .i64 42, .int .i64 43, .int .i64 44, .int .i64 46, .int .i64 47, .int .i64 51] : Array Value) = (TX.map (Value.int .i64)).toArray := by kernel_rfl
theorem TY_len : TY.length = 15 := rfl
theorem TY_cells : (#[.int .i64 7, .int .i64 10, .int .i64 11, .int .i64 12, .int .i64 13, .int .i64 14, .int .i64 15, .int .i64 16, .int .i64 17, .int .i64 18, .int .i64 19, .int .i64 23, .int .i64 41, .int .i64 46, .int .i64 47] : Array Value) = (TY.map (Value.int .i64)).toArray := by kernel_rfl
theorem TN_len : TN.length = 4 := rfl
theorem TN_cells : (#[.int .i64 23, .int .i64 35, .int .i64 45, .int .i64 49] : Array Value) = (TN.map (Value.int .i64)).toArray := by kernel_rfl
theorem TNN_len : TNN.length = 5 := rfl
theorem TNN_cells : (#[.int .i64 5, .int .i64 6, .int .i64 8, .int .i64 9, .int .i64 22] : Array Value) = (TNN.map (Value.int .i64)).toArray := by kernel_rfl
theorem TA_len : TA.length = 4 := rfl
theorem TA_cells : (#[.int .i64 3, .int .i64 4, .int .i64 20, .int .i64 21] : Array Value) = (TA.map (Value.int .i64)).toArray := by kernel_rfl
/-- A string of bytes. -/
theorem strV_append (a b : List UInt8) : (⟨a.toArray⟩ : ByteArray) ++ ⟨b.toArray⟩ = ⟨(a ++ b).toArray⟩ := by
  apply ByteArray.ext
  simp [ByteArray.data_append]
end Go.Proofs.YthfiaemdpfffcaaGreatDoor
