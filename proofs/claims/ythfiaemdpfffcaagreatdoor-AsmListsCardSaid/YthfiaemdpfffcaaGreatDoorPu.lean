/- Numbers of base 16, as a reader of any text takes them. Nothing of the program. -/
import Derived.Test.YthfiaemdpfffcaaGreatDoorHexNum
import Derived.Test.YthfiaemdpfffcaaGreatDoorRow
import Derived.Lib.Strings
import Derived.Lib.Walk
import Derived.Lib.ConvBytes
import Derived.Lib.AtoiAllMem
import Derived.Lib.Hide
import Derived.Laws.Strings3
import Derived.Laws.Closers25
import Derived.Laws.Closers25b
import Derived.WalkKit
import Derived.BigCall
import Derived.BigGuard
import Derived.Test.YthfiaemdpfffcaaGreatDoorAsmSyn
import Derived.Test.YthfiaemdpfffcaaGreatDoorHex
import Derived.Lib.BufferWrite
import Derived.Lib.UnsafeStr
import Derived.Laws.MakeOwn
import Derived.Lib.IfaceEq
import Derived.Lib.AtoiErrMem
import Derived.Deep.RegionWith
import Derived.RegionTactic
namespace Go.Proofs.YthfiaemdpfffcaaGreatDoor.Num
set_option linter.unusedVariables false

/-- The value of a digit: capital letters and small ones. -/
def dgV (c : Nat) : Option Nat := if 48 ≤ c ∧ c ≤ 57 then some (c - 48) else if 97 ≤ c ||| 32 ∧ c ||| 32 ≤ 102 then some ((c ||| 32) - 87) else none
/-- The number of a row of digits, as long as it does not pass 2^64 - 1. -/
def val16 : Nat → List UInt8 → Option Nat
  | acc, [] => some acc
  | acc, c :: cs => match dgV c.toNat with
    | none => none
    | some d => if 1152921504606846976 ≤ acc then none else val16 (acc * 16 + d) cs
theorem val16_none {acc : Nat} {c : UInt8} {cs : List UInt8} (h : dgV c.toNat = none) : val16 acc (c :: cs) = none := by
  unfold val16
  rw [h]
theorem val16_some {acc d : Nat} {c : UInt8} {cs : List UInt8} (h : dgV c.toNat = some d) (ha : acc < 1152921504606846976) : val16 acc (c :: cs) = val16 (acc * 16 + d) cs := by
  rw [show val16 acc (c :: cs) = (match dgV c.toNat with | none => none | some d => if 1152921504606846976 ≤ acc then none else val16 (acc * 16 + d) cs) from rfl, h]
  simp only
  rw [if_neg (by omega)]
theorem val16_great {acc d : Nat} {c : UInt8} {cs : List UInt8} (h : dgV c.toNat = some d) (ha : 1152921504606846976 ≤ acc) : val16 acc (c :: cs) = none := by
  rw [show val16 acc (c :: cs) = (match dgV c.toNat with | none => none | some d => if 1152921504606846976 ≤ acc then none else val16 (acc * 16 + d) cs) from rfl, h]
  simp only
  rw [if_pos ha]
theorem dgV_hex : ∀ d : Fin 16, dgV (hexByte d.val).toNat = some d.val := by decide
theorem val16_hex : ∀ (K N acc : Nat), (acc + 1) * 16 ^ K ≤ 4294967296 → val16 acc (hexL N K) = some (acc * 16 ^ K + N % 16 ^ K)
  | 0, N, acc, _ => by simp [hexL, val16, Nat.mod_one]
  | K + 1, N, acc, ha => by
    have p0 : 1 ≤ 16 ^ K := Nat.pos_of_ne_zero (by simp)
    have hp : 16 ^ (K + 1) = 16 ^ K * 16 := Nat.pow_succ _ _
    have hd : N / 16 ^ K % 16 < 16 := Nat.mod_lt _ (by omega)
    have hs : acc + 1 ≤ 4294967296 := Nat.le_trans (Nat.le_mul_of_pos_right _ (by rw [hp]; omega)) ha
    rw [hexL_cons, val16_some (dgV_hex ⟨N / 16 ^ K % 16, hd⟩) (by omega), hp, Nat.mod_mul]
    rw [hp] at ha
    generalize hdd : N / 16 ^ K % 16 = d at *
    have hm : (acc + 1) * (16 ^ K * 16) = ((acc + 1) * 16) * 16 ^ K := by rw [Nat.mul_comm (16 ^ K) 16, ← Nat.mul_assoc]
    have hle : (acc * 16 + d + 1) * 16 ^ K ≤ ((acc + 1) * 16) * 16 ^ K := Nat.mul_le_mul_right _ (by omega)
    rw [val16_hex K N (acc * 16 + d) (by omega)]
    congr 1
    rw [Nat.add_mul, Nat.mul_comm (16 ^ K) 16, ← Nat.mul_assoc, Nat.mul_comm d]
    omega
theorem val16_text (K N : Nat) (hK : K ≤ 8) : val16 0 (hexL N K) = some (N % 16 ^ K) := by
  rw [val16_hex K N 0 (by have : 16 ^ K ≤ 16 ^ 8 := Nat.pow_le_pow_right (by omega) hK; omega)]
  simp
/-- The number that has these bytes as its k digits. -/
def IsNum (s : List UInt8) (k n : Nat) : Prop := n < 16 ^ k ∧ s = hexL n k
theorem IsNum.eq {s : List UInt8} {k n m : Nat} (h : IsNum s k n) (g : IsNum s k m) : n = m := by
  have := hexL_inj k n m (h.2.symm.trans g.2)
  rwa [Nat.mod_eq_of_lt h.1, Nat.mod_eq_of_lt g.1] at this
theorem IsNum.val {s : List UInt8} {k n : Nat} (h : IsNum s k n) (hk : k ≤ 8) : val16 0 s = some n := by
  rw [h.2, val16_text k n hk, Nat.mod_eq_of_lt h.1]
open Classical in
/-- It, and whether there is one. -/
noncomputable def numO (s : List UInt8) (k : Nat) : Option Nat := if h : ∃ n, IsNum s k n then some h.choose else none
theorem numO_some {s : List UInt8} {k n : Nat} (h : IsNum s k n) : numO s k = some n := by
  unfold numO
  rw [dif_pos ⟨n, h⟩]
  exact congrArg some (IsNum.eq (Exists.choose_spec (⟨n, h⟩ : ∃ n, IsNum s k n)) h)
theorem numO_none {s : List UInt8} {k : Nat} (h : ∀ n, ¬ IsNum s k n) : numO s k = none := by
  unfold numO
  rw [dif_neg (fun ⟨n, hn⟩ => h n hn)]
theorem numO_is {s : List UInt8} {k n : Nat} (h : numO s k = some n) : IsNum s k n := by
  by_cases c : ∃ m, IsNum s k m
  · obtain ⟨m, hm⟩ := c
    rw [numO_some hm] at h
    cases h
    exact hm
  · rw [numO_none (fun m hm => c ⟨m, hm⟩)] at h
    cases h
end Go.Proofs.YthfiaemdpfffcaaGreatDoor.Num
/- internal/strconv.ParseUint for base 16 and 64 bits, at every text. -/
namespace Go.Proofs.YthfiaemdpfffcaaGreatDoor
open Go.RowKit Num
set_option linter.unusedVariables false
set_option linter.unusedSimpArgs false

theorem lower_any (c : Int) (w : World) : Calls Tryz.prog 79 #[.int .u8 c] w fun e w' => e = .returned (.int .u8 (bits .or .u8 c 32)) ∧ w' = w := by
  go_enter Tryz.func79, Tryz.ntmps79
  go_wp2
  go_ret
  exact ⟨rfl, rfl⟩
theorem lower_nat (c m : Nat) (hc : c < 256) (hm : c ||| 32 = m) (w : World) : Calls Tryz.prog 79 #[.int .u8 (c : Int)] w fun e w' => e = .returned (.int .u8 (m : Int)) ∧ w' = w :=
  (lower_any c w).mono fun e w' ⟨h, k⟩ => ⟨by rw [h, show bits .or .u8 (c : Int) 32 = ((c ||| 32 : Nat) : Int) from (bits_nat .u8 8 (by decide) wraps_u8 c 32 hc (by omega)).2, hm], k⟩

/-- What the reader hands back. -/
def PuOut (v : Option Nat) (e : Ending) : Prop := match v with
  | some n => e = .returned (.tuple #[.int .u64 (n : Int), .nilIface]) ∧ n < 18446744073709551616
  | none => ∃ (u q : Int), e = .returned (.tuple #[.int .u64 u, .iface 101 (.int .i64 q)]) ∧ (q = 1 ∨ q = 2)

theorem PuOut.ok {n : Nat} (h : n < 18446744073709551616) : PuOut (some n) (.returned (.tuple #[.int .u64 (n : Int), .nilIface])) := ⟨rfl, h⟩
theorem PuOut.bad (u q : Int) (h : q = 1 ∨ q = 2) : PuOut none (.returned (.tuple #[.int .u64 u, .iface 101 (.int .i64 q)])) := ⟨u, q, rfl, h⟩

set_option maxHeartbeats 32000000 in
set_option maxRecDepth 100000 in
/-- A text that is not empty. -/
theorem ipu_any (t : ByteArray) (hne : t.size ≠ 0) (hmax : t.size ≤ 9223372036854775806) (w : World) :
    Calls Tryz.prog 76 #[.string t, .int .i64 16, .int .i64 64] w fun e w' => PuOut (val16 0 t.data.toList) e ∧ w' = Lib.bytesWorld w 5 t := by
  have hemp : t.toList.isEmpty = false := by
    rw [← decide_eq_emptyBytes]
    exact decide_eq_false (fun h => hne (by rw [h]; rfl))
  have hcv := Lib.run_convert_string_bytes (P := Tryz.prog) w 9 22 5 t (u := .string) Tryz.underlying9 Tryz.underlying22 Tryz.underlying5
  have hB : ∀ j, j < t.size → (Lib.bytesWorld w 5 t).cell? ⟨w.heap.size, j, none⟩ = some (.int .u8 (t.data.toList.getD j 0).toNat) := fun j hj => Lib.bytesWorld_cell w 5 t j hj
  obtain ⟨W1, hW1⟩ : ∃ W1, W1 = Lib.bytesWorld w 5 t := ⟨_, rfl⟩
  rw [← hW1] at hcv hB ⊢
  clear hW1
  obtain ⟨bs, hL⟩ : ∃ bs, bs = t.data.toList := ⟨_, rfl⟩
  have hLn : bs.length = t.size := by rw [hL, Lib.size_eq]
  rw [← hL] at hB ⊢
  clear hL
  have hmv : IntKind.u64.wrap (IntKind.u64.wrap 18446744073709551616 - 1) = 18446744073709551615 := by
    rw [IntKind.wrap_u64, IntKind.wrap_u64]
    decide
  go_enter Tryz.func76, Tryz.ntmps76
  go_wp2
  go_loop [12, 13, 101] (fun vu vn vi => ∃ (k acc : Nat) (a : Int), vu = .bool false ∧ vn = .int .u64 a ∧ vi = .int .i64 k ∧ k ≤ t.size ∧ Hid (a = (acc : Int) ∧ acc < 18446744073709551616 ∧ val16 0 bs = val16 acc (bs.drop k)))
    (fun _ _ vi => t.size - (intOf vi).toNat)
  case atStart => exact ⟨0, 0, 0, rfl, rfl, rfl, by omega, Lib.hid ⟨by omega, by omega, rfl⟩⟩
  case round =>
    obtain ⟨k, acc, a, rfl, rfl, rfl, hk, hh⟩ := hrel
    obtain ⟨ha, hacc, hdec⟩ := hh.out
    clear hh
    have a0 : 0 ≤ a := by omega
    have a1 : a < 18446744073709551616 := by omega
    by_cases hkn : k < t.size
    · have hc := hB k hkn
      have hdrop : bs.drop k = bs[k]'(by omega) :: bs.drop (k + 1) := List.drop_eq_getElem_cons (by omega)
      have hget : bs.getD k 0 = bs[k]'(by omega) := by simp [List.getD, List.getElem?_eq_getElem (show k < bs.length by omega)]
      rw [hdrop] at hdec
      rw [hget] at hc
      generalize bs[k]'(by omega) = c at hc hdec
      have hc256 : c.toNat < 256 := c.toNat_lt
      clear hB hdrop hget
      by_cases hdig : 48 ≤ c.toNat ∧ c.toNat ≤ 57
      · have hF : dgV c.toNat = some (c.toNat - 48) := by unfold dgV; rw [if_pos hdig]
        obtain ⟨hd0, hd1⟩ := hdig
        by_cases hcut : 1152921504606846976 ≤ acc
        · have HD := Lib.hid (hdec.trans (val16_great hF hcut))
          have icut : 1152921504606846976 ≤ a := by omega
          clear hcut hacc hF ha hdec
          generalize c.toNat = cn at *
          go_wp2
          go_ret2
          exact ⟨by rw [HD.out]; exact PuOut.bad _ _ (by decide), rfl⟩
        · have HN : Hid (a * 16 + ((c.toNat : Int) - 48) = ((acc * 16 + (c.toNat - 48) : Nat) : Int) ∧ acc * 16 + (c.toNat - 48) < 18446744073709551616 ∧ val16 0 bs = val16 (acc * 16 + (c.toNat - 48)) (bs.drop (k + 1))) := Lib.hid ⟨by omega, by omega, hdec.trans (val16_some hF (by omega))⟩
          have icut : a < 1152921504606846976 := by omega
          have iov : a * 16 + ((c.toNat : Int) - 48) < 18446744073709551616 := by omega
          clear hcut hacc hF hdec ha
          generalize c.toNat = cn at *
          go_wp2
          refine ⟨⟨k + 1, acc * 16 + (cn - 48), a * 16 + ((cn : Int) - 48), rfl, (by first | rfl | (congr 1; omega)), (by first | rfl | (congr 1; omega)), by omega, HN⟩, by simp [intOf]; omega⟩
      · obtain ⟨m, hm⟩ : ∃ m, c.toNat ||| 32 = m := ⟨_, rfl⟩
        have hm256 : m < 256 := by rw [← hm]; exact Nat.or_lt_two_pow (n := 8) hc256 (by decide)
        have LW := Lib.hid (fun w => lower_nat c.toNat m hc256 hm w)
        by_cases hlet : 97 ≤ m ∧ m ≤ 102
        · have hF : dgV c.toNat = some (m - 87) := by unfold dgV; rw [if_neg hdig, hm, if_pos hlet]
          obtain ⟨hl0, hl1⟩ := hlet
          have hdig' : (c.toNat : Int) < 48 ∨ 57 < (c.toNat : Int) := by omega
          have h95 : ¬ (c.toNat : Int) = 95 := fun h => by
            have h2 : c.toNat = 95 := by omega
            rw [h2] at hm
            have : (95 : Nat) ||| 32 = 127 := by decide
            omega
          clear hdig hm
          by_cases hcut : 1152921504606846976 ≤ acc
          · have HD := Lib.hid (hdec.trans (val16_great hF hcut))
            have icut : 1152921504606846976 ≤ a := by omega
            clear hcut hacc hF ha hdec
            generalize c.toNat = cn at *
            rcases hdig' with hdig' | hdig'
            all_goals
              go_wp2_with (go_at_call 79; refine (LW.out _).mono ?_; rintro e w' ⟨rfl, rfl⟩)
              go_ret2
              exact ⟨by rw [HD.out]; exact PuOut.bad _ _ (by decide), rfl⟩
          · have HN : Hid (a * 16 + ((m : Int) - 97 + 10) = ((acc * 16 + (m - 87) : Nat) : Int) ∧ acc * 16 + (m - 87) < 18446744073709551616 ∧ val16 0 bs = val16 (acc * 16 + (m - 87)) (bs.drop (k + 1))) := Lib.hid ⟨by omega, by omega, hdec.trans (val16_some hF (by omega))⟩
            have icut : a < 1152921504606846976 := by omega
            have iov : a * 16 + ((m : Int) - 97 + 10) < 18446744073709551616 := by omega
            clear hcut hacc hF hdec ha
            generalize c.toNat = cn at *
            rcases hdig' with hdig' | hdig'
            all_goals
              go_wp2_with (go_at_call 79; refine (LW.out _).mono ?_; rintro e w' ⟨rfl, rfl⟩)
              refine ⟨⟨k + 1, acc * 16 + (m - 87), a * 16 + ((m : Int) - 97 + 10), rfl, (by first | rfl | (congr 1; omega)), (by first | rfl | (congr 1; omega)), by omega, HN⟩, by simp [intOf]; omega⟩
        · have hF : dgV c.toNat = none := by unfold dgV; rw [if_neg hdig, hm, if_neg hlet]
          have HD := Lib.hid (hdec.trans (val16_none hF))
          have hdig' : (c.toNat : Int) < 48 ∨ 57 < (c.toNat : Int) := by omega
          have hlet' : (m : Int) < 97 ∨ (102 < (m : Int) ∧ (m : Int) ≤ 122) ∨ 122 < (m : Int) := by omega
          clear hacc hF ha hdec hdig hlet
          generalize c.toNat = cn at *
          by_cases h95 : cn = 95
          · subst h95
            clear LW hm hlet' hdig'
            have LW := Lib.hid (fun w => lower_nat 95 127 (by decide) (by decide) w)
            go_wp2_with (go_at_call 79; refine (LW.out _).mono ?_; rintro e w' ⟨rfl, rfl⟩)
            go_ret2
            exact ⟨by rw [HD.out]; exact PuOut.bad _ _ (by decide), rfl⟩
          · have h95' : ¬ (cn : Int) = 95 := by omega
            clear h95 hm
            rcases hdig' with hdig' | hdig' <;> rcases hlet' with hlet' | ⟨hl1, hl2⟩ | hlet'
            all_goals
              go_wp2_with (go_at_call 79; refine (LW.out _).mono ?_; rintro e w' ⟨rfl, rfl⟩)
              go_ret2
              exact ⟨by rw [HD.out]; exact PuOut.bad _ _ (by decide), rfl⟩
    · have hkk : k = t.size := by omega
      subst hkk
      have hF : val16 acc (bs.drop t.size) = some acc := by rw [List.drop_eq_nil_of_le (by omega)]; rfl
      rw [hF] at hdec
      subst ha
      have HD := Lib.hid (And.intro hdec hacc)
      clear hacc hF a0 a1 hdec
      go_wp2
      go_ret2
      exact ⟨by rw [HD.out.1]; exact PuOut.ok HD.out.2, rfl⟩
end Go.Proofs.YthfiaemdpfffcaaGreatDoor
/- strconv.ParseUint for base 16 and 64 bits, at every text, and what package asm makes of it. -/
namespace Go.Proofs.YthfiaemdpfffcaaGreatDoor
open Go.RowKit Num Dec
set_option linter.unusedVariables false
set_option linter.unusedSimpArgs false

set_option maxHeartbeats 4000000 in
set_option maxRecDepth 100000 in
theorem sclone_text (s : ByteArray) (w : World) (hlim : s.size ≤ 281474976710656) :
    Calls Tryz.prog 85 #[.string s] w fun e w' => e = .returned (.string s) ∧ Below w.heap.size w w' := by
  by_cases h0 : s.size = 0
  · have hs : s = ⟨#[]⟩ := by
      apply ByteArray.ext
      exact Array.eq_empty_of_size_eq_zero h0
    subst hs
    go_enter Tryz.func85, Tryz.ntmps85
    go_wp2
    go_ret
    exact ⟨rfl, Below.refl _ _⟩
  · obtain ⟨i0, hi, hz0, hz1, hz2⟩ := info_parts (show (Tryz.prog.info? 5).map (fun i => (i.zero, i.size, i.bytes)) = some (some (Value.int .u8 0), 1, 1) by kernel_rfl)
    have hinfo : (Tryz.prog.info? 5).map (·.size) = some 1 := by rw [hi]; simp [hz1]
    have hco : Tryz.prog.cellsOf 5 = 1 := by simp [Program.cellsOf, hi, hz1]
    obtain ⟨M, hM⟩ : ∃ M, M = madeCells (Value.int .u8 0).cells (((s.size : Nat) : Int).toNat * i0.size) := ⟨_, rfl⟩
    have hMs : M.size = s.size := by rw [hM, size_madeCells, hz1]; simp
    have hmk : ∀ W : World, (Instr.makeSlice 22 (.int .i64 (s.size : Int)) (.int .i64 (s.size : Int))).run Tryz.prog W = .ok (.slice (some ⟨W.heap.size, 0, none⟩) s.size s.size) (W.alloc (.cells M 5)) := fun W => by
      have h := run_make (P := Tryz.prog) W 22 5 i0 (.int .u8 0) Tryz.underlying22 hi hz0 .i64 .i64 (s.size : Int) (s.size : Int) (by omega) (by omega) (by rw [hz2]; omega) (by omega)
      rw [← hM] at h
      simpa using h
    clear hM
    have hcp := Lib.run_copy_row_string (P := Tryz.prog) (w.alloc (.cells M 5)) 22 9 3 5 w.heap.size 0 s.size s.size s M 5 Tryz.underlying22 hinfo (heap_alloc_new w _) (Nat.le_refl _) (by omega)
    obtain ⟨Y, hY⟩ : ∃ Y, Y = (M.toList.take 0 ++ Lib.byteCells s.data.toList ++ M.toList.drop (0 + s.size)).toArray := ⟨_, rfl⟩
    rw [← hY] at hcp
    have hYl : Y.toList = Lib.byteCells s.data.toList := by
      rw [hY, List.toList_toArray, List.take_zero, List.nil_append, List.drop_of_length_le (by rw [Array.length_toList]; omega), List.append_nil]
    have hYs : Y.size = s.size := by rw [← Array.length_toList, hYl, Lib.byteCells_length, ← Lib.size_eq]
    have hgY : ((w.alloc (.cells M 5)).setRow w.heap.size Y).heap[w.heap.size]? = some (.cells Y 5 (0, 0)) := setRow_heap _ _ M _ 5 (0, 0) (heap_alloc_new w _)
    have hne : s.data.toList ≠ [] := fun e => h0 (by rw [Lib.size_eq, e]; rfl)
    have hUS := Lib.run_unsafeString_row (P := Tryz.prog) ((w.alloc (.cells M 5)).setRow w.heap.size Y) 111 3 9 5 Tryz.underlying111 hco w.heap.size Y.size (by unfold World.shape?; rw [hgY]) s.data.toList hne (by rw [← Lib.size_eq]; omega) (by rw [← Lib.size_eq]; omega)
      (fun j x hx => Lib.cells_of_row hgY Y.size j _ (by rw [List.take_of_length_le (by rw [Array.length_toList]; exact Nat.le_refl _), hYl]; simp [Lib.byteCells, hx]))
    rw [← Lib.size_eq] at hUS
    clear hY
    go_enter Tryz.func85, Tryz.ntmps85
    go_wp2
    go_ret
    have hb1 : Below w.heap.size w (w.alloc (.cells M 5)) := (Below.refl _ w).alloc (Nat.le_refl _) _
    have hb2 : Below w.heap.size (w.alloc (.cells M 5)) ((w.alloc (.cells M 5)).setRow w.heap.size Y) := ⟨rfl, rfl, rfl, by simp, fun k hk => setRow_other _ _ _ _ (by omega)⟩
    exact ⟨rfl, Lib.below_freeze (hb1.trans hb2) (p := ⟨w.heap.size, 0, none⟩) (Nat.le_refl _) _⟩

/-- A new error comes back. -/
def NewErr (w : World) (e : Ending) (w' : World) : Prop := ∃ N : Nat, e = .returned (.pointer (some ⟨N, 0, none⟩)) ∧ Below w.heap.size w w'
set_option maxHeartbeats 6400000 in
set_option maxRecDepth 100000 in
theorem syntaxError_any (fn s : ByteArray) (w : World) (hlim : s.size ≤ 281474976710656) (hL : AL w) :
    Calls Tryz.prog 81 #[.string fn, .string s] w (NewErr w) := by
  obtain ⟨te, pe, hv⟩ := hL.esyn
  have hG : 2 < w.heap.size := hL.lt.2.2.1
  have hvd : w.drew.cell? ⟨2, 0, none⟩ = some _ := hv
  go_enter Tryz.func81, Tryz.ntmps81
  go_wp2_with fail
  go_region_with (
    go_at_call 85
    refine (sclone_text s _ hlim).mono ?_
    rintro e w2 ⟨rfl, hbel⟩
    have hv2 : w2.cell? ⟨2, 0, none⟩ = some _ := (hbel.cell (show (⟨2, 0, none⟩ : Addr).block < w.drew.heap.size from hG)).trans hvd)
  all_goals (
    go_wp2
    go_ret
    have hs2 : w.heap.size ≤ w2.heap.size := hbel.size
    exact ⟨_, rfl, ((Below.drew (Below.refl _ w)).trans hbel).alloc hs2 _⟩)
set_option maxHeartbeats 6400000 in
set_option maxRecDepth 100000 in
theorem rangeError_any (fn s : ByteArray) (w : World) (hlim : s.size ≤ 281474976710656) (hL : AL w) :
    Calls Tryz.prog 82 #[.string fn, .string s] w (NewErr w) := by
  obtain ⟨te, pe, hv⟩ := hL.erng
  have hG : 3 < w.heap.size := hL.lt.2.2.2
  have hvd : w.drew.cell? ⟨3, 0, none⟩ = some _ := hv
  go_enter Tryz.func82, Tryz.ntmps82
  go_wp2_with fail
  go_region_with (
    go_at_call 85
    refine (sclone_text s _ hlim).mono ?_
    rintro e w2 ⟨rfl, hbel⟩
    have hv2 : w2.cell? ⟨3, 0, none⟩ = some _ := (hbel.cell (show (⟨3, 0, none⟩ : Addr).block < w.drew.heap.size from hG)).trans hvd)
  all_goals (
    go_wp2
    go_ret
    have hs2 : w.heap.size ≤ w2.heap.size := hbel.size
    exact ⟨_, rfl, ((Below.drew (Below.refl _ w)).trans hbel).alloc hs2 _⟩)
/-- An error that is not nil. -/
def SomeErr (w : World) (e : Ending) (w' : World) : Prop := ∃ N : Nat, e = .returned (.iface 104 (.pointer (some ⟨N, 0, none⟩))) ∧ Below w.heap.size w w'
set_option maxHeartbeats 4000000 in
set_option maxRecDepth 100000 in
theorem toError_any (fn s : ByteArray) (base bits q : Int) (w : World) (hlim : s.size ≤ 281474976710656) (hL : AL w) (hq : q = 1 ∨ q = 2) :
    Calls Tryz.prog 77 #[.string fn, .string s, .int .i64 base, .int .i64 bits, .iface 101 (.int .i64 q)] w (SomeErr w) := by
  have heq : ∀ (a b : Int) W, (binOp .eql 94 (.iface 101 (.int .i64 a)) (.iface 101 (.int .i64 b))).run Tryz.prog W = .ok (.bool (a == b)) W := fun a b W => Lib.run_eql_iface_int W a b Tryz.underlying94 (by kernel_rfl) Tryz.underlying101
  rcases hq with rfl | rfl
  · go_enter Tryz.func77, Tryz.ntmps77
    go_wp2_with fail
    refine (rangeError_any fn s _ hlim hL).mono ?_
    rintro e w2 ⟨N, rfl, h3⟩
    go_wp2_with fail
    go_ret
    exact ⟨N, rfl, h3⟩
  · go_enter Tryz.func77, Tryz.ntmps77
    go_wp2_with fail
    refine (syntaxError_any fn s _ hlim hL).mono ?_
    rintro e w2 ⟨N, rfl, h3⟩
    go_wp2_with fail
    go_ret
    exact ⟨N, rfl, h3⟩
end Go.Proofs.YthfiaemdpfffcaaGreatDoor
/- strconv.ParseUint for base 16 and 64 bits, and the functions number and register of package asm. -/
namespace Go.Proofs.YthfiaemdpfffcaaGreatDoor
open Go.RowKit Num Dec
set_option linter.unusedVariables false
set_option linter.unusedSimpArgs false

/-- The number of a text that is not empty. -/
def valS (s : List UInt8) : Option Nat := if s = [] then none else val16 0 s
theorem isNum_valS {s : List UInt8} {k n : Nat} (h : IsNum s k n) (h0 : 1 ≤ k) (h1 : k ≤ 8) : valS s = some n := by
  unfold valS
  rw [if_neg (fun e => by have := h.2; rw [e] at this; have := congrArg List.length this; rw [hexL_len] at this; simp at this; omega)]
  exact h.val h1
/-- What the public reader hands back. -/
def PvOut (v : Option Nat) (w : World) (e : Ending) (w' : World) : Prop := Below w.heap.size w w' ∧ match v with
  | some n => e = .returned (.tuple #[.int .u64 (n : Int), .nilIface]) ∧ n < 18446744073709551616
  | none => ∃ (u : Int) (N : Nat), e = .returned (.tuple #[.int .u64 u, .iface 104 (.pointer (some ⟨N, 0, none⟩))])
set_option maxHeartbeats 4000000 in
set_option maxRecDepth 100000 in
theorem ipu_empty (w : World) : Calls Tryz.prog 76 #[.string ⟨#[]⟩, .int .i64 16, .int .i64 64] w fun e w' => e = .returned (.tuple #[.int .u64 0, .iface 101 (.int .i64 2)]) ∧ w = w' := by
  go_enter Tryz.func76, Tryz.ntmps76
  go_wp2
  go_ret2
  exact ⟨rfl, rfl⟩
theorem bytes_nil {t : ByteArray} (h : t.data.toList = []) : t = ⟨#[]⟩ := by
  apply ByteArray.ext
  exact Array.toList_eq_nil_iff.1 h
theorem ipu_all (t : ByteArray) (hmax : t.size ≤ 9223372036854775806) (w : World) :
    Calls Tryz.prog 76 #[.string t, .int .i64 16, .int .i64 64] w fun e w' => PuOut (valS t.data.toList) e ∧ Below w.heap.size w w' := by
  by_cases h : t.data.toList = []
  · rw [bytes_nil h]
    refine (ipu_empty w).mono ?_
    rintro e w' ⟨rfl, rfl⟩
    exact ⟨PuOut.bad _ _ (by decide), Below.refl _ _⟩
  · refine (ipu_any t (fun e => h (List.eq_nil_of_length_eq_zero (by rw [← Lib.size_eq]; exact e))) hmax w).mono ?_
    rintro e w' ⟨h1, rfl⟩
    refine ⟨?_, Lib.bytesWorld_below _ _ _⟩
    unfold valS
    rw [if_neg h]
    exact h1

set_option maxHeartbeats 4000000 in
set_option maxRecDepth 100000 in
theorem parseUint_any (t : ByteArray) (hlim : t.size ≤ 281474976710656) (w : World) (hL : AL w) :
    Calls Tryz.prog 63 #[.string t, .int .i64 16, .int .i64 64] w (PvOut (valS t.data.toList) w) := by
  have IP := Lib.hid (ipu_all t (by omega) w)
  have HL := Lib.hid hL
  generalize valS t.data.toList = v at IP ⊢
  clear hL
  go_enter Tryz.func63, Tryz.ntmps63
  go_wp2_with fail
  refine IP.out.mono ?_
  rintro e w1 ⟨h1, b1⟩
  have B1 := Lib.hid b1
  clear b1
  cases v with
  | some n =>
    obtain ⟨rfl, hn⟩ := h1
    have HN := Lib.hid hn
    clear hn
    go_wp2_with fail
    go_ret2
    exact ⟨B1.out, rfl, HN.out⟩
  | none =>
    obtain ⟨u, q, rfl, hq⟩ := h1
    have HQ := Lib.hid hq
    clear hq
    go_wp2_with fail
    refine (toError_any _ _ _ _ q _ hlim (HL.out.step B1.out) HQ.out).mono ?_
    rintro e w2 ⟨N, rfl, b2⟩
    have B2 := Lib.hid (B1.out.trans (b2.mono B1.out.size))
    clear b2
    go_wp2_with fail
    go_ret2
    exact ⟨B2.out, u, N, rfl⟩

/-- A number and whether there is one. -/
def numV : Option Nat → Value
  | some n => .tuple #[.int .i64 (n : Int), .bool true]
  | none => .tuple #[.int .i64 0, .bool false]
theorem toList_hex (n k : Nat) : (hexS n k).toList = hexL n k := by rw [ByteArray.toList_eq]; rfl

set_option maxHeartbeats 4000000 in
set_option maxRecDepth 100000 in
theorem number_any' (t : ByteArray) (k : Nat) (hk0 : 1 ≤ k) (hk1 : k ≤ 4) (hlim : t.size ≤ 281474976710656) (w : World) (hL : AL w) :
    Calls Tryz.prog 54 #[.string t, .int .i64 (k : Int)] w fun e w' => e = .returned (numV (numO t.data.toList k)) ∧ Below w.heap.size w w' := by
  have PP := Lib.hid (parseUint_any t hlim w hL)
  have T := Lib.hid (ByteArray.toList_eq (bs := t))
  clear hL
  obtain ⟨v, hv⟩ : ∃ v, valS t.data.toList = v := ⟨_, rfl⟩
  rw [hv] at PP
  have HV := Lib.hid hv
  clear hv hlim
  cases v with
  | none =>
    have F := Lib.hid (show numV (numO t.data.toList k) = .tuple #[.int .i64 0, .bool false] by
      rw [numO_none (fun n hn => by have := isNum_valS hn hk0 (by omega); rw [HV.out] at this; cases this)]
      rfl)
    clear hk0 hk1 HV
    go_enter Tryz.func54, Tryz.ntmps54
    go_wp2_with fail
    refine PP.out.mono ?_
    rintro e w1 ⟨b1, u, N, rfl⟩
    have B1 := Lib.hid b1
    clear b1
    go_wp2_with fail
    go_ret2
    exact ⟨by rw [F.out]; rfl, B1.out⟩
  | some n =>
    have hne : t.data.toList ≠ [] := fun e => by have := HV.out; unfold valS at this; rw [if_pos e] at this; cases this
    by_cases hb : n ≤ 4294967295
    · have HX := Lib.hid (fun w => hex_yes n k w hb hk0 (by omega))
      have hw : IntKind.i64.wrap (n : Int) = n := by rw [IntKind.wrap_i64]; omega
      by_cases hs : t.data.toList = hexL n k
      · have hn : n < 16 ^ k := by
          have h1 := HV.out
          unfold valS at h1
          rw [if_neg hne, hs, val16_text k n (by omega)] at h1
          injection h1 with h1
          rw [← h1]
          exact Nat.mod_lt _ (Nat.pos_of_ne_zero (by simp))
        have F := Lib.hid (show numV (numO t.data.toList k) = .tuple #[.int .i64 (n : Int), .bool true] by
          rw [numO_some ⟨hn, hs⟩]
          rfl)
        have heq : (t.toList == (hexS n k).toList) = true := by rw [T.out, toList_hex, hs]; simp
        clear hs hn hne HV T
        generalize hexS n k = X at HX heq
        clear hb hk0 hk1
        go_enter Tryz.func54, Tryz.ntmps54
        go_wp2_with fail
        refine PP.out.mono ?_
        rintro e w1 ⟨b1, rfl, hn64⟩
        have B1 := Lib.hid b1
        clear b1
        have hn64' : (n : Int) < 18446744073709551616 := by omega
        go_wp2_with fail
        refine (HX.out _).mono ?_
        rintro e w2 ⟨rfl, b2⟩
        have B2 := Lib.hid (B1.out.trans (b2.mono B1.out.size))
        clear b2
        go_wp2_with fail
        go_ret2
        exact ⟨by rw [F.out]; rfl, B2.out⟩
      · have F := Lib.hid (show numV (numO t.data.toList k) = .tuple #[.int .i64 0, .bool false] by
          rw [numO_none (fun m hm => by
            have h1 := isNum_valS hm hk0 (by omega)
            rw [HV.out] at h1
            injection h1 with h1
            subst h1
            exact hs hm.2)]
          rfl)
        have heq : (t.toList == (hexS n k).toList) = false := by rw [T.out, toList_hex]; simpa using hs
        clear hs hne HV T
        generalize hexS n k = X at HX heq
        clear hb hk0 hk1
        go_enter Tryz.func54, Tryz.ntmps54
        go_wp2_with fail
        refine PP.out.mono ?_
        rintro e w1 ⟨b1, rfl, hn64⟩
        have B1 := Lib.hid b1
        clear b1
        go_wp2_with fail
        refine (HX.out _).mono ?_
        rintro e w2 ⟨rfl, b2⟩
        have B2 := Lib.hid (B1.out.trans (b2.mono B1.out.size))
        clear b2
        go_wp2_with fail
        go_ret2
        exact ⟨by rw [F.out]; rfl, B2.out⟩
    · have F := Lib.hid (show numV (numO t.data.toList k) = .tuple #[.int .i64 0, .bool false] by
        rw [numO_none (fun m hm => by
          have h1 := isNum_valS hm hk0 (by omega)
          rw [HV.out] at h1
          injection h1 with h1
          subst h1
          have h2 := hm.1
          have h3 : 16 ^ k ≤ 16 ^ 4 := Nat.pow_le_pow_right (by omega) hk1
          omega)]
        rfl)
      have heq : t.toList.isEmpty = false := by
        rw [T.out]
        simpa using hne
      clear hne HV T
      go_enter Tryz.func54, Tryz.ntmps54
      go_wp2_with fail
      refine PP.out.mono ?_
      rintro e w1 ⟨b1, rfl, hn64⟩
      have B1 := Lib.hid b1
      clear b1
      obtain ⟨z, hz, hzb⟩ : ∃ z, IntKind.i64.wrap (n : Int) = z ∧ (z < 0 ∨ 4294967295 < z) := ⟨_, rfl, by rw [IntKind.wrap_i64]; omega⟩
      have HX := Lib.hid (fun w => hex_no z k w (by omega))
      clear hzb hb hk0 hk1
      go_wp2_with fail
      refine (HX.out _).mono ?_
      rintro e w2 ⟨rfl, rfl⟩
      go_wp2_with fail
      go_ret2
      exact ⟨by rw [F.out]; rfl, B1.out⟩

/-- strings.CutPrefix at the letter V. -/
theorem hasPrefix_any (s : ByteArray) (w : World) : Calls Tryz.prog 78 #[.string s, .string ⟨#[86]⟩] w fun e w' => e = .returned (.bool (decide (s.data.toList.head? = some 86))) ∧ w = w' := by
  by_cases h0 : s.size = 0
  · have hs : s = ⟨#[]⟩ := by
      apply ByteArray.ext
      exact Array.eq_empty_of_size_eq_zero h0
    subst hs
    go_enter Tryz.func78, Tryz.ntmps78
    go_wp2
    go_ret
    exact ⟨rfl, rfl⟩
  · obtain ⟨n, hn⟩ : ∃ n, s.size = n := ⟨_, rfl⟩
    have h1 : 1 ≤ n := by omega
    have hb : ((s.extract 0 1).toList == [86]) = decide (s.data.toList.head? = some 86) := by
      rw [ByteArray.toList_eq, ByteArray.data_extract]
      have hl : s.data.toList.length = n := by rw [← Lib.size_eq]; exact hn
      generalize hq : s.data.toList = L at *
      have hx : (s.data.extract 0 1).toList = L.take 1 := by rw [Array.toList_extract]; simp [hq]
      rw [hx]
      cases L with
      | nil => simp at hl; omega
      | cons c cs => by_cases hc : c = 86 <;> simp [hc]
    have HB := Lib.hid hb
    clear h0 hb
    go_enter Tryz.func78, Tryz.ntmps78
    go_wp2
    go_ret
    exact ⟨congrArg (fun b => Ending.returned (.bool b)) HB.out, rfl⟩
theorem cutV_no' (s : ByteArray) (h : decide (s.data.toList.head? = some 86) = false) (w : World) : Calls Tryz.prog 75 #[.string s, .string ⟨#[86]⟩] w fun e w' => e = .returned (.tuple #[.string s, .bool false]) ∧ w = w' := by
  have HP := Lib.hid (hasPrefix_any s)
  rw [h] at HP
  clear h
  go_enter Tryz.func75, Tryz.ntmps75
  go_wp2_with fail
  refine (HP.out _).mono ?_
  rintro e w1 ⟨rfl, rfl⟩
  go_wp2_with fail
  go_ret2
  exact ⟨rfl, rfl⟩
theorem cutV_yes' (s : ByteArray) (r : List UInt8) (h : s.data.toList = 86 :: r) (w : World) : Calls Tryz.prog 75 #[.string s, .string ⟨#[86]⟩] w fun e w' => e = .returned (.tuple #[.string ⟨r.toArray⟩, .bool true]) ∧ w = w' := by
  have HP := Lib.hid (hasPrefix_any s)
  rw [show decide (s.data.toList.head? = some 86) = true by rw [h]; rfl] at HP
  have hn : s.size = r.length + 1 := by rw [Lib.size_eq, h]; rfl
  have X := Lib.hid (show s.extract 1 (r.length + 1) = ⟨r.toArray⟩ by
    apply ByteArray.ext
    rw [ByteArray.data_extract]
    apply Array.ext'
    rw [Array.toList_extract, h]
    simp)
  clear h
  generalize r.length = n at hn X
  go_enter Tryz.func75, Tryz.ntmps75
  go_wp2_with fail
  refine (HP.out _).mono ?_
  rintro e w1 ⟨rfl, rfl⟩
  go_wp2_with fail
  go_ret2
  exact ⟨by rw [← X.out]; rfl, rfl⟩
theorem cutV_no (s : ByteArray) (h : decide (s.data.toList.head? = some 86) = false) (w : World) : Calls Tryz.prog 62 #[.string s, .string ⟨#[86]⟩] w fun e w' => e = .returned (.tuple #[.string s, .bool false]) ∧ w = w' := by
  have HP := Lib.hid (cutV_no' s h)
  clear h
  go_enter Tryz.func62, Tryz.ntmps62
  go_wp2_with fail
  refine (HP.out _).mono ?_
  rintro e w1 ⟨rfl, rfl⟩
  go_wp2_with fail
  go_ret2
  exact ⟨rfl, rfl⟩
theorem cutV_yes (s : ByteArray) (r : List UInt8) (h : s.data.toList = 86 :: r) (w : World) : Calls Tryz.prog 62 #[.string s, .string ⟨#[86]⟩] w fun e w' => e = .returned (.tuple #[.string ⟨r.toArray⟩, .bool true]) ∧ w = w' := by
  have HP := Lib.hid (cutV_yes' s r h)
  clear h
  go_enter Tryz.func62, Tryz.ntmps62
  go_wp2_with fail
  refine (HP.out _).mono ?_
  rintro e w1 ⟨rfl, rfl⟩
  go_wp2_with fail
  go_ret2
  exact ⟨rfl, rfl⟩
/-- The register that a part names. -/
noncomputable def regO : List UInt8 → Option Nat
  | 86 :: r => numO r 1
  | _ => none
theorem regO_no {L : List UInt8} (h : decide (L.head? = some 86) = false) : regO L = none := by
  cases L with
  | nil => rfl
  | cons c r =>
    have hc : c ≠ 86 := by simpa using h
    unfold regO
    split
    · rename_i h2; injection h2 with h2 _; exact absurd h2 hc
    · rfl
theorem register_any (t : ByteArray) (hlim : t.size ≤ 281474976710656) (w : World) (hL : AL w) :
    Calls Tryz.prog 53 #[.string t] w fun e w' => e = .returned (numV (regO t.data.toList)) ∧ Below w.heap.size w w' := by
  cases hq : decide (t.data.toList.head? = some 86)
  · rw [regO_no hq]
    have HP := Lib.hid (cutV_no t hq)
    clear hq hL
    go_enter Tryz.func53, Tryz.ntmps53
    go_wp2_with fail
    refine (HP.out _).mono ?_
    rintro e w1 ⟨rfl, rfl⟩
    go_wp2_with fail
    go_ret2
    exact ⟨rfl, Below.refl _ _⟩
  · obtain ⟨r, hr⟩ : ∃ r, t.data.toList = 86 :: r := by
      have h := of_decide_eq_true hq
      cases hL : t.data.toList with
      | nil => rw [hL] at h; cases h
      | cons c r => rw [hL] at h; simp at h; exact ⟨r, by rw [h]⟩
    have HP := Lib.hid (cutV_yes t r hr)
    have HN := Lib.hid (number_any' ⟨r.toArray⟩ 1 (by decide) (by decide) (by rw [Lib.size_eq] at hlim ⊢; rw [hr] at hlim; simp at hlim ⊢; omega) w hL)
    rw [hr]
    show Calls Tryz.prog 53 #[.string t] w fun e w' => e = .returned (numV (numO r 1)) ∧ Below w.heap.size w w'
    have HN : Hid (Calls Tryz.prog 54 #[.string ⟨r.toArray⟩, .int .i64 1] w fun e w' => e = .returned (numV (numO r 1)) ∧ Below w.heap.size w w') := HN
    clear hq hr hL hlim
    cases ho : numO r 1
    all_goals
      rw [ho] at HN
      simp only [numV] at HN ⊢
      clear ho
      generalize (⟨r.toArray⟩ : ByteArray) = X at HP HN
      go_enter Tryz.func53, Tryz.ntmps53
      go_wp2_with fail
      refine (HP.out _).mono ?_
      rintro e w1 ⟨rfl, rfl⟩
      go_wp2_with fail
      refine HN.out.mono ?_
      rintro e w1 ⟨rfl, b1⟩
      have B1 := Lib.hid b1
      clear b1
      go_wp2_with fail
      go_ret2
      exact ⟨rfl, B1.out⟩
end Go.Proofs.YthfiaemdpfffcaaGreatDoor
