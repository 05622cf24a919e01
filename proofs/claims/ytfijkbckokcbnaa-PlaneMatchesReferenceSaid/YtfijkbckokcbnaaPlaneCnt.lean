/- Contracts of package plane: Count. -/
import Derived.Test.YtfijkbckokcbnaaPlane
namespace Go.Proofs.Ytfijkbckokcbnaa
open Go.RowKit Num
set_option linter.unusedVariables false
set_option linter.unusedSimpArgs false

theorem sizeRows : (Try.prog.info? 33).map (·.size) = some 128 := by kernel_rfl
theorem sizeRow : (Try.prog.info? 32).map (·.size) = some 2 := by kernel_rfl
theorem extract_row (P : Pl) (k : Nat) (hk : k < 64) : (pcells P).extract (k * 2) (k * 2 + 2) = #[.int .u64 ((hi (P k)).toNat : Int), .int .u64 ((lo (P k)).toNat : Int)] := by
  apply Array.ext_getElem?
  intro j
  rw [Array.getElem?_extract]
  by_cases hj : j < 2
  · rw [if_pos (by rw [pcells_size]; omega), pcells_get _ _ (by omega)]
    rcases (show j = 0 ∨ j = 1 by omega) with rfl | rfl
    · rw [show k * 2 + 0 = 2 * k by omega, word_even]; rfl
    · rw [show k * 2 + 1 = 2 * k + 1 by omega, word_odd]; rfl
  · rw [if_neg (by rw [pcells_size]; omega), Array.getElem?_eq_none (by simp; omega)]
theorem index_row (P : Pl) (k : Nat) (hk : k < 64) (w : World) : (Instr.index 33 (.agg (pcells P)) (.int .i64 (k : Int))).run Try.prog w = .ok (.agg #[.int .u64 ((hi (P k)).toNat : Int), .int .u64 ((lo (P k)).toNat : Int)]) w := by
  have hn : (0 : Int) ≤ (k : Int) ∧ (k : Int) < ((64 : Nat) : Int) := by omega
  have hp := run_part_agg (P := Try.prog) 32 _ (pcells P) (k * 2) 2 w rfl Try.underlying32 sizeRow
  rw [extract_row P k hk] at hp
  have hs := sizeRow
  cases hq : Try.prog.info? 32 with
  | none => rw [hq] at hs; cases hs
  | some i =>
    have hs : i.size = 2 := by simpa [hq] using hs
    simp [Instr.index, run_underlying Try.underlying33, asIntOf, hn, go_sem, sizeOf, typeInfo, hq, hs, hp]
    rw [if_pos hk, extract_row P k hk]
theorem sm_bd (P : Pl) (k : Nat) (hk : k ≤ 64) : sm (fun y => cnt (P y)) k ≤ 8192 := by
  have := sm_const_le (fun y => cnt (P y)) 128 k fun y _ => cnt_le _
  have : k * 128 ≤ 64 * 128 := Nat.mul_le_mul_right _ hk
  omega
set_option maxHeartbeats 1000000 in
theorem pcount_any (P : Pl) (w : World) : Calls Try.prog 25 #[.agg (pcells P)] w fun e w' => e = .returned (.int .i64 (pcount P : Nat)) ∧ Below w.heap.size w w' := by
  have X := Lib.hid (PBox.new w P 35)
  have B := Lib.hid (below_new w (.cells (pcells P) 35))
  obtain ⟨Z, hZ⟩ : ∃ Z, pcount P = Z := ⟨_, rfl⟩
  have ZZ := Lib.hid (show sm (fun y => cnt (P y)) 64 = Z from hZ)
  rw [hZ]
  clear hZ
  go_enter Try.func25, Try.ntmps25
  go_upto_region 2 with fail
  refine wp_region_lit ?_
  iterate 3 go_step
  refine wpList_load_row rfl 33 (.tmp 6) rfl w.heap.size (by simp [Act.eval]) _ _ _ _ X.out Try.underlying33 rfl (by rw [sizeRows, pcells_size]) ?_
  have IX := Lib.hid (index_row P)
  generalize w.alloc (.cells (pcells P) 35) = w1 at *
  generalize pcells P = C at *
  clear X
  go_wp2
  go_loopw [3, 8] (fun a i wr => ∃ k n : Nat, k ≤ 64 ∧ a = .int .i64 (n : Int) ∧ i = .int .i64 (k : Int) ∧ n = sm (fun y => cnt (P y)) k ∧ Below w.heap.size w wr) (fun _ i _ => 64 - (intOf i).toNat)
  case atStart => exact ⟨0, 0, by omega, rfl, rfl, rfl, B.out⟩
  case round =>
    clear B
    obtain ⟨k, n, hk, rfl, rfl, hn, hB⟩ := hrel
    have n1 : (n : Int) ≤ 10000 := by have := sm_bd P k hk; omega
    have HN := Lib.hid (And.intro hn hB)
    clear hn hB
    by_cases hlt : k < 64
    · have ki : (k : Int) < 64 := by omega
      have ix := IX.out k hlt
      have ct := Lib.hid (countW (h := hi (P k)) (l := lo (P k)) (n := cnt (P k)) (by rw [hi_lo]))
      obtain ⟨d, hd⟩ : ∃ d, cnt (P k) = d := ⟨_, rfl⟩
      have d1 : (d : Int) ≤ 128 := by have := cnt_le (P k); omega
      rw [hd] at ct
      have HD := Lib.hid hd
      clear hd
      generalize hi (P k) = h at *
      generalize lo (P k) = l at *
      go_wp2_with fail
      refine (ct.out _).mono ?_
      rintro e w' ⟨rfl, hb⟩
      have hs := HN.out.2.size
      have B2 := Lib.hid ((HN.out.2.alloc hs _).trans (hb.mono (B' := w.heap.size) (by simp; omega)))
      clear hb hs
      go_wp2
      go_roundw
      case rel => exact ⟨k + 1, n + d, by omega, by go_num, by go_num, by rw [sm, ← HN.out.1, HD.out], B2.out⟩
      case measure => simp [intOf]; omega
    · have K1 := Lib.hid (show k = 64 by omega)
      have hi : ¬ (k : Int) < 64 := by omega
      go_wp2
      go_ret
      have e : n = Z := by rw [← ZZ.out, HN.out.1, K1.out]
      rw [← e]
      exact ⟨rfl, HN.out.2⟩
end Go.Proofs.Ytfijkbckokcbnaa
