/- Contract of word.Hex: the last k digits of base 16 of n, for k from 1 to 8 and n from 0 to 2^32 - 1; else the empty string. -/
import Derived.Test.YthfiaemdpfffcaaGreatDoorOpc
import Derived.Test.YthfiaemdpfffcaaGreatDoorHexNum
import Derived.Lib.Hide
namespace Go.Proofs.YthfiaemdpfffcaaGreatDoor
open Go.RowKit Num
set_option linter.unusedVariables false

theorem make_digits (k : Nat) (h0 : 1 ≤ k) (h1 : k ≤ 8) (w : World) : (Instr.makeSlice 22 (.int .i64 k) (.int .i64 k)).run Tryz.prog w = .ok (.slice (some ⟨w.heap.size, 0, none⟩) k k) (w.alloc (.cells (Array.replicate k (.int .u8 0)) 5)) := by
  obtain rfl | rfl | rfl | rfl | rfl | rfl | rfl | rfl : k = 1 ∨ k = 2 ∨ k = 3 ∨ k = 4 ∨ k = 5 ∨ k = 6 ∨ k = 7 ∨ k = 8 := by omega
  all_goals kernel_rfl

/-- Behind i rounds: the last i cells hold the last i digits. -/
def HexCells (w : World) (b N k i : Nat) (wr : World) : Prop :=
  Below w.heap.size w wr ∧ ∀ j, j < k → wr.cell? ⟨b, j, none⟩ = some (.int .u8 (if k - 1 - j < i then ((hexByte (N / 16 ^ (k - 1 - j) % 16)).toNat : Int) else 0)) ∧ wr.frozen? ⟨b, j, none⟩ = false

theorem hexCells_start (w wr : World) (N k : Nat) (hc : wr = w.alloc (.cells (Array.replicate k (.int .u8 0)) 5)) : HexCells w w.heap.size N k 0 wr := by
  subst hc
  refine ⟨by go_grown, fun j hj => ⟨?_, World.frozen?_alloc_at _ _ _ _ rfl⟩⟩
  rw [if_neg (by omega), World.cell?_alloc_at _ _ _ _ rfl]
  simp [hj]

theorem hexCells_step {w wr : World} {N k i M : Nat} (hM : N / 16 ^ i = M) (hi : i < k) (h : HexCells w w.heap.size N k i wr) (hd : M % 16 < digs.size) :
    HexCells w w.heap.size N k (i + 1) (wr.setCell ⟨w.heap.size, k - 1 - i, none⟩ (.int .u8 ((digs[M % 16]'hd).toNat : Int))) := by
  refine ⟨h.1.setCell (Nat.le_refl _) _, fun j hj => ⟨?_, by rw [World.frozen?_setCell]; exact (h.2 j hj).2⟩⟩
  by_cases e : j = k - 1 - i
  · subst e
    rw [World.cell?_setCell_same wr _ _ (h.2 _ hj).1, if_pos (by omega), digs_get _ (by omega), show k - 1 - (k - 1 - i) = i from by omega, hM]
  · rw [World.cell?_setCell_other wr _ _ _ (fun c => e (by injection c with _ c; exact c.symm)), (h.2 j hj).1]
    by_cases e2 : k - 1 - j < i
    · rw [if_pos e2, if_pos (by omega)]
    · rw [if_neg e2, if_neg (by omega)]

theorem hexCells_end {w wr : World} {N k i : Nat} (hi : ¬ i < k) (h : HexCells w w.heap.size N k i wr) :
    ∀ dst, Tryz.prog.underlying dst = some .string → (convert 22 dst (.slice (some ⟨w.heap.size, 0, none⟩) k k)).run Tryz.prog wr = .ok (.string (hexS N k)) wr := by
  intro dst hd
  have e := run_convert_bytes_back (P := Tryz.prog) wr 22 dst 5 ⟨w.heap.size, 0, none⟩ k (hexL N k) Tryz.underlying22 Tryz.underlying5 hd (fun j hj => by
    have hjk : j < k := by rwa [hexL_len] at hj
    have ha : (⟨w.heap.size, 0, none⟩ : Addr).add j = ⟨w.heap.size, j, none⟩ := by unfold Addr.add; split <;> simp_all
    rw [ha, (h.2 j hjk).1, if_pos (by omega), hexL_get k N j hjk])
  rw [hexL_len] at e
  exact e

set_option maxHeartbeats 2000000 in
theorem hex_yes (N k : Nat) (w : World) (n1 : N ≤ 4294967295) (k0 : 1 ≤ k) (k1 : k ≤ 8) :
    Calls Tryz.prog 37 #[.int .i64 N, .int .i64 k] w fun e w' =>
      e = .returned (.string (hexS N k)) ∧ Below w.heap.size w w' := by
  have hm := make_digits k k0 k1
  go_enter Tryz.func37, Tryz.ntmps37
  go_wp2
  go_loopw [0, 24] (fun n c wr => ∃ i : Nat, i ≤ k ∧ n = .int .i64 ((N / 16 ^ i : Nat) : Int) ∧ c = .int .i64 i ∧ HexCells w w.heap.size N k i wr) (fun _ c _ => k - (intOf c).toNat)
  case atStart => exact ⟨0, Nat.zero_le _, by simp, rfl, hexCells_start w _ N k rfl⟩
  case round =>
    obtain ⟨i, hi, rfl, rfl, hc⟩ := hrel
    have hd : N / 16 ^ (i + 1) = N / 16 ^ i / 16 := by rw [Nat.pow_succ, Nat.div_div_eq_div_mul]
    have Hd := Lib.hid hd
    have hb : N / 16 ^ i ≤ 4294967295 := Nat.le_trans (Nat.div_le_self _ _) n1
    clear hd
    generalize hM : N / 16 ^ i = M at *
    have HM := Lib.hid hM
    clear hM
    by_cases hlt : i < k
    · have hcell := (hc.2 (k - 1 - i) (by omega)).1
      have hfr := (hc.2 (k - 1 - i) (by omega)).2
      go_wp2
      exact ⟨⟨i + 1, by omega, by rw [Hd.out]; rfl, rfl, hexCells_step HM.out hlt hc _⟩, by simp [intOf]; omega⟩
    · have hcv := hexCells_end hlt hc
      have hb := hc.1
      clear hc
      go_wp2
      go_ret
      exact ⟨rfl, hb⟩

set_option maxHeartbeats 2000000 in
theorem hex_no (n k : Int) (w : World) (h : n < 0 ∨ 4294967295 < n ∨ k < 1 ∨ 8 < k) :
    Calls Tryz.prog 37 #[.int .i64 n, .int .i64 k] w fun e w' =>
      e = .returned (.string ⟨#[]⟩) ∧ w = w' := by
  have hp : n < 0 ∨ (0 ≤ n ∧ 4294967295 < n) ∨ (0 ≤ n ∧ n ≤ 4294967295 ∧ k < 1) ∨ (0 ≤ n ∧ n ≤ 4294967295 ∧ 1 ≤ k ∧ 8 < k) := by omega
  clear h
  rcases hp with h | ⟨h, h2⟩ | ⟨h, h2, h3⟩ | ⟨h, h2, h3, h4⟩
  all_goals
    go_enter Tryz.func37, Tryz.ntmps37
    go_wp2
    go_ret
    exact ⟨rfl, rfl⟩
end Go.Proofs.YthfiaemdpfffcaaGreatDoor
