/- Contracts of the reference's List, In, Numbers. -/
import Derived.Test.YtcgineohhlmghaaAddr
import Derived.BigQuiet
import Derived.Deep.QuietTactic
namespace Go.Proofs.Ytcgineohhlmghaa
open Go.RowKit Num
set_option linter.unusedVariables false

theorem infoInt : (Try.prog.info? 3).map (fun i => (i.zero, i.size, i.bytes)) = some (some (.int .i64 0), 1, 8) := by kernel_rfl

/-- A slice of n numbers, which reads as L. -/
def GivesInts (L : List Int) (w : World) (e : Ending) (w' : World) : Prop := (∃ A c, e = .returned (.slice A L.length c) ∧ Row (Value.int .i64) w' A L) ∧ Below w.heap.size w w'

set_option maxRecDepth 100000 in
set_option maxHeartbeats 2000000 in
theorem rlist_any (a : Int) (n : Nat) (w : World) (a0 : 0 ≤ a) (a1 : a ≤ 65535) (n1 : n ≤ 65536) :
    Calls Try.prog 16 #[.int .i64 a, .int .i64 n] w (GivesInts (lst a n) w) := by
  obtain ⟨i0, hi, hz0, hz1, hz2⟩ := info_parts infoInt
  go_enter Try.func16, Try.ntmps16
  go_wp2
  go_loopw [5, 6] (fun o i wr => ∃ k : Nat, k ≤ n ∧ i = .int .i64 k ∧ wr.ownsRow w.heap.size 3 1 o k ((lst a k).map (Value.int .i64)) ∧ Below w.heap.size w wr) (fun _ i _ => n - (intOf i).toNat)
  case atStart => exact ⟨0, Nat.zero_le _, rfl, World.ownsRow_nil _ _ _ _, Below.refl _ _⟩
  case round =>
    obtain ⟨k, hk, rfl, hown, hb⟩ := hrel
    by_cases hlt : k < n
    · go_wp2_with (first
        | (go_at_call 9; refine (amod_any _ _).mono ?_; rintro e w' ⟨rfl, rfl⟩)
        | (at_builtin; refine wpList_append_own _ rfl _ _ 29 rfl w.heap.size 3 i0 (.int .i64 0) 1 8 Try.underlying29 hi hz0 hz1 hz2 rfl (by decide) _ _ _ rfl (hown.alloc _) ⟨_, 0, none⟩ 1 1 [.int .i64 ((a + (k : Int)) % 65536)] rfl rfl (cell_one_new _ _ _) (by simp [Value.oneCell']) (by unfold maxLen; omega) (by omega) (by have := hb.size; simp; omega) ?_; intro v' w1 hown' hgrow _))
      go_roundw
      case rel =>
        refine ⟨k + 1, by omega, by go_num, by rw [lst_succ]; simpa using hown', (hb.alloc hb.size _).grown hgrow (by have := hb.size; simp; omega) fun j ej => ?_⟩
        exact (hown.lt j ej).1
      case measure => simp [intOf]; omega
    · have hkn : k = n := by omega
      subst hkn
      go_wp2
      go_ret
      obtain ⟨A, c, rfl⟩ := own_form hown
      exact ⟨⟨A, c, by rw [lst_len]; rfl, Row.of_own hown⟩, hb⟩

set_option maxRecDepth 100000 in
set_option maxHeartbeats 2000000 in
theorem rin_any (a b : Int) (n : Nat) (w : World) (a0 : 0 ≤ a) (a1 : a ≤ 65535) (n1 : n ≤ 65536) (b0 : 0 ≤ b) (b1 : b ≤ 65535) :
    Calls Try.prog 13 #[.int .i64 a, .int .i64 n, .int .i64 b] w fun e w' => e = .returned (.bool (inB a n b)) ∧ Below w.heap.size w w' := by
  go_enter Try.func13, Try.ntmps13
  go_wp2_with fail
  refine (rlist_any a n _ a0 a1 n1).mono ?_
  rintro e w1 ⟨⟨A, c, rfl, hrow⟩, hb⟩
  rw [lst_len]
  go_wp2
  go_loop [8] (fun i => ∃ k : Nat, k ≤ n ∧ i = .int .i64 k ∧ ∀ i : Nat, i < k → (a + (i : Int)) % 65536 ≠ b) (fun i => n - (intOf i).toNat)
  case atStart => exact ⟨0, Nat.zero_le _, rfl, fun i hi => absurd hi (by omega)⟩
  case round =>
    obtain ⟨k, hk, rfl, hno⟩ := hrel
    have Hno := Lib.hid hno
    clear hno
    by_cases hlt : k < n
    · obtain ⟨g, o, rfl, hg, hc⟩ := hrow.at_ (k := k) (by rw [lst_len]; exact hlt)
      rw [lst_get] at hc
      by_cases hf : (a + (k : Int)) % 65536 = b
      · have hin := inB_mem a b n k hlt n1 b0 b1 hf
        have hf1 : ((a + (k : Int)) % 65536 == b) = true := by simpa using hf
        clear hf
        go_wp2
        go_ret
        exact ⟨by simp, hb⟩
      · have hf1 : ((a + (k : Int)) % 65536 == b) = false := by simpa using hf
        go_wp2
        go_round
        case rel => exact ⟨k + 1, by omega, by go_num, fun i hi => by
          rcases Nat.lt_or_ge i k with h | h
          · exact Hno.out i h
          · obtain rfl : i = k := by omega
            exact hf⟩
        case measure => simp [intOf]; omega
    · have hkn : k = n := by omega
      subst hkn
      have hin := inB_out a b k b0 b1 Hno.out
      go_wp2
      go_ret
      exact ⟨by simp, hb⟩

set_option maxRecDepth 100000 in
set_option maxHeartbeats 2000000 in
/-- Two slices that read as one list are equal. -/
theorem numbers_same (A B : Option Addr) (c d n : Nat) (L : List Int) (w : World) (hn : L.length = n) (n1 : n ≤ 65536) (hA : Row (Value.int .i64) w A L) (hB : Row (Value.int .i64) w B L) :
    Calls Try.prog 14 #[.slice A n c, .slice B n d] w fun e w' => e = .returned (.bool true) ∧ Below w.heap.size w w' := by
  go_enter Try.func14, Try.ntmps14
  go_wp2
  go_loopw [5] (fun i wr => ∃ k : Nat, k ≤ n ∧ i = .int .i64 k ∧ Below w.heap.size w wr) (fun i _ => n - (intOf i).toNat)
  case atStart => exact ⟨0, Nat.zero_le _, rfl, Below.refl _ _⟩
  case round =>
    obtain ⟨k, hk, rfl, hb⟩ := hrel
    by_cases hlt : k < n
    · obtain ⟨g, o, rfl, hg, hc⟩ := (hA.below hb).at_ (k := k) (by omega)
      obtain ⟨g2, o2, rfl, hg2, hc2⟩ := (hB.below hb).at_ (k := k) (by omega)
      have hlk : (k : Int) < (n : Int) := by omega
      obtain ⟨x, hx⟩ : ∃ x, L[k]'(by omega) = x := ⟨_, rfl⟩
      rw [hx] at hc hc2
      clear hx
      go_wp2
      go_quiet (fail)
      go_wp2
      go_roundw
      case rel => exact ⟨k + 1, by omega, by go_num, hb.trans ⟨rfl, rfl, rfl, Nat.le_refl _, fun _ _ => rfl⟩⟩
      case measure => simp [intOf]; omega
    · have hkn : k = n := by omega
      subst hkn
      go_wp2
      go_ret
      exact ⟨rfl, hb⟩
end Go.Proofs.Ytcgineohhlmghaa
