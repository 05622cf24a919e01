/- Contracts of the reference's List, In, Numbers. -/
import Derived.Test.YtbgdkhbembjjlaaAddr
import Derived.BigQuiet
import Derived.Deep.QuietTactic
namespace Go.Proofs.Ytbgdkhbembjjlaa
open Go.RowKit Num
set_option linter.unusedVariables false

theorem infoInt : (Try.prog.info? 3).map (fun i => (i.zero, i.size, i.bytes)) = some (some (.int .i64 0), 1, 8) := by kernel_rfl

/-- A slice of n numbers, which reads as L. -/
def GivesInts (L : List Int) (w : World) (e : Ending) (w' : World) : Prop := (∃ A c, e = .returned (.slice A L.length c) ∧ Row (Value.int .i64) w' A L) ∧ Below w.heap.size w w'






































































set_option maxRecDepth 100000 in
set_option maxHeartbeats 2000000 in
/-- Two slices that read as one list are equal. -/
theorem numbers_same (A B : Option Addr) (c d n : Nat) (L : List Int) (w : World) (hn : L.length = n) (n1 : n ≤ 65536) (hA : Row (Value.int .i64) w A L) (hB : Row (Value.int .i64) w B L) :
    Calls Try.prog 11 #[.slice A n c, .slice B n d] w fun e w' => e = .returned (.bool true) ∧ Below w.heap.size w w' := by
  go_enter Try.func11, Try.ntmps11
  go_wp2
  go_loopw [5] (fun i wr => ∃ k : Nat, k ≤ n ∧ i = .int .i64 k ∧ Below w.heap.size w wr) (fun i _ => n - (intOf i).toNat)
  case atStart => exact ⟨0, Nat.zero_le _, rfl, Below.refl _ _⟩
  case round =>
    obtain ⟨k, hk, rfl, hb⟩ := hrel
    by_cases hlt : k < n
    · obtain ⟨g, o, rfl, hg, hc⟩ := (hA.below hb).at_ (k := k) (by omega)
      obtain ⟨g2, o2, rfl, hg2, hc2⟩ := (hB.below hb).at_ (k := k) (by omega)
      have hlk : (k : Int) < (n : Int) := by omega
      obtain ⟨x, hx⟩ : ∃ x, L[k]'(by omega) = x := ⟨_, rfl⟩
      rw [hx] at hc hc2
      clear hx
      go_wp2
      go_quiet (fail)
      go_wp2
      go_roundw
      case rel => exact ⟨k + 1, by omega, by go_num, hb.trans ⟨rfl, rfl, rfl, Nat.le_refl _, fun _ _ => rfl⟩⟩
      case measure => simp [intOf]; omega
    · have hkn : k = n := by omega
      subst hkn
      go_wp2
      go_ret
      exact ⟨rfl, hb⟩
end Go.Proofs.Ytbgdkhbembjjlaa
