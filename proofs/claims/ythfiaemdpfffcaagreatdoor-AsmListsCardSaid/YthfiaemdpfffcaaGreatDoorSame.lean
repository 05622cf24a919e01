/- The contract of cosmacref04.Same: the comparison of bytes. -/
import Derived.Test.YthfiaemdpfffcaaGreatDoorByt
import Derived.Test.YthfiaemdpfffcaaGreatDoorTail
import Derived.Deep.Draws
import Derived.BigQuiet
import Derived.Deep.QuietTactic
namespace Go.Proofs.YthfiaemdpfffcaaGreatDoor
open Go.RowKit Num
set_option linter.unusedVariables false

set_option maxRecDepth 100000 in
set_option maxHeartbeats 2000000 in
/-- The comparison of two slices that read as lists, of whatever places. -/
theorem same2_any (A B : Option Addr) (c d n m : Nat) (L M : List Int) (w : World) (hn : L.length = n) (hm : M.length = m) (n1 : n ≤ 1000000) (m1 : m ≤ 1000000) (hA : Rd w A L) (hB : Rd w B M) :
    Calls Tryz.prog 9 #[.slice A n c, .slice B m d] w fun e w' => e = .returned (.bool (decide (L = M))) ∧ Below w.heap.size w w' := by
  by_cases hnm : n = m
  · subst hnm
    go_enter Tryz.func9, Tryz.ntmps9
    go_wp2
    go_loopw [5] (fun i wr => ∃ k : Nat, k ≤ n ∧ i = .int .i64 k ∧ L.take k = M.take k ∧ Below w.heap.size w wr) (fun i _ => n - (intOf i).toNat)
    case atStart => exact ⟨0, Nat.zero_le _, rfl, rfl, Below.refl _ _⟩
    case round =>
      obtain ⟨k, hk, rfl, he, hb⟩ := hrel
      have He := Lib.hid he
      clear he
      by_cases hlt : k < n
      · obtain ⟨ad, rfl, hg, hc⟩ := (hA.below hb).at_ (k := k) (by omega)
        obtain ⟨ad2, rfl, hg2, hc2⟩ := (hB.below hb).at_ (k := k) (by omega)
        have hlk : (k : Int) < (n : Int) := by omega
        have ht := take_step (X := L) (k := k) (by omega)
        have ht2 := take_step (X := M) (k := k) (by omega)
        obtain ⟨x, hx⟩ : ∃ x, L[k]'(by omega) = x := ⟨_, rfl⟩
        obtain ⟨y, hy⟩ : ∃ y, M[k]'(by omega) = y := ⟨_, rfl⟩
        rw [hx] at hc ht
        rw [hy] at hc2 ht2
        have H := Lib.hid (And.intro ht ht2)
        clear hx hy ht ht2
        by_cases hxy : x = y
        · subst hxy
          go_wp2
          go_quiet (fail)
          go_wp2
          go_roundw
          case rel => exact ⟨k + 1, by omega, by go_num, by rw [H.out.1, H.out.2, He.out], hb.trans ⟨rfl, rfl, rfl, Nat.le_refl _, fun _ _ => rfl⟩⟩
          case measure => simp [intOf]; omega
        · have hne : ¬ L = M := fun e => by
            subst e
            have := H.out.1.symm.trans H.out.2
            simp at this
            exact hxy this
          have Hne := Lib.hid hne
          clear hne
          have hq : (x == y) = false := by simpa using hxy
          go_wp2
          go_quiet (fail)
          go_wp2
          go_ret
          exact ⟨by rw [decide_eq_false Hne.out]; rfl, hb.trans ⟨rfl, rfl, rfl, Nat.le_refl _, fun _ _ => rfl⟩⟩
      · have hkn : k = n := by omega
        subst hkn
        have he : L = M := by
          have := He.out
          rw [List.take_of_length_le (by omega), List.take_of_length_le (by omega)] at this
          exact this
        go_wp2
        go_ret
        exact ⟨by rw [decide_eq_true he]; rfl, hb⟩
  · have hne : ¬ L = M := fun e => hnm (by rw [← hn, ← hm, e])
    have hq : ((n : Int) == (m : Int)) = false := by simp; omega
    rw [decide_eq_false hne]
    clear hne
    go_enter Tryz.func9, Tryz.ntmps9
    go_wp2
    go_ret
    exact ⟨rfl, Below.refl _ _⟩
end Go.Proofs.YthfiaemdpfffcaaGreatDoor
