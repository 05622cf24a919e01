/- The reference's At and Texts. -/
import Derived.Test.YthfiaemdpfffcaaGreatDoorAsmText
import Derived.Test.YthfiaemdpfffcaaGreatDoorByt
import Derived.BigQuiet
import Derived.Deep.QuietTactic
namespace Go.Proofs.YthfiaemdpfffcaaGreatDoor
open Go.RowKit Num Dec
set_option linter.unusedVariables false
set_option linter.unusedSimpArgs false

/-- A byte of a list, or 0 behind its end. -/
def atL (L : List Int) (i : Nat) : Int := L.getD i 0
set_option maxHeartbeats 1000000 in
theorem at_any (A : Option Addr) (n c i : Nat) (L : List Int) (w : World) (H : Rd w A L) (hn : L.length = n) (n1 : n ≤ 100000) (hi : i ≤ 100010) :
    Calls Tryz.prog 16 #[.slice A n c, .int .i64 (i : Int)] w fun e w' => e = .returned (.int .u8 (atL L i)) ∧ w = w' := by
  by_cases h : i < n
  · obtain ⟨ad, rfl, hb, c1⟩ := H.at_ (show i < L.length by omega)
    have E := Lib.hid (show atL L i = L[i]'(by omega) by unfold atL; rw [List.getD_eq_getElem?_getD, List.getElem?_eq_getElem (by omega)]; rfl)
    have HN := Lib.hid hn
    obtain ⟨v, hv⟩ : ∃ v, L[i]'(by omega) = v := ⟨_, rfl⟩
    rw [hv] at c1 E
    clear hv hn H
    go_enter Tryz.func16, Tryz.ntmps16
    go_wp2
    go_ret
    exact ⟨by rw [E.out]; rfl, rfl⟩
  · have E := Lib.hid (show atL L i = 0 by unfold atL; rw [List.getD_eq_getElem?_getD, List.getElem?_eq_none (by omega)]; rfl)
    clear hn H
    go_enter Tryz.func16, Tryz.ntmps16
    go_wp2
    go_ret
    exact ⟨by rw [E.out]; rfl, rfl⟩
end Go.Proofs.YthfiaemdpfffcaaGreatDoor
/- The reference's Texts: two lists of strings are the same. -/
namespace Go.Proofs.YthfiaemdpfffcaaGreatDoor
open Go.RowKit Num Dec
set_option linter.unusedVariables false
set_option linter.unusedSimpArgs false

/-- The same strings. -/
def sameB (L M : List ByteArray) : Bool := L.map (·.toList) == M.map (·.toList)
def SameTo (L M : List ByteArray) (k : Nat) : Prop := ∀ j (h : j < L.length) (h2 : j < M.length), j < k → L[j].toList = M[j].toList
theorem same_no {L M : List ByteArray} {k : Nat} (h : k < L.length) (h2 : k < M.length) (hne : ¬ L[k].toList = M[k].toList) : sameB L M = false := by
  unfold sameB
  apply beq_false_of_ne
  intro e
  have := congrArg (fun l => l[k]?) e
  simp only [List.getElem?_map, List.getElem?_eq_getElem h, List.getElem?_eq_getElem h2, Option.map_some, Option.some.injEq] at this
  exact hne this
theorem same_yes {L M : List ByteArray} (hl : L.length = M.length) (h : SameTo L M L.length) : sameB L M = true := by
  unfold sameB
  rw [beq_iff_eq]
  apply List.ext_getElem (by simp [hl])
  intro i h1 h2
  simp only [List.getElem_map]
  exact h i (by simpa using h1) (by simpa using h2) (by simpa using h1)
theorem same_len {L M : List ByteArray} (hl : ¬ L.length = M.length) : sameB L M = false := by
  unfold sameB
  apply beq_false_of_ne
  intro e
  exact hl (by simpa using congrArg List.length e)

set_option maxRecDepth 100000 in
set_option maxHeartbeats 2000000 in
theorem texts_any (A B : Option Addr) (n c m d : Nat) (L M : List ByteArray) (w : World) (H : Row Value.string w A L) (G : Row Value.string w B M) (hn : L.length = n) (hm : M.length = m) (n1 : n ≤ 100000) (m1 : m ≤ 100000) :
    Calls Tryz.prog 6 #[.slice A n c, .slice B m d] w fun e w' => e = .returned (.bool (sameB L M)) ∧ Below w.heap.size w w' := by
  by_cases hnm : n = m
  · have HH := Lib.hid (And.intro H (And.intro G (And.intro hn hm)))
    obtain rfl : n = m := hnm
    clear H G hn hm m1
    go_enter Tryz.func6, Tryz.ntmps6
    go_wp2
    go_loopw [5] (fun i wr => ∃ k : Nat, k ≤ n ∧ i = .int .i64 (k : Int) ∧ SameTo L M k ∧ Below w.heap.size w wr) (fun i _ => n - (intOf i).toNat)
    case atStart => exact ⟨0, Nat.zero_le _, rfl, fun _ _ _ h => absurd h (by omega), Below.refl _ _⟩
    case round =>
      obtain ⟨k, hk, rfl, hs, hb⟩ := hrel
      have HS := Lib.hid hs
      have HB := Lib.hid hb
      clear hs hb
      by_cases hlt : k < n
      · have h1 : k < L.length := by have := HH.out; omega
        have h2 : k < M.length := by have := HH.out; omega
        obtain ⟨b, o, rfl, hb, c1⟩ := (HH.out.1.below HB.out).at_ h1
        obtain ⟨b', o', rfl, hb', c2⟩ := (HH.out.2.1.below HB.out).at_ h2
        have NO := Lib.hid (fun h => same_no (L := L) (M := M) h1 h2 h)
        have YES := Lib.hid (show L[k].toList = M[k].toList → SameTo L M (k + 1) from fun e j g g2 hj => by
          rcases Nat.lt_or_ge j k with h | h
          · exact HS.out j g g2 h
          · obtain rfl : j = k := by omega
            exact e)
        generalize L[k] = S at *
        generalize M[k] = T at *
        have HL := Lib.hid hlt
        clear h1 h2
        by_cases he : S.toList = T.toList
        · have t : (S.toList == T.toList) = true := by simpa using he
          have E := Lib.hid (YES.out he)
          clear he YES NO
          go_wp2
          go_quiet (fail)
          go_wp2
          exact ⟨⟨k + 1, HL.out, rfl, E.out, HB.out.trans ⟨rfl, rfl, rfl, Nat.le_refl _, fun _ _ => rfl⟩⟩, by have := HL.out; simp [intOf]; omega⟩
        · have t : (S.toList == T.toList) = false := by simpa using he
          have E := Lib.hid (NO.out he)
          clear he YES NO
          go_wp2
          go_quiet (fail)
          go_wp2
          go_ret
          exact ⟨by rw [E.out]; rfl, HB.out.trans ⟨rfl, rfl, rfl, Nat.le_refl _, fun _ _ => rfl⟩⟩
      · have E := Lib.hid (show sameB L M = true from same_yes (HH.out.2.2.1.trans HH.out.2.2.2.symm) (fun j g g2 _ => HS.out j g g2 (by have := HH.out; omega)))
        go_wp2
        go_ret
        exact ⟨by rw [E.out]; rfl, HB.out⟩
  · have E := Lib.hid (same_len (L := L) (M := M) (by omega))
    have hne : ((n : Int) != (m : Int)) = true := by simp; omega
    clear H G hn hm
    go_enter Tryz.func6, Tryz.ntmps6
    go_wp2
    go_ret
    exact ⟨by rw [E.out]; rfl, Below.refl _ _⟩
end Go.Proofs.YthfiaemdpfffcaaGreatDoor
