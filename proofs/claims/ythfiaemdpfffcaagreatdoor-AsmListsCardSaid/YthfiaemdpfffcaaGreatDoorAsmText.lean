/- The reference's Text of a legal instruction. -/
import Derived.Test.YthfiaemdpfffcaaGreatDoorAsmText1
import Derived.Test.YthfiaemdpfffcaaGreatDoorAsmText2
namespace Go.Proofs.YthfiaemdpfffcaaGreatDoor
open Go.RowKit Num Dec
set_option linter.unusedVariables false
set_option linter.unusedSimpArgs false

set_option maxHeartbeats 1000000 in
theorem rtext_made {i : Ins} {r : Rl} {x y n nn a : Nat} (m : Made i r x y n nn a) (w : World) : Calls Tryz.prog 17 #[.agg (icells i)] w fun e w' => e = .returned (.string (txtS i)) ∧ Below w.heap.size w w' := by
  have hx := m.x16
  have hy := m.y16
  have hn := m.n16
  have hnn := m.nn256
  have ha := m.a16
  have h1 : 1 ≤ r.op := by have := m.op; omega
  have h2 := m.top
  have ht := rule_text m.rule
  have hl := op_long m.kind
  unfold txtS
  rw [m.txt, m.is]
  clear m
  cases hp : r.pk
  · have h48 : ¬ r.op = 48 := fun e => by rw [hl.1 e] at hp; cases hp
    have C := rtextNone r x y n nn a ht hp h1 h2 hx hy hn hnn ha w
    rw [if_neg h48]
    exact C
  · have h48 : ¬ r.op = 48 := fun e => by rw [hl.1 e] at hp; cases hp
    have C := rtextX r x y n nn a ht hp h1 h2 hx hy hn hnn ha w
    rw [if_neg h48]
    exact C
  · have h48 : ¬ r.op = 48 := fun e => by rw [hl.1 e] at hp; cases hp
    have C := rtextN r x y n nn a ht hp h1 h2 hx hy hn hnn ha w
    rw [if_neg h48]
    exact C
  · have h48 : ¬ r.op = 48 := fun e => by rw [hl.1 e] at hp; cases hp
    have C := rtextXY r x y n nn a ht hp h1 h2 hx hy hn hnn ha w
    rw [if_neg h48]
    exact C
  · have h48 : ¬ r.op = 48 := fun e => by rw [hl.1 e] at hp; cases hp
    have C := rtextXYN r x y n nn a ht hp h1 h2 hx hy hn hnn ha w
    rw [if_neg h48]
    exact C
  · have h48 : ¬ r.op = 48 := fun e => by rw [hl.1 e] at hp; cases hp
    have C := rtextXNN r x y n nn a ht hp h1 h2 hx hy hn hnn ha w
    rw [if_neg h48]
    exact C
  · have h48 : ¬ r.op = 48 := fun e => by rw [hl.1 e] at hp; cases hp
    have C := rtextAddr r x y n nn a ht hp h1 h2 hx hy hn hnn ha w
    rw [if_neg h48]
    exact C
  · have h48 : ¬ r.op = 48 := fun e => by rw [hl.1 e] at hp; cases hp
    have C := rtextXAddr r x y n nn a ht hp h1 h2 hx hy hn hnn ha w
    rw [if_neg h48]
    exact C
  · have h48 : ¬ r.op = 48 := fun e => by rw [hl.1 e] at hp; cases hp
    have C := rtextPlanes r x y n nn a ht hp h1 h2 hx hy hn hnn ha w
    rw [if_neg h48]
    exact C
  · have h48 : r.op = 48 := hl.2 hp
    have C := rtextNext r x y n nn a ht hp h1 h2 hx hy hn hnn ha w
    rw [if_pos h48]
    exact C
theorem rtext_any {l : Int} {i : Ins} (h : Lg l i) (w : World) : Calls Tryz.prog 17 #[.agg (icells i)] w fun e w' => e = .returned (.string (txtS i)) ∧ Below w.heap.size w w' := by
  obtain ⟨r, x, y, n, nn, a, m⟩ := h.made
  exact rtext_made m w
end Go.Proofs.YthfiaemdpfffcaaGreatDoor
