/- Contracts of the reference of layer 7: Draw. -/
import Derived.Test.YtplmmfgmbfcjpaaPlaneRef
import Derived.Test.YtplmmfgmbfcjpaaTail
import Derived.StillTailTactics
namespace Go.Proofs.Ytplmmfgmbfcjpaa
open Go.RowKit Num
set_option linter.unusedVariables false
set_option linter.unusedSimpArgs false

/-- A new plane and a sign. -/
def DrawnB (f : Nat → Bool) (b : Bool) (w : World) (e : Ending) (w' : World) : Prop :=
  ∃ g, e = .returned (.tuple #[.slice (some ⟨g, 0, none⟩) 8192 8192, .bool b]) ∧ w.heap.size ≤ g ∧ Pxs g f w' ∧ Below w.heap.size w w'
/-- Is one of the first k set? -/
def hitTo (f : Nat → Bool) (k : Nat) : Bool := decide (0 < pcn f k)
theorem hit_next (f : Nat → Bool) (k : Nat) : hitTo f (k + 1) = (hitTo f k || f k) := by
  unfold hitTo
  rw [pcn]
  cases h : f k
  · simp
  · simp
theorem hit_none (f : Nat → Bool) : hitTo f 0 = false := rfl
set_option maxHeartbeats 4000000 in
theorem blankN {N : Nat} (hN : N = 8192) (w : World) : Calls Try.prog 28 #[] w fun e w' => ∃ g, e = .returned (.slice (some ⟨g, 0, none⟩) N N) ∧ w.heap.size ≤ g ∧ Pxs g (fun _ => false) w' ∧ Below w.heap.size w w' := by
  subst hN
  exact blank_any w
set_option maxRecDepth 100000 in
set_option maxHeartbeats 4000000 in
theorem rdraw_any (g1 g2 : Nat) (f1 f2 : Nat → Bool) (w : World) (H1 : Pxs g1 f1 w) (H2 : Pxs g2 f2 w) :
    Calls Try.prog 51 #[.slice (some ⟨g1, 0, none⟩) 8192 8192, .slice (some ⟨g2, 0, none⟩) 8192 8192] w (DrawnB (fun i => f1 i ^^ f2 i) (hitTo (fun i => f1 i && f2 i) 8192) w) := by
  have HH1 := Lib.hid H1
  have HH2 := Lib.hid H2
  obtain ⟨N, hN⟩ : ∃ N, N = 8192 := ⟨_, rfl⟩
  have BB := Lib.hid (blankN hN w)
  unfold DrawnB
  rw [← hN]
  obtain ⟨R, hR⟩ : ∃ R, R = hitTo (fun i => f1 i && f2 i) N := ⟨_, rfl⟩
  rw [← hR]
  have RR := Lib.hid hR
  have NN := Lib.hid hN
  clear hR
  clear H1 H2 hN
  go_enter Try.func51, Try.ntmps51
  go_wp2_with fail
  refine BB.out.mono ?_
  rintro e w1 ⟨G, rfl, hG, hP0, hb0⟩
  have G0 := Lib.hid hG
  have P0 := Lib.hid hP0
  have b0 := Lib.hid hb0
  clear hG hP0 hb0
  go_wp2
  go_loopw [7, 8] (fun t i wr => ∃ (k : Nat) (b : Bool), k ≤ N ∧ t = .bool b ∧ i = .int .i64 (k : Int) ∧ b = hitTo (fun i => f1 i && f2 i) k ∧ Pxs G (fun j => if j < k then f1 j ^^ f2 j else false) wr ∧ Below w.heap.size w wr) (fun _ i _ => N - (intOf i).toNat)
  case atStart => exact ⟨0, false, by omega, rfl, rfl, (hit_none _).symm, P0.out.congr fun j hj => by simp, b0.out⟩
  case round =>
    clear P0 b0
    obtain ⟨k, b, hk, rfl, rfl, hb, P, B⟩ := hrel
    have PB := Lib.hid (And.intro P (And.intro B hb))
    clear P B hb
    by_cases hlt : k < 8192
    · have K1 := Lib.hid hlt
      have hi : (k : Int) < 8192 := by omega
      have hiN : (k : Int) < (N : Int) := by have := NN.out; omega
      have hkN : k < N := by have := NN.out; omega
      have kb : (k : Int) ≤ 1000000 := by omega

      go_wp2
      refine tail_region 12 (by kernel_rfl) (by kernel_rfl) ?_
      intro wd hwd
      have PD0 : (Pxs G (fun j => if j < k then f1 j ^^ f2 j else false) wd ∧ Below w.heap.size w wd ∧ b = hitTo (fun i => f1 i && f2 i) k) := by rw [hwd]; exact ⟨PB.out.1.drew, PB.out.2.1.drew, PB.out.2.2⟩
      clear hwd PB hlt hi
      have c1 := (HH1.out.below PD0.2.1 HH1.out.lt).at_ k K1.out
      have c2 := (HH2.out.below PD0.2.1 HH2.out.lt).at_ k K1.out
      have c3 := PD0.1.at_ k K1.out
      have c4 := PD0.1.fz k K1.out
      have PD := Lib.hid PD0
      clear PD0
      have NX := Lib.hid (hit_next (fun i => f1 i && f2 i) k)
      have VX := Lib.hid (show (fun i => f1 i ^^ f2 i) k = (f1 k ^^ f2 k) from rfl)
      have hGne1 : G ≠ g1 := by have := HH1.out.lt; have := G0.out; omega
      have hGne2 : G ≠ g2 := by have := HH2.out.lt; have := G0.out; omega
      obtain ⟨v1, e1⟩ : ∃ v, v = f1 k := ⟨_, rfl⟩
      obtain ⟨v2, e2⟩ : ∃ v, v = f2 k := ⟨_, rfl⟩
      rw [← e1] at c1
      rw [← e2] at c2
      have E := Lib.hid (And.intro e1 e2)
      clear e1 e2
      simp only [List.take_succ_cons, List.take_zero, List.drop_succ_cons, List.drop_zero]
      cases v1
      all_goals
        cases v2
        all_goals
          repeat still_step
          refine wpStill_nil ?_
          cases b
          all_goals
            go_wp2
            go_roundw
            case rel =>
              have e1 := E.out.1
              have e2 := E.out.2
              refine ⟨k + 1, _, by omega, rfl, by go_num, ?_, (PD.out.1.set K1.out _).congr fun j hj => ?_, PD.out.2.1.setCell (p := ⟨G, k, none⟩) G0.out _⟩
              · rw [NX.out, ← PD.out.2.2, ← e1, ← e2]; rfl
              · by_cases e : j = k
                · subst e; rw [if_pos rfl, if_pos (by omega), ← e1, ← e2]; rfl
                · rw [if_neg e]
                  by_cases e3 : j < k
                  · rw [if_pos e3, if_pos (by omega)]
                  · rw [if_neg e3, if_neg (by omega)]
            case measure => have := NN.out; simp [intOf]; omega
    · have K1 := Lib.hid (show k = N by have := NN.out; omega)
      have hi : ¬ (k : Int) < 8192 := by omega
      go_wp2
      go_ret2
      have h := PB.out
      rw [K1.out] at h
      rw [h.2.2, ← RR.out]
      exact ⟨G, rfl, G0.out, h.1.congr fun j hj => by rw [if_pos (by rw [NN.out]; exact hj)], h.2.1⟩
end Go.Proofs.Ytplmmfgmbfcjpaa
