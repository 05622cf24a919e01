/- XMix, with forks: a region that draws its order, where at some place two operations that are not plain may come up. Nothing of the program. -/
import Derived.Test.YthfiaemdpfffcaaGreatDoorMix
namespace Go.Proofs.YthfiaemdpfffcaaGreatDoor
open Go.RowKit
set_option linter.unusedVariables false

/-- The ways through the region: runs of plain operations, behind each the one that may come up then, or the two. -/
inductive MixT where
  | last (is : List Nat)
  | call (is : List Nat) (c : Nat) (t : MixT)
  | fork (is : List Nat) (c1 : Nat) (t1 : MixT) (c2 : Nat) (t2 : MixT)

section
variable {P : Program} {ops : Array Oper} {C : World → Prop} {Q : Exit → Act → World → Prop} {md : Region.Mode}

/-- What one operation owes, F being owed behind it. -/
def oneT (P : Program) (ops : Array Oper) (C : World → Prop) (Q : Exit → Act → World → Prop) (c : Nat) (F : Act → World → Prop) (a : Act) (w : World) : Prop :=
  match ops[c]? with
  | none => False
  | some o => if Region.wanted o (yielded ops a.tmps) then o.wp P a w (fun a'' w'' => C w'' ∧ F a'' w'') Q else F (a.put o.dst undef) w
def wpMixT (P : Program) (ops : Array Oper) (C : World → Prop) (Q : Exit → Act → World → Prop) : MixT → Act → World → Prop
  | .last is, a, w => wpQuiet P ops C (fun a' => Q .normal a' w) (opsAt ops is) a
  | .call is c t, a, w => wpQuiet P ops C (fun a' => oneT P ops C Q c (fun a w => wpMixT P ops C Q t a w) a' w) (opsAt ops is) a
  | .fork is c1 t1 c2 t2, a, w => wpQuiet P ops C (fun a' => oneT P ops C Q c1 (fun a w => wpMixT P ops C Q t1 a w) a' w ∧ oneT P ops C Q c2 (fun a w => wpMixT P ops C Q t2 a w) a' w) (opsAt ops is) a
def mixTB (md : Region.Mode) (ops : Array Oper) : MixT → Array Bool → Bool
  | .last is, listed => runB md ops is listed && (Region.ready md ops (setAll listed is)).isEmpty
  | .call is c t, listed => runB md ops is listed && decide (Region.ready md ops (setAll listed is) = [c]) && mixTB md ops t ((setAll listed is).setIfInBounds c true)
  | .fork is c1 t1 c2 t2, listed => runB md ops is listed && decide (Region.ready md ops (setAll listed is) = [c1, c2]) && mixTB md ops t1 ((setAll listed is).setIfInBounds c1 true) && mixTB md ops t2 ((setAll listed is).setIfInBounds c2 true)
/-- The tree's depth, where all its ways are of one length. -/
def depthT : MixT → Nat
  | .last is => is.length
  | .call is _ t => depthT t + 1 + is.length
  | .fork is _ t1 _ _ => depthT t1 + 1 + is.length
def evenT : MixT → Bool
  | .last _ => true
  | .call _ _ t => evenT t
  | .fork _ _ t1 _ t2 => evenT t1 && evenT t2 && decide (depthT t1 = depthT t2)

theorem quietMono {K K' : Act → Prop} (hK : ∀ a, K a → K' a) : ∀ (l : List Oper) (a : Act), wpQuiet P ops C K l a → wpQuiet P ops C K' l a := by
  intro l
  induction l with
  | nil => intro a h; exact hK a h
  | cons o l ih =>
    intro a h
    simp only [wpQuiet] at h ⊢
    split
    · rename_i hw; simp only [hw, if_true] at h; exact Oper.quiet_mono (fun a h => ih a h) h
    · rename_i hw; simp only [hw] at h; exact ih _ h

theorem oneT_op {c : Nat} {F G : Act → World → Prop} {a : Act} {w : World} (hC : C w) (h : oneT P ops C Q c F a w) (hF : ∀ a w, C w → F a w → G a w) : wpOp P ops Q c (fun a' w' => C w' ∧ G a' w') a w := by
  unfold oneT at h
  unfold wpOp
  cases ho : ops[c]? with
  | none => rw [ho] at h; exact h.elim
  | some o =>
    rw [ho] at h
    simp only at h ⊢
    split
    · rename_i hw
      simp only [hw, if_true] at h
      exact .inl (Oper.wp_mono (fun a'' w'' ⟨h1, h2⟩ => ⟨h1, hF _ _ h1 h2⟩) h)
    · rename_i hw
      simp only [hw] at h
      exact ⟨hC, hF _ _ hC h⟩

theorem anyH_mixT (hs : Region.noSelect ops = true) (hQ : ∀ (c : _) (a : Act) (d : Option Tmp) (v : Value) (w : World), Q (.panic c) (a.put d v) w → Q (.panic c) a w) (k : Nat) : ∀ (t : MixT) (listed : Array Bool) (a : Act) (w : World), C w →
    evenT t = true → mixTB md ops t listed = true → wpMixT P ops C Q t a w → wpAnyH P md ops Q C (k + depthT t) listed a w
  | .last is, listed, a, w, hC, _, hB, h => by
    simp only [mixTB, Bool.and_eq_true] at hB
    have hr : Region.ready md ops (setAll listed is) = [] := by simpa using hB.2
    refine anyH_run hs hQ k hC is listed a hB.1 ?_
    simp only [wpMixT] at h
    exact quietMono (fun a h => wpAnyH_done hr h k) _ _ h
  | .call is c t, listed, a, w, hC, he, hB, h => by
    simp only [mixTB, Bool.and_eq_true] at hB
    obtain ⟨⟨hB1, hB2⟩, hB3⟩ := hB
    have hr : Region.ready md ops (setAll listed is) = [c] := by simpa using hB2
    simp only [depthT]
    rw [← Nat.add_assoc]
    refine anyH_run hs hQ _ hC is listed a hB1 ?_
    simp only [wpMixT] at h
    refine quietMono (fun a' ha => ?_) _ _ h
    rw [← Nat.add_assoc]
    refine wpAnyH_all hr (by simp) fun i hi => ?_
    obtain rfl : i = c := by simpa using hi
    exact oneT_op hC ha fun a'' w'' h1 h2 => anyH_mixT hs hQ k t _ a'' w'' h1 he hB3 h2
  | .fork is c1 t1 c2 t2, listed, a, w, hC, he, hB, h => by
    simp only [mixTB, Bool.and_eq_true] at hB
    obtain ⟨⟨⟨hB1, hB2⟩, hB3⟩, hB4⟩ := hB
    have hr : Region.ready md ops (setAll listed is) = [c1, c2] := by simpa using hB2
    simp only [evenT, Bool.and_eq_true, decide_eq_true_eq] at he
    obtain ⟨⟨e1, e2⟩, e3⟩ := he
    simp only [depthT]
    rw [← Nat.add_assoc]
    refine anyH_run hs hQ _ hC is listed a hB1 ?_
    simp only [wpMixT] at h
    refine quietMono (fun a' ha => ?_) _ _ h
    rw [← Nat.add_assoc]
    refine wpAnyH_all hr (by simp) fun i hi => ?_
    rcases (by simpa using hi : i = c1 ∨ i = c2) with rfl | rfl
    · exact oneT_op hC ha.1 fun a'' w'' h1 h2 => anyH_mixT hs hQ k t1 _ a'' w'' h1 e1 hB3 h2
    · refine oneT_op hC ha.2 fun a'' w'' h1 h2 => ?_
      rw [e3]
      exact anyH_mixT hs hQ k t2 _ a'' w'' h1 e2 hB4 h2

/-- The region. -/
theorem wp_region_fork {id : Nat} {a : Act} {w : World} {l : List Oper} (t : MixT) (hm : P.follows .mixedOrders = true)
    (hB : (Region.noSelect l.toArray && mixTB .any l.toArray t (Array.replicate l.toArray.size false) && evenT t && decide (depthT t ≤ l.toArray.size)) = true)
    (hQ : ∀ (c : _) (a : Act) (d : Option Tmp) (v : Value) (w : World), Q (.panic c) (a.put d v) w → Q (.panic c) a w) (hC : C w.drew)
    (h : ∀ wd, wd = w.drew → wpMixT P l.toArray C Q t a wd) : (Code.region id l.toArray true).wp P Q a w := by
  simp only [Bool.and_eq_true, decide_eq_true_eq] at hB
  obtain ⟨⟨⟨hs, hb⟩, he⟩, hle⟩ := hB
  refine wp_region_held (S := C) hm ?_
  have := anyH_mixT (md := .any) hs hQ (l.toArray.size - depthT t) t (Array.replicate l.toArray.size false) a w.drew hC he hb (h _ rfl)
  rwa [Nat.sub_add_cancel hle] at this

theorem forkT_last {is : List Nat} {l : List Oper} {a : Act} {w : World} (hl : opsAt ops is = l) (h : wpQuiet P ops C (fun a' => Q .normal a' w) l a) : wpMixT P ops C Q (.last is) a w := by
  subst hl
  exact h
theorem forkT_call {is : List Nat} {c : Nat} {t : MixT} {l : List Oper} {a : Act} {w : World} (hl : opsAt ops is = l) (h : wpQuiet P ops C (oneT P ops C Q c (fun a w => wpMixT P ops C Q t a w) · w) l a) : wpMixT P ops C Q (.call is c t) a w := by
  subst hl
  exact h
theorem forkT_fork {is : List Nat} {c1 c2 : Nat} {t1 t2 : MixT} {l : List Oper} {a : Act} {w : World} (hl : opsAt ops is = l)
    (h : wpQuiet P ops C (fun a => oneT P ops C Q c1 (fun a w => wpMixT P ops C Q t1 a w) a w ∧ oneT P ops C Q c2 (fun a w => wpMixT P ops C Q t2 a w) a w) l a) : wpMixT P ops C Q (.fork is c1 t1 c2 t2) a w := by
  subst hl
  exact h
theorem oneT_call {c : Nat} {t : MixT} {o : Oper} {a : Act} {w : World} (ho : ops[c]? = some o) (hw : Region.wanted o (yielded ops a.tmps) = true) (h : ∀ K : Act → World → Prop, (∀ a w, C w → wpMixT P ops C Q t a w → K a w) → o.wp P a w K Q) : oneT P ops C Q c (fun a w => wpMixT P ops C Q t a w) a w := by
  unfold oneT
  rw [ho]
  simp only [hw, if_true]
  exact h _ fun a w hc h => ⟨hc, h⟩
end
end Go.Proofs.YthfiaemdpfffcaaGreatDoor
