/- A region that draws its order, some of whose operations are calls that make memory (what they hand back hangs on the world), each of them the only one that may come up when its turn comes: the plain operations are taken first, in one walk. Nothing of the program. -/
import Derived.Test.YtfjdhhheofcanaaRow
import Derived.OrdersHeld
import Derived.BigQuiet
import Derived.Deep.QuietTactic
import Derived.Lib.Hide
namespace Go.Proofs.Ytfjdhhheofcanaa
open Go.RowKit
set_option linter.unusedVariables false

section
variable {P : Program} {ops : Array Oper} {C : World → Prop} {Q : Exit → Act → World → Prop} {md : Region.Mode}

/-- Operations that leave a value, or end the run. -/
def plainOp : Op → Bool
  | .move _ | .assign _ | .pick .. | .binOp .. | .unOp .. | .slice .. | .convert .. | .index .. | .indexAddr .. | .load .. | .fieldAddr .. | .field .. | .extract .. | .nilCheck _ | .build .. => true
  | .call c => match c.callee with | .builtin .len | .builtin .cap => true | _ => false
  | _ => false

theorem andThen_value {s : Sem Value} {w w' : World} {n : Next} (hr : (Sem.run P (do pure (.value (← s)) : Sem Next) w) = .ok n w') : ∃ u, n = .value u := by
  rw [Sem.run_bind] at hr
  cases h : s.run P w with
  | ok u w1 => rw [h] at hr; simp [Result.andThen] at hr; exact ⟨u, hr.1.symm⟩
  | halt x w1 => rw [h] at hr; simp [Result.andThen] at hr

theorem plain_value {o : Oper} {ρ : Operand → Value} {w w' : World} {n : Next} (h : plainOp o.op = true) (hr : (execOp ρ o).run P w = .ok n w') : ∃ u, n = .value u := by
  obtain ⟨dst, op, ty, pos, after, guard⟩ := o
  cases op
  case call c =>
    obtain ⟨callee, args, ats⟩ := c
    cases callee
    case builtin b =>
      cases b <;> simp [plainOp] at h
      all_goals
        rw [BigFrame.execOp_builtin] at hr
        first | rw [BigFrame.builtin_len] at hr | rw [BigFrame.builtin_cap] at hr
        exact andThen_value hr
    all_goals simp [plainOp] at h
  case move x => unfold execOp at hr; simp at hr; exact ⟨_, hr.1.symm⟩
  case assign x => unfold execOp at hr; simp at hr; exact ⟨_, hr.1.symm⟩
  case pick c a b =>
    unfold execOp at hr
    simp only [Sem.run_bind] at hr
    cases hc : (asBool (ρ c)).run P w with
    | ok u w1 => rw [hc] at hr; simp [Result.andThen] at hr; exact ⟨_, hr.1.symm⟩
    | halt x w1 => rw [hc] at hr; simp [Result.andThen] at hr
  case nilCheck x =>
    unfold execOp at hr
    simp only at hr
    split at hr
    all_goals first | (simp at hr; exact ⟨_, hr.1.symm⟩) | (simp [runtimePanic, goPanic] at hr; done) | skip
    split at hr
    · simp [runtimePanic, goPanic] at hr
    · simp only [Sem.run_bind] at hr
      revert hr
      cases Sem.run P program w <;> simp [Result.andThen]
      rename_i p w1
      cases Sem.run P (nilAhead (p.types.size + Made.depth) _ _ _) w1 <;> simp
      rename_i b w2
      intro hr
      split at hr
      all_goals first
        | (simp at hr; exact ⟨_, hr.1.symm⟩)
        | (simp at hr; done)
        | (revert hr; cases Sem.run P (unsupported _ : Sem PUnit) w2 <;> simp [Result.andThen]; intro h _; exact ⟨_, h.symm⟩)
    all_goals (simp at hr; exact ⟨_, hr.1.symm⟩)
  all_goals first | (simp [plainOp] at h; done) | (unfold execOp at hr; exact andThen_value hr)

theorem yieldsIf_of_quiet {o : Oper} {a : Act} {K : Act → Prop} (hp : plainOp o.op = true) (hne : ∃ w, C w)
    (h : if Region.wanted o (yielded ops a.tmps) then o.quiet P a C K else K (a.put o.dst undef)) : ∃ v, YieldsIf P ops C o v a ∧ K (a.put o.dst v) := by
  by_cases hw : Region.wanted o (yielded ops a.tmps) = true
  · simp only [hw, if_true] at h
    obtain ⟨v, h1, h2⟩ := h
    refine ⟨v, .inl ⟨hw, fun w hC => ?_⟩, h2⟩
    have h3 := h1 w hC
    unfold Oper.quietAt at h3
    cases hr : (execOp a.eval o).run P w with
    | ok n w' =>
      obtain ⟨u, rfl⟩ := plain_value hp hr
      rw [hr] at h3
      simp only [Oper.quietUpon] at h3
      obtain ⟨rfl, rfl⟩ := h3
      rfl
    | halt x w' => rw [hr] at h3; simp only [Oper.quietUpon] at h3
  · simp only [hw] at h
    exact ⟨undef, .inr ⟨by simpa using hw, rfl⟩, h⟩

/-- The operations at these places. -/
def opsAt (ops : Array Oper) : List Nat → List Oper
  | [] => []
  | i :: is => match ops[i]? with | some o => o :: opsAt ops is | none => opsAt ops is
def setAll (listed : Array Bool) : List Nat → Array Bool
  | [] => listed
  | i :: is => setAll (listed.setIfInBounds i true) is
def runB (md : Region.Mode) (ops : Array Oper) : List Nat → Array Bool → Bool
  | [], _ => true
  | i :: is, listed => (match ops[i]? with | some o => plainOp o.op | none => false) && (Region.ready md ops listed).contains i && Region.free md ops listed i && runB md ops is (listed.setIfInBounds i true)

theorem anyH_run (hs : Region.noSelect ops = true) (hQ : ∀ (c : _) (a : Act) (d : Option Tmp) (v : Value) (w : World), Q (.panic c) (a.put d v) w → Q (.panic c) a w) (fuel : Nat) {w : World} (hC : C w) : ∀ (is : List Nat) (listed : Array Bool) (a : Act),
    runB md ops is listed = true → wpQuiet P ops C (fun a' => wpAnyH P md ops Q C fuel (setAll listed is) a' w) (opsAt ops is) a → wpAnyH P md ops Q C (fuel + is.length) listed a w
  | [], listed, a, _, h => h
  | i :: is, listed, a, hB, h => by
    simp only [runB, Bool.and_eq_true] at hB
    obtain ⟨⟨⟨hp, hr⟩, hf⟩, hB'⟩ := hB
    cases ho : ops[i]? with
    | none => rw [ho] at hp; cases hp
    | some o =>
      rw [ho] at hp
      simp only [opsAt, ho, wpQuiet] at h
      obtain ⟨v, hy, hK⟩ := yieldsIf_of_quiet hp ⟨w, hC⟩ h
      exact wpAnyH_take ho hs hf hr (fun c a w => hQ c a o.dst v w) hy hC (anyH_run hs hQ fuel hC is _ _ hB' hK)

/-- The walk: runs of plain operations, behind each the one operation that may come up then. -/
def wpMix (P : Program) (ops : Array Oper) (C : World → Prop) (Q : Exit → Act → World → Prop) : List (List Nat × Nat) → List Nat → Act → World → Prop
  | [], last, a, w => wpQuiet P ops C (fun a' => Q .normal a' w) (opsAt ops last) a
  | (is, c) :: rest, last, a, w => wpQuiet P ops C (fun a' => match ops[c]? with
      | none => False
      | some o => if Region.wanted o (yielded ops a'.tmps) then o.wp P a' w (fun a'' w'' => C w'' ∧ wpMix P ops C Q rest last a'' w'') Q else wpMix P ops C Q rest last (a'.put o.dst undef) w) (opsAt ops is) a
def mixB (md : Region.Mode) (ops : Array Oper) : List (List Nat × Nat) → List Nat → Array Bool → Bool
  | [], last, listed => runB md ops last listed && (Region.ready md ops (setAll listed last)).isEmpty
  | (is, c) :: rest, last, listed => runB md ops is listed && decide (Region.ready md ops (setAll listed is) = [c]) && mixB md ops rest last ((setAll listed is).setIfInBounds c true)
def mixLen : List (List Nat × Nat) → List Nat → Nat
  | [], last => last.length
  | (is, c) :: rest, last => mixLen rest last + 1 + is.length

theorem anyH_mix (hs : Region.noSelect ops = true) (hQ : ∀ (c : _) (a : Act) (d : Option Tmp) (v : Value) (w : World), Q (.panic c) (a.put d v) w → Q (.panic c) a w) (k : Nat) (last : List Nat) : ∀ (bs : List (List Nat × Nat)) (listed : Array Bool) (a : Act) (w : World), C w →
    mixB md ops bs last listed = true → wpMix P ops C Q bs last a w → wpAnyH P md ops Q C (k + mixLen bs last) listed a w
  | [], listed, a, w, hC, hB, h => by
    simp only [mixB, Bool.and_eq_true] at hB
    have hr : Region.ready md ops (setAll listed last) = [] := by simpa using hB.2
    refine anyH_run hs hQ k hC last listed a hB.1 ?_
    have mono : ∀ (l : List Oper) (a : Act), wpQuiet P ops C (fun a' => Q .normal a' w) l a → wpQuiet P ops C (fun a' => wpAnyH P md ops Q C k (setAll listed last) a' w) l a := by
      intro l
      induction l with
      | nil => intro a h; exact wpAnyH_done hr h k
      | cons o l ih =>
        intro a h
        simp only [wpQuiet] at h ⊢
        split
        · rename_i hw; simp only [hw, if_true] at h; exact Oper.quiet_mono (fun a h => ih a h) h
        · rename_i hw; simp only [hw] at h; exact ih _ h
    exact mono _ _ h
  | (is, c) :: rest, listed, a, w, hC, hB, h => by
    simp only [mixB, Bool.and_eq_true] at hB
    obtain ⟨⟨hB1, hB2⟩, hB3⟩ := hB
    have hr : Region.ready md ops (setAll listed is) = [c] := by simpa using hB2
    simp only [mixLen]
    rw [← Nat.add_assoc]
    refine anyH_run hs hQ _ hC is listed a hB1 ?_
    simp only [wpMix] at h
    have step : ∀ a' : Act, (match ops[c]? with
      | none => False
      | some o => if Region.wanted o (yielded ops a'.tmps) then o.wp P a' w (fun a'' w'' => C w'' ∧ wpMix P ops C Q rest last a'' w'') Q else wpMix P ops C Q rest last (a'.put o.dst undef) w) → wpAnyH P md ops Q C (k + (mixLen rest last + 1)) (setAll listed is) a' w := by
      intro a' ha
      rw [← Nat.add_assoc]
      refine wpAnyH_all hr (by simp) fun i hi => ?_
      obtain rfl : i = c := by simpa using hi
      unfold wpOp
      cases ho : ops[i]? with
      | none => rw [ho] at ha; exact ha.elim
      | some o =>
        rw [ho] at ha
        simp only at ha ⊢
        split
        · rename_i hw
          simp only [hw, if_true] at ha
          exact .inl (Oper.wp_mono (fun a'' w'' ⟨h1, h2⟩ => ⟨h1, anyH_mix hs hQ k last rest _ a'' w'' h1 hB3 h2⟩) ha)
        · rename_i hw
          simp only [hw] at ha
          exact ⟨hC, anyH_mix hs hQ k last rest _ _ w hC hB3 ha⟩
    have mono : ∀ (l : List Oper) (a : Act), wpQuiet P ops C (fun a' => match ops[c]? with
      | none => False
      | some o => if Region.wanted o (yielded ops a'.tmps) then o.wp P a' w (fun a'' w'' => C w'' ∧ wpMix P ops C Q rest last a'' w'') Q else wpMix P ops C Q rest last (a'.put o.dst undef) w) l a → wpQuiet P ops C (fun a' => wpAnyH P md ops Q C (k + (mixLen rest last + 1)) (setAll listed is) a' w) l a := by
      intro l
      induction l with
      | nil => intro a h; exact step a h
      | cons o l ih =>
        intro a h
        simp only [wpQuiet] at h ⊢
        split
        · rename_i hw; simp only [hw, if_true] at h; exact Oper.quiet_mono (fun a h => ih a h) h
        · rename_i hw; simp only [hw] at h; exact ih _ h
    exact mono _ _ h

/-- The region. -/
theorem wp_region_mix {id : Nat} {a : Act} {w : World} {l : List Oper} (bs : List (List Nat × Nat)) (last : List Nat) (hm : P.follows .mixedOrders = true)
    (hB : (Region.noSelect l.toArray && mixB .any l.toArray bs last (Array.replicate l.toArray.size false) && decide (mixLen bs last ≤ l.toArray.size)) = true)
    (hQ : ∀ (c : _) (a : Act) (d : Option Tmp) (v : Value) (w : World), Q (.panic c) (a.put d v) w → Q (.panic c) a w) (hC : C w.drew)
    (h : ∀ wd, wd = w.drew → wpMix P l.toArray C Q bs last a wd) : (Code.region id l.toArray true).wp P Q a w := by
  simp only [Bool.and_eq_true, decide_eq_true_eq] at hB
  obtain ⟨⟨hs, hb⟩, hle⟩ := hB
  refine wp_region_held (S := C) hm ?_
  have := anyH_mix (md := .any) hs hQ (l.toArray.size - mixLen bs last) last bs (Array.replicate l.toArray.size false) a w.drew hC hb (h _ rfl)
  rwa [Nat.sub_add_cancel hle] at this

/-- What the one operation owes. -/
def nextMix (P : Program) (ops : Array Oper) (C : World → Prop) (Q : Exit → Act → World → Prop) (rest : List (List Nat × Nat)) (last : List Nat) (o : Oper) (w : World) (a : Act) : Prop :=
  if Region.wanted o (yielded ops a.tmps) then o.wp P a w (fun a'' w'' => C w'' ∧ wpMix P ops C Q rest last a'' w'') Q else wpMix P ops C Q rest last (a.put o.dst undef) w
theorem mix_run {is last : List Nat} {c : Nat} {rest : List (List Nat × Nat)} {l : List Oper} {o : Oper} {a : Act} {w : World} (hl : opsAt ops is = l) (ho : ops[c]? = some o) (h : wpQuiet P ops C (nextMix P ops C Q rest last o w) l a) : wpMix P ops C Q ((is, c) :: rest) last a w := by
  subst hl
  unfold wpMix
  rw [ho]
  exact h
theorem mix_last {last : List Nat} {l : List Oper} {a : Act} {w : World} (hl : opsAt ops last = l) (h : wpQuiet P ops C (fun a' => Q .normal a' w) l a) : wpMix P ops C Q [] last a w := by
  subst hl
  exact h
theorem mix_call {rest : List (List Nat × Nat)} {last : List Nat} {o : Oper} {a : Act} {w : World} (hw : Region.wanted o (yielded ops a.tmps) = true) (h : ∀ K : Act → World → Prop, (∀ a w, C w → wpMix P ops C Q rest last a w → K a w) → o.wp P a w K Q) : nextMix P ops C Q rest last o w a := by
  unfold nextMix
  rw [if_pos hw]
  exact h _ fun a w hc h => ⟨hc, h⟩
end

/-- Any world. -/
structure AnyW where
  w : World
theorem AnyW.any (w : World) : ∃ x : AnyW, w = x.w := ⟨⟨w⟩, rfl⟩
instance : Nonempty AnyW := ⟨⟨default⟩⟩
end Go.Proofs.Ytfjdhhheofcanaa
