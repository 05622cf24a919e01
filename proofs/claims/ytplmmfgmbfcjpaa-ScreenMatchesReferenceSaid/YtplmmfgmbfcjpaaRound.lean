/- A region that draws its order in the body of a loop over a function: whatever the plain calculus says of it stands in the round too. Nothing of the program. -/
import Derived.Test.YtplmmfgmbfcjpaaMix
import Derived.Test.YtplmmfgmbfcjpaaLate
import Derived.RangeFuncCalls
import Derived.OrdersIn
namespace Go.Proofs.Ytplmmfgmbfcjpaa
open Go.RowKit
set_option linter.unusedVariables false

/-- No operation is a defer statement. -/
def noDefer (ops : Array Oper) : Bool := ops.toList.all fun o => match o.op with | .defer _ => false | _ => true

section
variable {P : Program} {ops : Array Oper} {C : World → Prop} {Q : Exit → Act → World → Prop} {l : Nat} {n : Nat}

theorem op_round {o : Oper} {a : Act} {w : World} {K K' : Act → World → Prop} (hd : ∀ c, o.op ≠ .defer c) (hK : ∀ a w, K a w → K' a w) (hQ : ¬ LetsOut Q) (h : o.wp P a w K Q) : o.wpIn (Fence.wide.inRound l) n P a w K' Q := by
  unfold Oper.wp at h
  unfold Oper.wpIn
  refine ⟨fun _ _ => trivial, ?_⟩
  rw [Oper.semAt_eq _ _ _ hd]
  generalize (execOp a.eval o).run P w = r at *
  cases r with
  | ok x w' =>
    cases x <;> simp only [Oper.upon, Oper.uponIn] at h ⊢
    case value v => exact hK _ _ h
    case skip => exact hK _ _ h
    case defer d => exact hK _ _ h
    case enter f args =>
      refine ⟨fun hs => by simp [Fence.wide] at hs, ?_⟩
      refine CallsIn.inRound l (callsIn_wide.2 (h.mono ?_))
      intro e w'' he
      cases e with
      | returned v => exact hK _ _ he
      | panicked c => exact he
      | outgrown => exact he
    case row row args =>
      refine ⟨fun hs => by simp [Fence.wide] at hs, fun c cs _ => ?_⟩
      obtain ⟨v, w'', hr, hs⟩ := h c cs
      exact ⟨v, w'', hK _ _ hr, stepsIn_wide.2 hs⟩
  | halt x w' => cases x <;> simp only [Oper.upon, Oper.uponIn] at h ⊢; exact h

theorem ops_round (hd : noDefer ops = true) (hQ : ¬ LetsOut Q) : ∀ (is : List Nat) (a : Act) (w : World), wpOps P ops Q is a w → wpOpsIn (Fence.wide.inRound l) n P ops Q is a w
  | [], a, w, h => h
  | i :: is, a, w, h => by
    simp only [wpOps] at h
    simp only [wpOpsIn]
    cases ho : ops[i]? with
    | none => rw [ho] at h; exact ops_round hd hQ is a w h
    | some o =>
      rw [ho] at h
      have hnd : ∀ c, o.op ≠ .defer c := by
        intro c hc
        have hm : o ∈ ops.toList := by
          rw [Array.mem_toList_iff]
          exact Array.mem_of_getElem? ho
        have := (List.all_eq_true.1 hd) o hm
        rw [hc] at this
        cases this
      simp only at h ⊢
      by_cases hw : Region.wanted o (yielded ops a.tmps) = true
      · rw [if_pos hw] at h ⊢
        rcases h with h | ⟨_, h⟩
        · exact op_round hnd (fun a w h => ops_round hd hQ is a w h) hQ h
        · exact absurd h hQ
      · rw [if_neg hw] at h ⊢
        exact ⟨fun _ _ => trivial, ops_round hd hQ is _ w h⟩

/-- The region, in a round. -/
theorem wpIn_region_mix {id : Nat} {a : Act} {w : World} {ls : List Oper} (bs : List (List Nat × Nat)) (last : List Nat) (hm : P.follows .mixedOrders = true)
    (hB : (Region.noSelect ls.toArray && mixB .any ls.toArray bs last (Array.replicate ls.toArray.size false) && decide (mixLen bs last ≤ ls.toArray.size) && noDefer ls.toArray) = true)
    (hQ : ∀ (c : _) (a : Act) (d : Option Tmp) (v : Value) (w : World), Q (.panic c) (a.put d v) w → Q (.panic c) a w) (hO : ∀ a w, ¬ Q .outgrown a w) (hC : C w.drew)
    (h : ∀ wd, wd = w.drew → wpMix P ls.toArray C Q bs last a wd) : (Code.region id ls.toArray true).wpIn (Fence.wide.inRound l) n P Q a w := by
  simp only [Bool.and_eq_true, decide_eq_true_eq] at hB
  obtain ⟨⟨⟨hs, hb⟩, hle⟩, hd⟩ := hB
  refine wpIn_region_draw fun t => ?_
  refine ops_round hd (fun ⟨a, w, h⟩ => hO a w h) _ _ _ ?_
  simp only [Region.schedule, hm, Bool.true_or, if_true]
  refine wpAny_sound ls.toArray.size t _ a _ ?_
  refine wpAny_of_held (S := C) _ _ _ _ ?_
  have := anyH_mix (md := .any) hs hQ (ls.toArray.size - mixLen bs last) last bs (Array.replicate ls.toArray.size false) a w.drew hC hb (h _ rfl)
  rwa [Nat.sub_add_cancel hle] at this
/-- The same with a store at its end into what it may have loaded. -/
theorem wpIn_region_late {id : Nat} {a : Act} {w : World} {ls : List Oper} (c0 : Nat) (bs : List (List Nat × Nat × Bool)) (is0 last : List Nat) (hm : P.follows .mixedOrders = true)
    (hB : (Region.noSelect ls.toArray && lateB .any ls.toArray c0 bs is0 last (Array.replicate ls.toArray.size false) && decide (lateLen bs is0 last ≤ ls.toArray.size) && noDefer ls.toArray) = true)
    (hQ : ∀ (c : _) (a : Act) (d : Option Tmp) (v : Value) (w : World), Q (.panic c) (a.put d v) w → Q (.panic c) a w) (hO : ∀ a w, ¬ Q .outgrown a w) (hC : ∀ w w', C w → Gr w w' → C w') (hw : C w.drew)
    (h : ∀ wd, wd = w.drew → wpLate P ls.toArray C Q c0 bs is0 last a wd) : (Code.region id ls.toArray true).wpIn (Fence.wide.inRound l) n P Q a w := by
  simp only [Bool.and_eq_true, decide_eq_true_eq] at hB
  obtain ⟨⟨⟨hs, hb⟩, hle⟩, hd⟩ := hB
  refine wpIn_region_draw fun t => ?_
  refine ops_round hd (fun ⟨a, w, h⟩ => hO a w h) _ _ _ ?_
  simp only [Region.schedule, hm, Bool.true_or, if_true]
  refine wpAny_sound ls.toArray.size t _ a _ ?_
  refine wpAny_of_late (C := C) (c0 := c0) _ _ _ _ ?_
  have := anyL_late (md := .any) hs hQ hC (ls.toArray.size - lateLen bs is0 last) is0 last bs (Array.replicate ls.toArray.size false) a w.drew hw hb (h _ rfl)
  rwa [Nat.sub_add_cancel hle] at this
/-- A plain operation of a region that does not draw, in a round. -/
theorem listIn_op {rest : List Oper} {o : Oper} {a : Act} {w : World} (hg : o.guard = none) (hd : ∀ c, o.op ≠ .defer c) (hO : ∀ a w, ¬ Q .outgrown a w) (h : o.wp P a w (fun a' w' => wpListIn (Fence.wide.inRound l) n P ops Q rest a' w') Q) :
    wpListIn (Fence.wide.inRound l) n P ops Q (o :: rest) a w :=
  wpListIn_plain hg fun K hK => op_round hd hK (fun ⟨a, w, h⟩ => hO a w h) h
end
end Go.Proofs.Ytplmmfgmbfcjpaa
