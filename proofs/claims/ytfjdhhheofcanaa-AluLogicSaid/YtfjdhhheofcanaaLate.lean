/- A region that draws its order and ends with a store into what it may have loaded: operations that leave one value in every world of a class, calls that make memory among them, are taken in the order of the text; allocations and the last store are carried out where they stand. Nothing of the program. -/
import Derived.Test.YtfjdhhheofcanaaMix
import Derived.Test.YtfjdhhheofcanaaCalm
namespace Go.Proofs.Ytfjdhhheofcanaa
open Go.RowKit
set_option linter.unusedVariables false

/-- Memory was made, and nothing that was there has turned. -/
abbrev Gr (w w' : World) : Prop := Below w.heap.size w w'
theorem Gr.refl (w : World) : Gr w w := Below.refl _ _
theorem Gr.trans {a b c : World} (h : Gr a b) (k : Gr b c) : Gr a c := Below.trans h (k.mono h.size)

section
variable {P : Program} {ops : Array Oper} {Q : Exit → Act → World → Prop} {md : Region.Mode} {C T : World → Prop} {c0 : Nat}

/-- C, until operation c0 has come up. -/
def lateS (C : World → Prop) (c0 : Nat) (listed : Array Bool) (w : World) : Prop := listed.getD c0 true = false → C w
/-- Whatever order is picked from here on, and whatever memory is made between the operations. -/
def anyL (P : Program) (md : Region.Mode) (ops : Array Oper) (Q : Exit → Act → World → Prop) (C : World → Prop) (c0 : Nat) : Nat → Array Bool → Act → World → Prop
  | 0, listed, a, w => ∀ w', Gr w w' → Region.ready md ops listed = [] ∧ Q .normal a w'
  | n + 1, listed, a, w => ∀ w', Gr w w' → (Region.ready md ops listed = [] → Q .normal a w') ∧
      ∀ i ∈ Region.ready md ops listed, wpOp P ops Q i (fun a'' w'' => lateS C c0 (listed.setIfInBounds i true) w'' ∧ anyL P md ops Q C c0 n (listed.setIfInBounds i true) a'' w'') a w'
theorem anyL_mono {n : Nat} {listed : Array Bool} {a : Act} {w w' : World} (h : anyL P md ops Q C c0 n listed a w) (g : Gr w w') : anyL P md ops Q C c0 n listed a w' := by
  cases n with
  | zero => exact fun w'' g' => h w'' (g.trans g')
  | succ n => exact fun w'' g' => h w'' (g.trans g')
theorem wpAny_of_late : ∀ (n : Nat) (listed : Array Bool) (a : Act) (w : World), anyL P md ops Q C c0 n listed a w → wpAny P md ops Q n listed a w
  | 0, _, _, w, h => h w (Gr.refl w)
  | n + 1, _, _, w, h => ⟨(h w (Gr.refl w)).1, fun i hi => wpOp_mono (fun a' w' h' => wpAny_of_late n _ a' w' h'.2) ((h w (Gr.refl w)).2 i hi)⟩
/-- The operation leaves v in every world of T, and makes memory at most. -/
def calmAt (P : Program) (w : World) (v : Value) : Result Next → Prop
  | .ok (.value u) w' => u = v ∧ Gr w w'
  | .ok (.enter f args) w' => w' = w ∧ Calls P f args w fun e w'' => e = .returned v ∧ Gr w w''
  | _ => False
def CalmIf (P : Program) (ops : Array Oper) (T : World → Prop) (o : Oper) (v : Value) (a : Act) : Prop :=
  (Region.wanted o (yielded ops a.tmps) = true ∧ ∀ w, T w → calmAt P w v ((execOp a.eval o).run P w)) ∨ (Region.wanted o (yielded ops a.tmps) = false ∧ v = undef)
theorem CalmIf.of_same {o : Oper} {v : Value} {a a' : Act} (h : CalmIf P ops T o v a) (he : execOp a'.eval o = execOp a.eval o) (hw : Region.wanted o (yielded ops a'.tmps) = Region.wanted o (yielded ops a.tmps)) : CalmIf P ops T o v a' := by
  unfold CalmIf at *
  rw [he, hw]
  exact h
theorem CalmIf.op {i : Nat} {o : Oper} {v : Value} {a : Act} (hi : ops[i]? = some o) (h : CalmIf P ops T o v a) {K : Act → World → Prop} {w : World} (hT : T w) (hK : ∀ w', Gr w w' → K (a.put o.dst v) w') : wpOp P ops Q i K a w := by
  unfold wpOp
  rw [hi]
  simp only
  rcases h with ⟨hw, h⟩ | ⟨hw, rfl⟩
  · rw [if_pos hw]
    refine .inl ?_
    have h := h w hT
    unfold Oper.wp
    generalize (execOp a.eval o).run P w = r at *
    cases r with
    | ok n w' =>
      cases n <;> simp only [calmAt] at h <;> simp only [Oper.upon]
      case value u => rw [h.1]; exact hK _ h.2
      case enter f args =>
        rw [h.1]
        exact h.2.mono fun e w'' ⟨he, hg⟩ => by subst he; exact hK _ hg
    | halt x w' => simp only [calmAt] at h
  · rw [if_neg (by rw [hw]; decide)]
    exact hK w (Gr.refl w)
/-- An operation apart from another one does what it does with the other's value in its slot, too; what holds of the frame and abides its slots goes along. -/
theorem wpOp_along {j : Nat} {oi oj : Oper} {v : Value} {X : Act → Prop} (hj : ops[j]? = some oj) (hap : oi.apart ops oj = true) (hsj : ∀ cs b, oj.op ≠ .select cs b)
    (hQ : ∀ (c : _) (a : Act) (w : World), Q (.panic c) (a.put oi.dst v) w → Q (.panic c) a w) (hX1 : ∀ a u, X a → X (a.put oj.dst u)) (hX2 : ∀ (a : Act) d, X a → X { a with defers := d :: a.defers })
    {K : Act → World → Prop} {a : Act} {w : World} (hx : X a) (h : wpOp P ops Q j K (a.put oi.dst v) w) : wpOp P ops Q j (fun a' w' => X a' ∧ K (a'.put oi.dst v) w') a w := by
  obtain ⟨h1, h2, _⟩ := Oper.apart_spec hap
  have he := execOp_put oj hsj a oi.dst v h1
  have hv : ∀ (b : Act) u, K ((b.put oi.dst v).put oj.dst u) w → K ((b.put oj.dst u).put oi.dst v) w := fun b u hk => by rwa [← Act.put_comm b v u h2]
  unfold wpOp at *
  rw [hj] at h ⊢
  simp only at h ⊢
  rw [wanted_put oj a oi.dst v h1] at h
  by_cases hw : Region.wanted oj (yielded ops a.tmps) = true
  · rw [if_pos hw] at h ⊢
    rcases h with h | ⟨ha, hl⟩
    · refine .inl ?_
      unfold Oper.wp at h ⊢
      rw [he] at h
      generalize (execOp a.eval oj).run P w = r at *
      cases r with
      | ok n w' =>
        cases n <;> simp only [Oper.upon] at h ⊢
        case value u => exact ⟨hX1 _ _ hx, by rw [← Act.put_comm a v u h2]; exact h⟩
        case skip => exact ⟨hX1 _ _ hx, by rw [← Act.put_comm a v undef h2]; exact h⟩
        case defer d =>
          refine ⟨hX1 _ _ (hX2 _ _ hx), ?_⟩
          rw [← Act.put_comm _ v undef h2, ← Act.put_defers]
          exact h
        case enter f args =>
          refine h.mono fun e w'' hh => ?_
          cases e with
          | returned u => exact ⟨hX1 _ _ hx, by rw [← Act.put_comm a v u h2]; exact hh⟩
          | panicked c => exact hQ _ _ _ hh
          | outgrown => exact hh
        case row row args => exact h.mono fun u w'' hh => ⟨hX1 _ _ hx, by rw [← Act.put_comm a v u h2]; exact hh⟩
      | halt x w' =>
        cases x <;> simp only [Oper.upon] at h ⊢
        case panic u => exact hQ _ _ _ h
    · exact .inr ⟨by unfold Oper.asks at *; rw [he] at ha; exact ha, hl⟩
  · rw [if_neg hw] at h ⊢
    exact ⟨hX1 _ _ hx, by rw [← Act.put_comm a v undef h2]; exact h⟩

/-- A calm operation may be taken first. -/
theorem anyL_first {i : Nat} {oi : Oper} {v : Value} {I : Array Bool → Prop} (hi : ops[i]? = some oi) (hs : Region.noSelect ops = true) (hQ : ∀ (c : _) (a : Act) (w : World), Q (.panic c) (a.put oi.dst v) w → Q (.panic c) a w) (hic : i ≠ c0)
    (hC : ∀ w w', C w → Gr w w' → C w') (hT : ∀ (listed : Array Bool) w, I listed → lateS C c0 listed w → T w) (hI : ∀ (listed : Array Bool) j, I listed → listed.getD i true = false → j ∈ Region.ready md ops listed → j ≠ i → I (listed.setIfInBounds j true)) :
    ∀ (n : Nat) (listed : Array Bool) (a : Act) (w : World), (∀ j oj, ops[j]? = some oj → j ≠ i → listed.getD j true = false → (∀ e ∈ oj.after, Region.binds md e = true → e.on ≠ i) → oi.apart ops oj = true) →
      i ∈ Region.ready md ops listed → I listed → CalmIf P ops T oi v a → lateS C c0 listed w → anyL P md ops Q C c0 n (listed.setIfInBounds i true) (a.put oi.dst v) w → anyL P md ops Q C c0 (n + 1) listed a w := by
  intro n
  have hset : ∀ (l : Array Bool) (w : World), lateS C c0 (l.setIfInBounds i true) w ↔ lateS C c0 l w := fun l w => by unfold lateS; rw [getD_set_ne true hic]
  have hcl : ∀ (l : Array Bool) (w w' : World), lateS C c0 l w → Gr w w' → lateS C c0 l w' := fun l w w' h g hc => hC _ _ (h hc) g
  induction n with
  | zero =>
    intro listed a w _ hr hIl hy hS H w' g
    refine ⟨fun h => (by rw [h] at hr; cases hr), fun j hj => ?_⟩
    by_cases hji : j = i
    · subst hji
      exact hy.op hi (hT _ _ hIl (hcl _ _ _ hS g)) fun w'' g' => ⟨(hset _ _).2 (hcl _ _ _ hS (g.trans g')), anyL_mono H (g.trans g')⟩
    · have h1 := ready_mono hj hji
      rw [(H w' g).1] at h1
      cases h1
  | succ n ih =>
    intro listed a w hfree hr hIl hy hS H w' g
    refine ⟨fun h => (by rw [h] at hr; cases hr), fun j hj => ?_⟩
    by_cases hji : j = i
    · subst hji
      exact hy.op hi (hT _ _ hIl (hcl _ _ _ hS g)) fun w'' g' => ⟨(hset _ _).2 (hcl _ _ _ hS (g.trans g')), anyL_mono H (g.trans g')⟩
    · have h1 := (H w' g).2 j (ready_mono hj hji)
      obtain ⟨hjun, oj, hoj, hall⟩ := mem_ready.1 hj
      have hiun := (mem_ready.1 hr).1
      have hnot : ∀ e ∈ oj.after, Region.binds md e = true → e.on ≠ i := fun e he hb heq => by
        have h2 := hall e he hb
        rw [heq] at h2
        have hlt : i < listed.size := by
          rcases Nat.lt_or_ge i listed.size with h' | h'
          · exact h'
          · simp [Array.getElem?_eq_none h'] at h2
        simp [hlt] at hiun h2
        rw [hiun] at h2
        cases h2
      have hap := hfree j oj hoj hji hjun hnot
      obtain ⟨_, _, h3⟩ := Oper.apart_spec hap
      have hsi : ∀ cs b, oi.op ≠ .select cs b := fun cs b => Region.noSelect_spec hs i oi cs b hi
      have h2 := wpOp_along (X := fun a => CalmIf P ops T oi v a) hoj hap (fun cs b => Region.noSelect_spec hs j oj cs b hoj) hQ
        (fun a u hx => hx.of_same (execOp_put oi hsi a oj.dst u h3) (wanted_put oi a oj.dst u h3)) (fun a d hx => hx.of_same rfl rfl) hy h1
      have hfree' : ∀ k ok, ops[k]? = some ok → k ≠ i → (listed.setIfInBounds j true).getD k true = false → (∀ e ∈ ok.after, Region.binds md e = true → e.on ≠ i) → oi.apart ops ok = true := fun k ok hk hki hun hno => by
        refine hfree k ok hk hki ?_ hno
        by_cases hjk : j = k
        · subst hjk; exact hjun
        · rw [getD_set_ne true hjk] at hun; exact hun
      refine wpOp_mono (fun a' w'' h4 => ?_) h2
      obtain ⟨hy', hS', hA'⟩ := h4
      rw [Array.setIfInBounds_comm _ _ (Ne.symm hji)] at hA' hS'
      exact ⟨(hset _ _).1 hS', ih (listed.setIfInBounds j true) a' w'' hfree' (ready_mono hr (Ne.symm hji)) (hI _ _ hIl hiun hj hji) hy' ((hset _ _).1 hS') hA'⟩

/-! ### The walk -/
/-- Those that wait for operation i, by way of each other: c0 is one of them. -/
def waitB (md : Region.Mode) (ops : Array Oper) (listed : Array Bool) (i c0 : Nat) : Bool :=
  let W := (List.range ops.size).foldl (fun W m => match ops[m]? with | some o => if o.after.any (fun e => Region.binds md e && (e.on == i || W.contains e.on)) then m :: W else W | none => W) []
  W.contains c0 && W.all fun m => !listed.getD m true && match ops[m]? with | some o => o.after.any (fun e => Region.binds md e && (e.on == i || W.contains e.on)) | none => false
theorem wait_keep {i : Nat} {listed : Array Bool} (h : waitB md ops listed i c0 = true) : ∃ I : Array Bool → Prop, I listed ∧ (∀ l, I l → l.getD c0 true = false) ∧ ∀ (l : Array Bool) j, I l → l.getD i true = false → j ∈ Region.ready md ops l → j ≠ i → I (l.setIfInBounds j true) := by
  unfold waitB at h
  generalize (List.range ops.size).foldl _ _ = W at h
  simp only [Bool.and_eq_true, List.all_eq_true] at h
  obtain ⟨hc, hW⟩ := h
  have hc : c0 ∈ W := by simpa using hc
  refine ⟨fun l => ∀ m ∈ W, l.getD m true = false, fun m hm => by have := (hW m hm).1; simpa using this, fun l hl => hl c0 hc, fun l j hl hiu hj hji m hm => ?_⟩
  have hjW : j ∉ W := fun hjm => by
    obtain ⟨_, oj, hoj, hall⟩ := mem_ready.1 hj
    have h2 := (hW j hjm).2
    rw [hoj] at h2
    simp only at h2
    obtain ⟨e, he, hb⟩ := Array.any_eq_true'.1 h2
    simp only [Bool.and_eq_true, Bool.or_eq_true, beq_iff_eq, List.contains_eq_mem, decide_eq_true_eq] at hb
    have h3 := hall e he hb.1
    have h4 : l.getD e.on true = false := by
      rcases hb.2 with h5 | h5
      · rw [h5]; exact hiu
      · exact hl _ h5
    have hlt : e.on < l.size := by
      rcases Nat.lt_or_ge e.on l.size with h' | h'
      · exact h'
      · simp [Array.getElem?_eq_none h'] at h3
    simp [hlt] at h3 h4
    rw [h3] at h4
    cases h4
  have hne : j ≠ m := fun e => hjW (e ▸ hm)
  rw [getD_set_ne true hne]
  exact hl m hm
/-- It yields the same in whatever world. -/
def simpleOp : Op → Bool
  | .move _ | .assign _ | .extract .. => true
  | _ => false
theorem simple_any {o : Oper} {ρ : Operand → Value} {v : Value} {w : World} (h : simpleOp o.op = true) (hr : (execOp ρ o).run P w = .ok (.value v) w) (w' : World) : (execOp ρ o).run P w' = .ok (.value v) w' := by
  obtain ⟨dst, op, ty, pos, after, guard⟩ := o
  cases op <;> simp [simpleOp] at h
  case move x => unfold execOp at hr ⊢; simp at hr ⊢; exact hr
  case assign x => unfold execOp at hr ⊢; simp at hr ⊢; exact hr
  case extract x k =>
    unfold execOp at hr ⊢
    simp only at hr ⊢
    cases hx : ρ x <;> simp [hx, go_sem] at hr ⊢
    all_goals
      first
      | (split at hr <;> simp_all [go_sem]; done)
      | (cases hk : _ <;> simp_all [go_sem]; done)
      | exact hr
def runL (md : Region.Mode) (ops : Array Oper) (c0 : Nat) : List Nat → Array Bool → Bool
  | [], _ => true
  | i :: is, listed => (match ops[i]? with | some o => plainOp o.op && (waitB md ops listed i c0 || simpleOp o.op) | none => false) && (Region.ready md ops listed).contains i && Region.free md ops listed i && decide (i ≠ c0) && runL md ops c0 is (listed.setIfInBounds i true)
theorem calm_of_yields {o : Oper} {v : Value} {a : Act} (h : YieldsIf P ops T o v a) : CalmIf P ops T o v a := by
  rcases h with ⟨hw, h⟩ | h
  · exact .inl ⟨hw, fun w hT => by rw [h w hT]; exact ⟨rfl, Gr.refl w⟩⟩
  · exact .inr h
theorem anyL_run (hs : Region.noSelect ops = true) (hQ : ∀ (c : _) (a : Act) (d : Option Tmp) (v : Value) (w : World), Q (.panic c) (a.put d v) w → Q (.panic c) a w) (hC : ∀ w w', C w → Gr w w' → C w') (n : Nat) {w : World} (hw : C w) : ∀ (is : List Nat) (listed : Array Bool) (a : Act),
    runL md ops c0 is listed = true → wpQuiet P ops C (fun a' => anyL P md ops Q C c0 n (setAll listed is) a' w) (opsAt ops is) a → anyL P md ops Q C c0 (n + is.length) listed a w
  | [], listed, a, _, h => h
  | i :: is, listed, a, hB, h => by
    simp only [runL, Bool.and_eq_true, decide_eq_true_eq] at hB
    obtain ⟨⟨⟨⟨hp, hr⟩, hf⟩, hic⟩, hB'⟩ := hB
    cases ho : ops[i]? with
    | none => rw [ho] at hp; cases hp
    | some o =>
      rw [ho] at hp
      simp only [Bool.and_eq_true, Bool.or_eq_true] at hp
      simp only [opsAt, ho, wpQuiet] at h
      obtain ⟨v, hy, hK⟩ := yieldsIf_of_quiet hp.1 ⟨w, hw⟩ h
      have hr' : i ∈ Region.ready md ops listed := by simpa using hr
      rcases hp.2 with hwt | hsm
      · obtain ⟨I, hI0, hI1, hI2⟩ := wait_keep hwt
        exact anyL_first (T := C) (I := I) ho hs (fun c a w => hQ c a o.dst v w) hic hC (fun l w hl hS => hS (hI1 l hl)) hI2 _ listed a w (Region.free_spec ho hf) hr' hI0 (calm_of_yields hy) (fun _ => hw) (anyL_run hs hQ hC n hw is _ _ hB' hK)
      · have hy' : YieldsIf P ops (fun _ => True) o v a := by
          rcases hy with ⟨h1, h2⟩ | h1
          · exact .inl ⟨h1, fun w' _ => simple_any hsm (h2 w hw) w'⟩
          · exact .inr h1
        exact anyL_first (T := fun _ => True) (I := fun _ => True) ho hs (fun c a w => hQ c a o.dst v w) hic hC (fun _ _ _ _ => trivial) (fun _ _ _ _ _ _ => trivial) _ listed a w (Region.free_spec ho hf) hr' trivial (calm_of_yields hy') (fun _ => hw) (anyL_run hs hQ hC n hw is _ _ hB' hK)

/-- The tail, behind c0. -/
def tailB (md : Region.Mode) (ops : Array Oper) (c0 : Nat) : List Nat → Array Bool → Bool
  | [], _ => true
  | i :: is, listed => (match ops[i]? with | some o => plainOp o.op | none => false) && (Region.ready md ops listed).contains i && Region.free md ops listed i && decide (i ≠ c0) && tailB md ops c0 is (listed.setIfInBounds i true)
theorem anyL_tail (hs : Region.noSelect ops = true) (hQ : ∀ (c : _) (a : Act) (d : Option Tmp) (v : Value) (w : World), Q (.panic c) (a.put d v) w → Q (.panic c) a w) (hC : ∀ w w', C w → Gr w w' → C w') (n : Nat) {w : World} : ∀ (is : List Nat) (listed : Array Bool) (a : Act),
    listed.getD c0 true = true → tailB md ops c0 is listed = true → wpQuiet P ops (fun w => ∃ x : AnyW, w = x.w) (fun a' => anyL P md ops Q C c0 n (setAll listed is) a' w) (opsAt ops is) a → anyL P md ops Q C c0 (n + is.length) listed a w
  | [], listed, a, _, _, h => h
  | i :: is, listed, a, hl, hB, h => by
    simp only [tailB, Bool.and_eq_true, decide_eq_true_eq] at hB
    obtain ⟨⟨⟨⟨hp, hr⟩, hf⟩, hic⟩, hB'⟩ := hB
    cases ho : ops[i]? with
    | none => rw [ho] at hp; cases hp
    | some o =>
      rw [ho] at hp
      simp only [opsAt, ho, wpQuiet] at h
      obtain ⟨v, hy, hK⟩ := yieldsIf_of_quiet hp ⟨w, AnyW.any w⟩ h
      have hr' : i ∈ Region.ready md ops listed := by simpa using hr
      have hl' : (listed.setIfInBounds i true).getD c0 true = true := by rw [getD_set_ne true hic]; exact hl
      exact anyL_first (T := fun w => ∃ x : AnyW, w = x.w) (I := fun _ => True) ho hs (fun c a w => hQ c a o.dst v w) hic hC (fun _ w _ _ => AnyW.any w) (fun _ _ _ _ _ _ => trivial) _ listed a w (Region.free_spec ho hf) hr' trivial (calm_of_yields hy)
        (fun h => by rw [hl] at h; cases h) (anyL_tail hs hQ hC n is _ _ hl' hB' hK)

/-- What the last operation owes. -/
def lastL (P : Program) (ops : Array Oper) (Q : Exit → Act → World → Prop) (c0 : Nat) (last : List Nat) (a : Act) (w : World) : Prop :=
  match ops[c0]? with
  | none => False
  | some o => if Region.wanted o (yielded ops a.tmps) then o.wp P a w (fun a'' w'' => wpQuiet P ops (fun w => ∃ x : AnyW, w = x.w) (fun a3 => ∀ w3, Gr w'' w3 → Q .normal a3 w3) (opsAt ops last) a'') Q else False
/-- The walk: runs of plain operations, behind each a calm call (true) or an operation that is carried out where it stands (false). -/
def wpLate (P : Program) (ops : Array Oper) (C : World → Prop) (Q : Exit → Act → World → Prop) (c0 : Nat) : List (List Nat × Nat × Bool) → List Nat → List Nat → Act → World → Prop
  | [], is0, last, a, w => wpQuiet P ops C (fun a' => ∀ w', Gr w w' → C w' → lastL P ops Q c0 last a' w') (opsAt ops is0) a
  | (is, c, true) :: rest, is0, last, a, w => wpQuiet P ops C (fun a' => match ops[c]? with
      | none => False
      | some o => ∃ v, CalmIf P ops C o v a' ∧ wpLate P ops C Q c0 rest is0 last (a'.put o.dst v) w) (opsAt ops is) a
  | (is, c, false) :: rest, is0, last, a, w => wpQuiet P ops C (fun a' => match ops[c]? with
      | none => False
      | some o => ∀ w', Gr w w' → C w' → if Region.wanted o (yielded ops a'.tmps) then o.wp P a' w' (fun a'' w'' => C w'' ∧ wpLate P ops C Q c0 rest is0 last a'' w'') Q else False) (opsAt ops is) a
def lateB (md : Region.Mode) (ops : Array Oper) (c0 : Nat) : List (List Nat × Nat × Bool) → List Nat → List Nat → Array Bool → Bool
  | [], is0, last, listed => runL md ops c0 is0 listed && decide (Region.ready md ops (setAll listed is0) = [c0]) && ((setAll listed is0).setIfInBounds c0 true).getD c0 true && tailB md ops c0 last ((setAll listed is0).setIfInBounds c0 true) && (Region.ready md ops (setAll ((setAll listed is0).setIfInBounds c0 true) last)).isEmpty
  | (is, c, true) :: rest, is0, last, listed => runL md ops c0 is listed && waitB md ops (setAll listed is) c c0 && (Region.ready md ops (setAll listed is)).contains c && Region.free md ops (setAll listed is) c && decide (c ≠ c0) && lateB md ops c0 rest is0 last ((setAll listed is).setIfInBounds c true)
  | (is, c, false) :: rest, is0, last, listed => runL md ops c0 is listed && decide (Region.ready md ops (setAll listed is) = [c]) && decide (c ≠ c0) && lateB md ops c0 rest is0 last ((setAll listed is).setIfInBounds c true)
def lateLen : List (List Nat × Nat × Bool) → List Nat → List Nat → Nat
  | [], is0, last => last.length + 1 + is0.length
  | (is, _, _) :: rest, is0, last => lateLen rest is0 last + 1 + is.length
theorem quietMono' {K K' : Act → Prop} (hK : ∀ a, K a → K' a) : ∀ (l : List Oper) (a : Act), wpQuiet P ops C K l a → wpQuiet P ops C K' l a := by
  intro l
  induction l with
  | nil => intro a h; exact hK a h
  | cons o l ih =>
    intro a h
    simp only [wpQuiet] at h ⊢
    split
    · rename_i hw; simp only [hw, if_true] at h; exact Oper.quiet_mono (fun a h => ih a h) h
    · rename_i hw; simp only [hw] at h; exact ih _ h
theorem lateS_of {l : Array Bool} {w : World} (h : C w) : lateS C c0 l w := fun _ => h
theorem anyL_late (hs : Region.noSelect ops = true) (hQ : ∀ (c : _) (a : Act) (d : Option Tmp) (v : Value) (w : World), Q (.panic c) (a.put d v) w → Q (.panic c) a w) (hC : ∀ w w', C w → Gr w w' → C w') (n : Nat) (is0 last : List Nat) : ∀ (bs : List (List Nat × Nat × Bool)) (listed : Array Bool) (a : Act) (w : World), C w →
    lateB md ops c0 bs is0 last listed = true → wpLate P ops C Q c0 bs is0 last a w → anyL P md ops Q C c0 (n + lateLen bs is0 last) listed a w
  | [], listed, a, w, hw, hB, h => by
    simp only [lateB, Bool.and_eq_true, decide_eq_true_eq] at hB
    obtain ⟨⟨⟨⟨hB1, hB2⟩, hB3⟩, hB4⟩, hB5⟩ := hB
    simp only [lateLen]
    rw [← Nat.add_assoc, ← Nat.add_assoc]
    refine anyL_run hs hQ hC _ hw is0 listed a hB1 (quietMono' (fun a' ha => ?_) _ _ h)
    intro w' g
    refine ⟨fun h => (by rw [hB2] at h; cases h), fun i hi => ?_⟩
    rw [hB2] at hi
    obtain rfl : i = c0 := by simpa using hi
    have ha := ha w' g (hC _ _ hw g)
    unfold lastL at ha
    unfold wpOp
    cases ho : ops[i]? with
    | none => rw [ho] at ha; exact ha.elim
    | some o =>
      rw [ho] at ha
      simp only at ha ⊢
      by_cases hwt : Region.wanted o (yielded ops a'.tmps) = true
      · rw [if_pos hwt] at ha ⊢
        refine .inl (Oper.wp_mono (fun a'' w'' h2 => ⟨fun h => (by rw [hB3] at h; cases h), ?_⟩) ha)
        refine anyL_tail hs hQ hC n last _ a'' hB3 hB4 (quietMono' (fun a3 h3 => ?_) _ _ h2)
        have hr : Region.ready md ops (setAll ((setAll listed is0).setIfInBounds i true) last) = [] := by simpa using hB5
        cases n with
        | zero => exact fun w3 g3 => ⟨hr, h3 w3 g3⟩
        | succ n => exact fun w3 g3 => ⟨fun _ => h3 w3 g3, fun i hi => by rw [hr] at hi; cases hi⟩
      · rw [if_neg hwt] at ha
        exact ha.elim
  | (is, c, true) :: rest, listed, a, w, hw, hB, h => by
    simp only [lateB, Bool.and_eq_true, decide_eq_true_eq] at hB
    obtain ⟨⟨⟨⟨⟨hB1, hB2⟩, hB3⟩, hB4⟩, hB5⟩, hB6⟩ := hB
    simp only [lateLen]
    rw [← Nat.add_assoc]
    simp only [wpLate] at h
    refine anyL_run hs hQ hC _ hw is listed a hB1 (quietMono' (fun a' ha => ?_) _ _ h)
    cases ho : ops[c]? with
    | none => rw [ho] at ha; exact ha.elim
    | some o =>
      rw [ho] at ha
      obtain ⟨v, hy, hK⟩ := ha
      obtain ⟨I, hI0, hI1, hI2⟩ := wait_keep hB2
      rw [← Nat.add_assoc]
      exact anyL_first (T := C) (I := I) ho hs (fun c a w => hQ c a o.dst v w) hB5 hC (fun l w hl hS => hS (hI1 l hl)) hI2 _ _ a' w (Region.free_spec ho hB4) (by simpa using hB3) hI0 hy (fun _ => hw) (anyL_late hs hQ hC n is0 last rest _ _ w hw hB6 hK)
  | (is, c, false) :: rest, listed, a, w, hw, hB, h => by
    simp only [lateB, Bool.and_eq_true, decide_eq_true_eq] at hB
    obtain ⟨⟨⟨hB1, hB2⟩, hB3⟩, hB4⟩ := hB
    simp only [lateLen]
    rw [← Nat.add_assoc]
    simp only [wpLate] at h
    refine anyL_run hs hQ hC _ hw is listed a hB1 (quietMono' (fun a' ha => ?_) _ _ h)
    rw [← Nat.add_assoc]
    intro w' g
    refine ⟨fun h => (by rw [hB2] at h; cases h), fun i hi => ?_⟩
    rw [hB2] at hi
    obtain rfl : i = c := by simpa using hi
    unfold wpOp
    cases ho : ops[i]? with
    | none => rw [ho] at ha; exact ha.elim
    | some o =>
      rw [ho] at ha
      have ha := ha w' g (hC _ _ hw g)
      simp only at ha ⊢
      by_cases hwt : Region.wanted o (yielded ops a'.tmps) = true
      · rw [if_pos hwt] at ha ⊢
        exact .inl (Oper.wp_mono (fun a'' w'' h2 => ⟨fun _ => h2.1, anyL_late hs hQ hC n is0 last rest _ a'' w'' h2.1 hB4 h2.2⟩) ha)
      · rw [if_neg hwt] at ha
        exact ha.elim

/-- The region. -/
theorem wp_region_late {id : Nat} {a : Act} {w : World} {l : List Oper} (c0 : Nat) (bs : List (List Nat × Nat × Bool)) (is0 last : List Nat) (hm : P.follows .mixedOrders = true)
    (hB : (Region.noSelect l.toArray && lateB .any l.toArray c0 bs is0 last (Array.replicate l.toArray.size false) && decide (lateLen bs is0 last ≤ l.toArray.size)) = true)
    (hQ : ∀ (c : _) (a : Act) (d : Option Tmp) (v : Value) (w : World), Q (.panic c) (a.put d v) w → Q (.panic c) a w) (hC : ∀ w w', C w → Gr w w' → C w') (hw : C w.drew)
    (h : ∀ wd, wd = w.drew → wpLate P l.toArray C Q c0 bs is0 last a wd) : (Code.region id l.toArray true).wp P Q a w := by
  simp only [Bool.and_eq_true, decide_eq_true_eq] at hB
  obtain ⟨⟨hs, hb⟩, hle⟩ := hB
  refine wp_region_any hm (wpAny_of_late (C := C) (c0 := c0) _ _ _ _ ?_)
  have := anyL_late (md := .any) hs hQ hC (l.toArray.size - lateLen bs is0 last) is0 last bs (Array.replicate l.toArray.size false) a w.drew hw hb (h _ rfl)
  rwa [Nat.sub_add_cancel hle] at this

/-! ### Its moves -/
variable {rest : List (List Nat × Nat × Bool)} {is is0 last : List Nat} {c : Nat} {l : List Oper} {o : Oper} {a : Act} {w : World}
/-- What the calm call owes. -/
def nextCalm (P : Program) (ops : Array Oper) (C : World → Prop) (Q : Exit → Act → World → Prop) (c0 : Nat) (rest : List (List Nat × Nat × Bool)) (is0 last : List Nat) (o : Oper) (w : World) (a : Act) : Prop := ∃ v, CalmIf P ops C o v a ∧ wpLate P ops C Q c0 rest is0 last (a.put o.dst v) w
def nextReal (P : Program) (ops : Array Oper) (C : World → Prop) (Q : Exit → Act → World → Prop) (c0 : Nat) (rest : List (List Nat × Nat × Bool)) (is0 last : List Nat) (o : Oper) (w : World) (a : Act) : Prop := ∀ w', Gr w w' → C w' → if Region.wanted o (yielded ops a.tmps) then o.wp P a w' (fun a'' w'' => C w'' ∧ wpLate P ops C Q c0 rest is0 last a'' w'') Q else False
def nextLast (P : Program) (ops : Array Oper) (C : World → Prop) (Q : Exit → Act → World → Prop) (last : List Nat) (o : Oper) (w : World) (a : Act) : Prop := ∀ w', Gr w w' → C w' → if Region.wanted o (yielded ops a.tmps) then o.wp P a w' (fun a'' w'' => wpQuiet P ops (fun w => ∃ x : AnyW, w = x.w) (fun a3 => ∀ w3, Gr w'' w3 → Q .normal a3 w3) (opsAt ops last) a'') Q else False
theorem late_calm (hl : opsAt ops is = l) (ho : ops[c]? = some o) (h : wpQuiet P ops C (nextCalm P ops C Q c0 rest is0 last o w) l a) : wpLate P ops C Q c0 ((is, c, true) :: rest) is0 last a w := by
  subst hl
  simp only [wpLate, ho]
  exact h
theorem late_real (hl : opsAt ops is = l) (ho : ops[c]? = some o) (h : wpQuiet P ops C (nextReal P ops C Q c0 rest is0 last o w) l a) : wpLate P ops C Q c0 ((is, c, false) :: rest) is0 last a w := by
  subst hl
  simp only [wpLate, ho]
  exact h
theorem late_last (hl : opsAt ops is0 = l) (ho : ops[c0]? = some o) (h : wpQuiet P ops C (nextLast P ops C Q last o w) l a) : wpLate P ops C Q c0 [] is0 last a w := by
  subst hl
  simp only [wpLate, lastL, ho]
  exact h
theorem exec_call {o : Oper} {ρ : Operand → Value} {g : Nat} {caps args : Array Value} (x : Operand) (xs : Array Operand) (ts : Array TypeId) (ho : o.op = .call { callee := .value x, args := xs, argTypes := ts }) (hx : ρ x = .func (.func g) #[] caps)
    (eg : ∀ args w, (callFunc g args).run P w = .ok (.enter g args) w) (ha : xs.map ρ ++ caps = args) (w : World) : (execOp ρ o).run P w = .ok (.enter g args) w := by
  subst ha
  unfold execOp
  simp only [ho, resolve, hx]
  simp [go_sem, invoke, eg]
theorem calm_fn {o : Oper} {g : Nat} {caps args : Array Value} {v : Value} (x : Operand) (xs : Array Operand) (ts : Array TypeId) (ho : o.op = .call { callee := .value x, args := xs, argTypes := ts }) (hw : Region.wanted o (yielded ops a.tmps) = true)
    (eg : ∀ args w, (callFunc g args).run P w = .ok (.enter g args) w) (hc : ∀ w, C w → Calls P g args w fun e w' => e = .returned v ∧ Gr w w') (hx : a.eval x = .func (.func g) #[] caps) (ha : xs.map a.eval ++ caps = args) : CalmIf P ops C o v a :=
  .inl ⟨hw, fun w hC => by rw [exec_call x xs ts ho hx eg ha w]; exact ⟨rfl, hc w hC⟩⟩
theorem wp_call_fn {o : Oper} {g : Nat} {caps args : Array Value} {K : Act → World → Prop} (x : Operand) (xs : Array Operand) (ts : Array TypeId) (ho : o.op = .call { callee := .value x, args := xs, argTypes := ts }) (eg : ∀ args w, (callFunc g args).run P w = .ok (.enter g args) w) (hx : a.eval x = .func (.func g) #[] caps) (ha : xs.map a.eval ++ caps = args)
    (h : Calls P g args w fun e w' => ∃ v, e = .returned v ∧ K (a.put o.dst v) w') : o.wp P a w K Q := by
  unfold Oper.wp
  rw [exec_call x xs ts ho hx eg ha w]
  simp only [Oper.upon]
  exact h.mono fun e w' ⟨v, he, hk⟩ => by subst he; exact hk
theorem calm_next {v : Value} (hy : CalmIf P ops C o v a) (h : wpLate P ops C Q c0 rest is0 last (a.put o.dst v) w) : nextCalm P ops C Q c0 rest is0 last o w a := ⟨v, hy, h⟩
theorem real_next (hw : Region.wanted o (yielded ops a.tmps) = true) (h : ∀ w', Gr w w' → C w' → ∀ K : Act → World → Prop, (∀ a w, C w → wpLate P ops C Q c0 rest is0 last a w → K a w) → o.wp P a w' K Q) : nextReal P ops C Q c0 rest is0 last o w a := by
  intro w' g hC
  rw [if_pos hw]
  exact h w' g hC _ fun a w hc h => ⟨hc, h⟩
theorem last_next (hw : Region.wanted o (yielded ops a.tmps) = true) (h : ∀ w', Gr w w' → C w' → ∀ K : Act → World → Prop, (∀ a w, wpQuiet P ops (fun w => ∃ x : AnyW, w = x.w) (fun a3 => ∀ w3, Gr w w3 → Q .normal a3 w3) (opsAt ops last) a → K a w) → o.wp P a w' K Q) : nextLast P ops C Q last o w a := by
  intro w' g hC
  rw [if_pos hw]
  exact h w' g hC _ fun a w h => h
end
end Go.Proofs.Ytfjdhhheofcanaa
