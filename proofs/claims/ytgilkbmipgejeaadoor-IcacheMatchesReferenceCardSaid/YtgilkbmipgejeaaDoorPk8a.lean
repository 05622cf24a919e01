/- What is kept beside each other in the walk of IcacheMatchesReference: a memory, a cache, the reference's bytes and entries, variables. -/
import Derived.Test.YtgilkbmipgejeaaDoorKIcAwake
import Derived.Test.YtgilkbmipgejeaaDoorKIcCoherentW
namespace Go.Proofs.YtgilkbmipgejeaaDoor
open Go.RowKit Num Dec
set_option linter.unusedVariables false
set_option linter.unusedSimpArgs false
set_option maxRecDepth 100000

theorem own_ent {w : World} {base n c : Nat} {A : Option Addr} {l : Ents} (h : w.ownsRow base 42 8 (.slice A n c) n (eflat l)) (hn : l.length = n) : EntR w A l := by
  intro hne
  have h0 : 0 < n := by
    rw [← hn]
    cases l with
    | nil => exact absurd rfl hne
    | cons a b => simp
  obtain ⟨g, c', e, hg, hlt⟩ := h.form h0
  injection e with e1 _ e2
  subst e1 e2
  refine ⟨g, rfl, hlt, fun k hk j v hv => ?_⟩
  have hj : j < 8 := (List.getElem?_eq_some_iff.1 hv).1
  have hl := eflat_len l
  have hi : k * 8 + j < n * 8 := by omega
  have hc := h.cellAt (k * 8 + j) hi
  have he := eflat_at l k j hk hj
  exact hc.trans (he.trans hv)
theorem quiet_load_cells {P : Program} {ops : Array Oper} {C : World → Prop} {Q : Act → Prop} {o : Oper} {rest : List Oper} {a : Act} {n : Nat} (ty : TypeId) (L : Array Value) (A : AggT P ty n) (hn : L.size = n) (ad : Addr) (H : ∀ w, C w → ∀ j v, L[j]? = some v → w.cell? (ad.add j) = some v) (hw : Region.wanted o (yielded ops a.tmps) = true) (x : Operand) (ho : o.op = .load ty x) (hx : a.eval x = .pointer (some ad))
    (h : wpQuiet P ops C Q rest (a.put o.dst (.agg L))) : wpQuiet P ops C Q (o :: rest) a := by
  refine quiet_run hw (.agg L) (fun w hC => ?_) h
  obtain ⟨⟨d, hu, hd⟩, hi⟩ := A
  obtain ⟨L⟩ := L
  have hl : (loadCells ad L.length).run P w = .ok L.toArray w :=
    run_loadCells_list (P := P) w ad L (fun j v hv => H w hC j v (by simpa using hv))
  have hlv : (loadVar ty ad).run P w = .ok (.agg L.toArray) w := by
    cases hq : P.info? ty with
    | none => simp [hq] at hi
    | some i =>
      have hs : i.size = L.length := by simp [hq] at hi; rw [hi, ← hn]; simp
      have hagg : (isAgg ty).run P w = .ok true w := by
        unfold isAgg
        rw [Sem.run_bind, run_underlying hu w]
        cases d <;> simp_all [TypeDesc.isRow]
      simp [loadVar, Sem.run_bind, hagg, sizeOf, typeInfo, hq, hs, hl]
  unfold execOp
  simp only [ho, hx, Instr.loadAt, Instr.sureAddr, Sem.run_bind, Sem.run_pure, Result.andThen_ok, hlv]
/-- The instruction of the entry k. -/
theorem ent_ins {w : World} {A : Option Addr} {l : Ents} (H : EntR w A l) {k : Nat} (hk : k < l.length) : ∃ b, A = some ⟨b, 0, none⟩ ∧ b < w.heap.size ∧ ∀ j v, (icells l[k].2)[j]? = some v → w.cell? ((⟨b, k * 8 + 1, none⟩ : Addr).add j) = some v := by
  obtain ⟨b, e, hb, hc⟩ := H.at_ hk
  refine ⟨b, e, hb, fun j v hv => ?_⟩
  rw [add_pl, show k * 8 + 1 + j = k * 8 + (j + 1) by omega]
  refine hc (j + 1) v ?_
  rw [← hv]
  unfold ecells icells
  simp

structure Mt (w0 : World) (base pm p : Nat) (lv : Int) (en : Bool) (N : Nat) (O : Nat → Prop) (l r : Ents) (h m : Nat) (M Mb : List Int) (vl : Value) (g cw : Nat) (ve : Value) (vs : List (Nat × TypeId × Array Value)) (w : World) : Prop where
  mm : MemAt pm M vl w
  c : IcF O p lv en l h m w
  low : Below w0.heap.size w0 w
  b0 : w0.heap.size ≤ base
  bw : base ≤ w.heap.size
  cb : ∀ k, O k → base ≤ k
  mb : w0.heap.size ≤ pm
  mlt : pm < base
  bs : w.ownsRow w0.heap.size 5 1 (.slice (some ⟨g, 0, none⟩) N cw) N (Mb.map (Value.int .u8))
  gn : ¬ O g
  es : w.ownsRow w0.heap.size 42 8 ve r.length (eflat r)
  eo : ∀ b, ve.ownBlock = some b → ¬ O b
  vars : ∀ v ∈ vs, Blk v.1 v.2.1 v.2.2 w ∧ ¬ O v.1 ∧ v.2.1 ≠ 42 ∧ v.1 ≠ pm
section
variable {w0 w w' : World} {base pm p N h m h' m' g cw g' cw' : Nat} {lv : Int} {en : Bool} {O : Nat → Prop} {l r l' r' : Ents} {M Mb M' Mb' : List Int} {vl ve vl' ve' : Value} {vs : List (Nat × TypeId × Array Value)}
theorem Mt.lt (A : Mt w0 base pm p lv en N O l r h m M Mb vl g cw ve vs w) : ∀ k, O k → k < w.heap.size := icSpec.lt _ _ _ _ _ _ _ _ A.c
theorem Mt.npm (A : Mt w0 base pm p lv en N O l r h m M Mb vl g cw ve vs w) : ¬ O pm := fun c => by have := A.cb pm c; have := A.mlt; omega
theorem Mt.step (A : Mt w0 base pm p lv en N O l r h m M Mb vl g cw ve vs w) (b : Below w.heap.size w w') : Mt w0 base pm p lv en N O l r h m M Mb vl g cw ve vs w' :=
  ⟨A.mm.keep (b.block pm A.mm.lt), icSpec.step A.c b, A.low.trans (b.mono A.low.size), A.b0, Nat.le_trans A.bw b.size, A.cb, A.mb, A.mlt, own_kept A.bs (Kept.of_below (O := fun _ => False) b) (fun _ _ c => c), A.gn, own_kept A.es (Kept.of_below (O := fun _ => False) b) (fun _ _ c => c), A.eo, fun v hv => ⟨(A.vars v hv).1.step b, (A.vars v hv).2⟩⟩
theorem Mt.none_ (A : Mt w0 base pm p lv en N O l r h m M Mb vl g cw ve vs w) : Mt w0 base pm p lv en N O l r h m M Mb vl g cw ve [] w := { A with vars := fun v hv => (by cases hv) }
theorem Mt.new (A : Mt w0 base pm p lv en N O l r h m M Mb vl g cw ve vs w) (T : TypeId) (cs : Array Value) (hT : T ≠ 42) : Mt w0 base pm p lv en N O l r h m M Mb vl g cw ve ((w.heap.size, T, cs) :: vs) (w.alloc (.cells cs T)) := by
  have B := A.step (below_new' w (.cells cs T))
  refine { B with vars := fun v hv => ?_ }
  rcases List.mem_cons.1 hv with rfl | hv
  · exact ⟨Blk.new w _ cs, fun e => Nat.lt_irrefl _ (A.lt _ e), hT, fun e => by have := A.mm.lt; simp only at e; omega⟩
  · exact B.vars v hv
theorem Mt.toC (A : Mt w0 base pm p lv en N O l r h m M Mb vl g cw ve vs w) (t : IcTo IcF O p lv en l' h' m' w w') : ∃ O', Mt w0 base pm p lv en N O' l' r h' m' M Mb vl g cw ve vs w' := by
  obtain ⟨O', f, gr, k⟩ := t
  have hb := k.below A.bw A.cb
  refine ⟨O', A.mm.keep (k.block pm A.mm.lt A.npm), f, A.low.trans (hb.mono A.b0), A.b0, Nat.le_trans A.bw k.size, gr.above A.bw A.cb, A.mb, A.mlt, own_kept A.bs k (fun b e => by injection e with e; subst e; exact A.gn), gr.away (A.bs.lt g rfl).2 A.gn, own_kept A.es k A.eo, fun b e => gr.away (A.es.lt b e).2 (A.eo b e), fun v hv => ?_⟩
  obtain ⟨h1, h2, h3⟩ := A.vars v hv
  exact ⟨(k.block v.1 h1.lt h2).trans h1, gr.away h1.lt h2, h3⟩
theorem Mt.mem (A : Mt w0 base pm p lv en N O l r h m M Mb vl g cw ve vs w) (ap : Apart pm none w w') (mm : MemAt pm M' vl' w') : Mt w0 base pm p lv en N O l r h m M' Mb vl' g cw ve vs w' := by
  refine ⟨mm, icSpec.keep _ _ _ _ _ _ _ _ _ _ A.c (Kept.of_apart ap) (fun k hk c => ?_), A.low.trans (ap.below A.low.size A.mb (fun k hk => by cases hk)), A.b0, Nat.le_trans A.bw ap.size, A.cb, A.mb, A.mlt, own_apart A.bs ap (own_tag A.bs A.mm (by decide)) (fun k hk => by cases hk), A.gn, own_apart A.es ap (own_tag A.es A.mm (by decide)) (fun k hk => by cases hk), A.eo, fun v hv => ?_⟩
  · rcases c with rfl | c
    · exact A.npm hk
    · cases c
  · obtain ⟨h1, h2, h3, h4⟩ := A.vars v hv
    exact ⟨(ap.block v.1 h1.lt h4 (fun e => by cases e)).trans h1, h2, h3, h4⟩
theorem Mt.put (A : Mt w0 base pm p lv en N O l r h m M Mb vl g cw ve vs w) (b : Below w.heap.size w w') (ho : w'.ownsRow w.heap.size 5 1 (.slice (some ⟨g', 0, none⟩) N cw') N (Mb'.map (Value.int .u8))) : Mt w0 base pm p lv en N O l r h m M Mb' vl g' cw' ve vs w' := by
  have B := A.step b
  exact { B with bs := own_mono ho A.low.size, gn := fun c => by have := A.lt _ c; have := (ho.lt g' rfl).1; omega }
theorem Mt.ents (A : Mt w0 base pm p lv en N O l r h m M Mb vl g cw ve vs w) (b : Below w.heap.size w w') (ho : w'.ownsRow w.heap.size 42 8 ve' r'.length (eflat r')) : Mt w0 base pm p lv en N O l r' h m M Mb vl g cw ve' vs w' := by
  have B := A.step b
  exact { B with es := own_mono ho A.low.size, eo := fun k e c => by have := A.lt _ c; have := (ho.lt k e).1; omega }
theorem Mt.nil (A : Mt w0 base pm p lv en N O l r h m M Mb vl g cw ve vs w) : Mt w0 base pm p lv en N O l [] h m M Mb vl g cw (.slice none 0 0) vs w :=
  { A with es := World.ownsRow_nil _ _ _ _, eo := fun b e => by cases e }
/-- An append to the entries. -/
theorem Mt.app (A : Mt w0 base pm p lv en N O l r h m M Mb vl g cw ve vs w) {gg cap : Nat} (ho : w'.ownsRow w0.heap.size 42 8 (.slice (some ⟨gg, 0, none⟩) r'.length cap) r'.length (eflat r')) (hg : w.grownBy w' ve.ownBlock) (hat : ve.ownBlock = some gg ∨ gg = w.heap.size) :
    Mt w0 base pm p lv en N O l r' h m M Mb vl g cw (.slice (some ⟨gg, 0, none⟩) r'.length cap) vs w' := by
  have hK : Kept (fun k => some k = ve.ownBlock) w w' := ⟨hg.os, hg.tape, hg.output, hg.size, fun k hk hn => hg.block k hk hn⟩
  refine ⟨A.mm.keep (hg.block pm A.mm.lt (fun e => own_tag A.es A.mm (by decide) e.symm)), icSpec.keep _ _ _ _ _ _ _ _ _ _ A.c hK (fun k hk c => A.eo k c.symm hk), A.low.trans ?_, A.b0, Nat.le_trans A.bw hg.size, A.cb, A.mb, A.mlt, own_kept A.bs hK (fun b e c => ?_), A.gn, ho, fun b e c => ?_, fun v hv => ?_⟩
  · exact ⟨hg.os, hg.tape, hg.output, hg.size, fun k hk => hg.block k (Nat.lt_of_lt_of_le hk A.low.size) (fun e => by have := (A.es.lt k e.symm).1; omega)⟩
  · obtain ⟨_, cs, hcs⟩ := own_block A.es c.symm
    exact own_tag A.bs hcs (by decide) e
  · injection e with e
    subst e
    rcases hat with hat | rfl
    · exact A.eo _ hat c
    · exact Nat.lt_irrefl _ (A.lt _ c)
  · obtain ⟨h1, h2, h3, h4⟩ := A.vars v hv
    exact ⟨(hg.block v.1 h1.lt (fun e => own_tag A.es h1 (fun q => h3 q.symm) e.symm)).trans h1, h2, h3, h4⟩
end
end Go.Proofs.YtgilkbmipgejeaaDoor
