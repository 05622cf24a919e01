/- RecordMatchesReference returns true for every input: the frame round the walk. -/
import Derived.Test.YtilideoeaecoaaaRows
import Derived.Test.YtilideoeaecoaaaMk4a
set_option maxRecDepth 400000
set_option maxHeartbeats 64000000
set_option linter.unusedVariables false
set_option linter.unusedSimpArgs false
namespace Go.Proofs.Ytilideoeaecoaaa
section
namespace recordMatchesReference
open Go.ChangeShapes Go.WideShapes Go.ChangeAt Go.RowKit
open Go.ChangeMaps (open_string shut_string)
theorem own:ownKnob Try.prog.godebug=none:=by kernel_rfl
theorem iP:laidOutB Try.prog=true:=by kernel_rfl
theorem lifted(os:Os)(started:os.Started)(H:Type)(enc:TypeId×Value→H):
  ReturnsInHanded {} Try.checked os 3 .any (Rows.recordMatchesReferenceSpec.pre6 enc Try.prog Try.f3 Rows.recordMatchesReferenceRow.domain false) (Rows.recordMatchesReferenceSpec.post enc Try.prog Try.f3 false true false false):=by
 refine returnsInHanded_of_change (C:=Try.checked) own started (by kernel_rfl) Try.func3
  (ChangeSpec.witness6 (enc:=enc) (C:=Try.checked) false ⟨#[],#[.slice none 0 0],[]⟩ 8 (by kernel_rfl) (by kernel_rfl) (by kernel_rfl) (by kernel_rfl)) ?_
 intro W base args ds gs before hval0 hW hcnd _;have hval:∀(j:Nat) t v,Try.f3.params[j]?=some t→args[j]?=some v→Value.okWide Try.prog W .any base t v:=hval0;have hW':=hW;obtain⟨p,q,hA0,hV,rfl,hfz,hnd⟩:=hW;have hA:DataW.TrodAll enc Try.prog W 0 (fun _=>true) true Try.f3.params.toList args.toList ds p:=hA0;rw[Try.params3]at hA hval;have hlt:=DataW.TrodAll.lt hA;obtain⟨v0,vs0,d0,ds0,p0,q0,hargs,rfl,rfl,h0,r0⟩:=trodAll_cons hA;obtain⟨rfl,rfl,rfl⟩:=trodAll_nil r0;obtain rfl:args=#[v0]:=by cases args;simp_all
 obtain⟨rfl,rfl⟩:=trodVars_none hV;obtain⟨A0,n0,c0,l0,rfl,w0⟩:=bK (hval 0 22 v0 rfl rfl) h0;clear hA0 hval0;simp only[z5]at hW';refine(mA A0 n0 c0 l0 W w0).mono fun e W' ⟨he,bel⟩=>?_;subst he;exact⟨_,rfl,_,_,_,[],_,[],hW',trodAll_mk1 (shut_bool Try.underlying4 _),(trodAll_cons_mk (Below.trod iP (by kernel_rfl) (qS (by kernel_rfl)) h0 bel fun x hx=>hlt x (by simp[hx])) trodAll_mk0),rfl,bel.frame _,fun h=>by cases h⟩
theorem and20{a b:Bool}(h:a=true)(k:b=true):(a&&b)=true:=by rw[h,k];rfl
theorem over:Rows.recordMatchesReferenceRow.holds Try.pinned (OpenSpec.ofChange Rows.recordMatchesReferenceSpec):=
 OpenClaim.holds_of_wide 3 Try.f3 rfl rfl rfl rfl rfl rfl rfl ⟨rfl,rfl,rfl,rfl,rfl⟩ rfl rfl rfl rfl rfl (by kernel_rfl) Try.func3 (by unfold joinedFacts;(repeat' with_reducible refine and20 ?_ ?_);all_goals decide+kernel)
  (qS (by kernel_rfl)) (by unfold Func.isWrapper;first|(rw[zL (by decide+kernel)];kernel_rfl)|(rw[zY (by decide+kernel)];exact⟨rfl,rfl⟩))
  (fun os started H enc _=>lifted os started H enc)
theorem proved:Rows.RecordMatchesReferenceSaid:=
 over
#print axioms proved
end recordMatchesReference
end
end Go.Proofs.Ytilideoeaecoaaa
