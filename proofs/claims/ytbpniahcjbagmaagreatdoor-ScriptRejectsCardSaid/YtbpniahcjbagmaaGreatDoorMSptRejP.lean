/- ScriptRejects returns true for every input and leaves it as it was. Conditions: when the call begins, the package-level variables that the row lists hold what the program's text lays (the card ties that to the text of the pruned copy of the project that the seat holds; of packages left out of that copy it says nothing). Here: the frame round the walk, and the card. -/
import Derived.Test.YtbpniahcjbagmaaGreatDoorRows
import Derived.Test.YtbpniahcjbagmaaGreatDoorCards
import Derived.Test.YtbpniahcjbagmaaGreatDoorTie
import Derived.Test.YtbpniahcjbagmaaGreatDoorMSptRejL
set_option maxRecDepth 400000
set_option maxHeartbeats 64000000
set_option linter.unusedVariables false
set_option linter.unusedSimpArgs false
namespace Go.Proofs.YtbpniahcjbagmaaGreatDoor
section
namespace scriptRejects
open Go Go.ChangeShapes Go.WideShapes Go.ChangeAt Go.RowKit
open Go.ChangeMaps (open_string shut_string)
theorem own:ownKnob Tryz.prog.godebug=none:=by kernel_rfl
theorem lifted(os:Os)(started:os.Started)(H:Type)(enc:TypeId×Value→H):
  ReturnsInHanded {} Tryz.checked os 5 .any (fun w args=>(Rows.scriptRejectsSpec.pre enc Tryz.prog Tryz.f5 [] false w args∧laidMetH Tryz.prog tK w)∧sizedMet enc Tryz.prog Tryz.f5 (OpenSpec.ofChange Rows.scriptRejectsSpec) false w args)
   (Rows.scriptRejectsSpec.post enc Tryz.prog Tryz.f5 false true false false):=by
 refine kG (C:=Tryz.checked) (X:=fun w _=>laidMetH Tryz.prog tK w) (fun _ _ _ hh h=>h.of_heap hh) own started (by kernel_rfl) Tryz.func5
  (kP (enc:=enc) (C:=Tryz.checked) (os:=os) (X:=fun w _=>laidMetH Tryz.prog tK w) false (World.doorLaid Tryz.prog 400 os) #[.int .u8 0,.agg #[.int .i64 0,.bool false,.bool false,.bool false,.bool false,.bool false,.bool false,.bool false],.int .i64 0] 8 rfl (World.shaped_of_RefB (by kernel_rfl) (by kernel_rfl)) (by kernel_rfl) (by kernel_rfl) (by kernel_rfl) (pG os _)) ?_
 intro W base args ds gs before hval0 hW _ _ hL _;have hval:∀(j:Nat) t v,Tryz.f5.params[j]?=some t→args[j]?=some v→Value.okWide Tryz.prog W .any base t v:=hval0;have hW':=hW;obtain⟨p,q,hA0,hV,rfl,hfz,hnd⟩:=hW;have hA:DataW.TrodAll enc Tryz.prog W 0 (fun _=>true) true Tryz.f5.params.toList args.toList ds p:=hA0;rw[Tryz.params5]at hA hval;obtain⟨v0,vs0,d0,ds0,p0,q0,hargs,rfl,rfl,h0,r0⟩:=trodAll_cons hA;obtain⟨v1,vs1,d1,ds1,p1,q1,rfl,rfl,rfl,h1,r1⟩:=trodAll_cons r0;obtain⟨v2,vs2,d2,ds2,p2,q2,rfl,rfl,rfl,h2,r2⟩:=trodAll_cons r1;obtain⟨rfl,rfl,rfl⟩:=trodAll_nil r2;obtain rfl:args=#[v0,v1,v2]:=by cases args;simp_all
 obtain⟨rfl,rfl⟩:=trodVars_none hV;obtain⟨a0,rfl,rfl,rfl,w0⟩:=open_int Tryz.underlying5 (hval 0 5 v0 rfl rfl) h0;obtain⟨l_1,b0_1,b1_1,b2_1,b3_1,b4_1,b5_1,b6_1,rfl,rfl,rfl,wl_1⟩:=U6 (hval 1 24 v1 rfl rfl) h1;obtain⟨a2,rfl,rfl,rfl,w2⟩:=open_int Tryz.underlying3 (hval 2 3 v2 rfl rfl) h2;have hL':=iD hL;clear hA0 hval0;simp only[kK]at hW';refine(eE a0 l_1 b0_1 b1_1 b2_1 b3_1 b4_1 b5_1 b6_1 a2 w0 wl_1 w2 W hL').mono fun e W' ⟨he,bel⟩=>?_;subst he;exact⟨_,rfl,_,_,_,[],[],[],hW',trodAll_mk1 (shut_bool Tryz.underlying4 _),(kM (shut_int Tryz.underlying5 w0) (kM (UZ l_1 b0_1 b1_1 b2_1 b3_1 b4_1 b5_1 b6_1 wl_1) (kM (shut_int Tryz.underlying3 w2) trodAll_mk0))),rfl,bel.frame _,fun h=>by cases h⟩
theorem and20{a b:Bool}(h:a=true)(k:b=true):(a&&b)=true:=by rw[h,k];rfl
theorem over:Rows.ScriptRejectsSaid:=
 kC 5 Tryz.f5 rfl rfl rfl rfl rfl rfl rfl ⟨rfl,rfl,rfl,rfl,rfl⟩ rfl rfl rfl rfl rfl (by kernel_rfl) Tryz.func5 (by unfold joinedFacts;(repeat' with_reducible refine and20 ?_ ?_);all_goals decide+kernel)
  (qA (by kernel_rfl)) (by unfold Func.isWrapper;first|(rw[zN (by decide+kernel)];kernel_rfl)|(rw[zL (by decide+kernel)];exact⟨rfl,rfl⟩))
  (fun os started H enc _=>lifted os started H enc)
theorem proved:Rows.ScriptRejectsCardSaid:=
 kS .later [] [.data,.data] true Rows.scriptRejectsCard.stood.harness Rows.scriptRejectsCard.stood.looks
  over (fun _ h=>by cases h) (by kernel_rfl) (fun _ h=>by cases h) scriptRejects_row_tie rfl ⟨rfl,rfl⟩ (by kernel_rfl) rfl
  (fun f fn hf hfn=>by
   obtain rfl:f=5:=jZ ((show Tryz.prog.funcNamed "cosmac/cosmaclaw22.ScriptRejects"=some 5 by kernel_rfl).symm.trans hf)|>.symm
   obtain rfl:fn=Tryz.f5:=(jZ (Tryz.func5.symm.trans hfn)).symm;exact⟨by kernel_rfl,fun j t ht=>by
    rw[Tryz.params5]at ht;have hm:t∈[24,3,5]:=by have:=kD ht;simp at this;simp;first|omega|(rcases this with h|h|h|h|h|h<;>simp[h];done)|(rcases this with h|h|h|h|h<;>simp[h];done)|(rcases this with h|h|h|h<;>simp[h];done)|(rcases this with h|h|h<;>simp[h];done)|(rcases this with h|h<;>simp[h];done)
    have hall:([24,3,5].all fun u=> !Tryz.prog.wantsStandIn u)=true:=by kernel_rfl
    exact(show Tryz.prog.wantsStandIn t=false by simpa using jJ.1 hall t hm)⟩)
  (by kernel_rfl)
#print axioms proved
end scriptRejects
end
end Go.Proofs.YtbpniahcjbagmaaGreatDoor
