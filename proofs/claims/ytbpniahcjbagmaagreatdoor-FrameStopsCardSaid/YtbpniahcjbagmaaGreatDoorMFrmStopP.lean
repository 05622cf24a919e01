/- FrameStops returns true for every input and leaves it as it was. Conditions: when the call begins, the package-level variables that the row lists hold what the program's text lays (the card ties that to the text of the pruned copy of the project that the seat holds; of packages left out of that copy it says nothing). Here: the frame round the walk, and the card. -/
import Derived.Test.YtbpniahcjbagmaaGreatDoorRows
import Derived.Test.YtbpniahcjbagmaaGreatDoorCards
import Derived.Test.YtbpniahcjbagmaaGreatDoorTie
import Derived.Test.YtbpniahcjbagmaaGreatDoorMFrmStopL
set_option maxRecDepth 400000
set_option maxHeartbeats 64000000
set_option linter.unusedVariables false
set_option linter.unusedSimpArgs false
namespace Go.Proofs.YtbpniahcjbagmaaGreatDoor
section
namespace frameStops
open Go Go.ChangeShapes Go.WideShapes Go.ChangeAt Go.RowKit
open Go.ChangeMaps (open_string shut_string)
theorem own:ownKnob Tryz.prog.godebug=none:=by kernel_rfl
theorem lifted(os:Os)(started:os.Started)(H:Type)(enc:TypeId×Value→H):
  ReturnsInHanded {} Tryz.checked os 3 .any (fun w args=>(Rows.frameStopsSpec.pre enc Tryz.prog Tryz.f3 [] false w args∧laidMetH Tryz.prog N5 w)∧sizedMet enc Tryz.prog Tryz.f3 (OpenSpec.ofChange Rows.frameStopsSpec) false w args)
   (Rows.frameStopsSpec.post enc Tryz.prog Tryz.f3 false true false false):=by
 refine returnsInHanded_of_change_and (C:=Tryz.checked) (X:=fun w _=>laidMetH Tryz.prog N5 w) (fun _ _ _ hh h=>h.of_heap hh) own started (by kernel_rfl) Tryz.func3
  (ChangeSpec.witness_shaped (enc:=enc) (C:=Tryz.checked) (os:=os) (X:=fun w _=>laidMetH Tryz.prog N5 w) false (World.doorLaid Tryz.prog 400 os) #[.slice none 0 0,.slice none 0 0,.agg #[.int .i64 0,.bool false,.bool false,.bool false,.bool false,.bool false,.bool false,.bool false],.slice none 0 0] 8 rfl (World.shaped_of_RefB (by kernel_rfl) (by kernel_rfl)) (by kernel_rfl) (by kernel_rfl) (by kernel_rfl) (zZU os _)) ?_
 intro W base args ds gs before hval0 hW _ _ hL _;have hval:∀(j:Nat) t v,Tryz.f3.params[j]?=some t→args[j]?=some v→Value.okWide Tryz.prog W .any base t v:=hval0;have hW':=hW;obtain⟨p,q,hA0,hV,rfl,hfz,hnd⟩:=hW;have hA:DataW.TrodAll enc Tryz.prog W 0 (fun _=>true) true Tryz.f3.params.toList args.toList ds p:=hA0;rw[Tryz.params3]at hA hval;have hlt:=DataW.TrodAll.lt hA;obtain⟨v0,vs0,d0,ds0,p0,q0,hargs,rfl,rfl,h0,r0⟩:=trodAll_cons hA;obtain⟨v1,vs1,d1,ds1,p1,q1,rfl,rfl,rfl,h1,r1⟩:=trodAll_cons r0;obtain⟨v2,vs2,d2,ds2,p2,q2,rfl,rfl,rfl,h2,r2⟩:=trodAll_cons r1;obtain⟨v3,vs3,d3,ds3,p3,q3,rfl,rfl,rfl,h3,r3⟩:=trodAll_cons r2;obtain⟨rfl,rfl,rfl⟩:=trodAll_nil r3;obtain rfl:args=#[v0,v1,v2,v3]:=by cases args;simp_all
 obtain⟨rfl,rfl⟩:=trodVars_none hV;obtain⟨A0,n0,c0,l0,rfl,w0⟩:=pH (hval 0 22 v0 rfl rfl) h0;obtain⟨A1,n1,c1,l1,rfl,w1⟩:=pH (hval 1 22 v1 rfl rfl) h1;obtain⟨l_2,b0_2,b1_2,b2_2,b3_2,b4_2,b5_2,b6_2,rfl,rfl,rfl,wl_2⟩:=S9 (hval 2 24 v2 rfl rfl) h2;obtain⟨A3,n3,c3,l3,rfl,w3⟩:=NR (hval 3 25 v3 rfl rfl) h3;have hL':=zK1 hL;clear hA0 hval0;simp only[kG]at hW';refine(fV A0 n0 c0 l0 A1 n1 c1 l1 l_2 b0_2 b1_2 b2_2 b3_2 b4_2 b5_2 b6_2 A3 n3 c3 l3 W w0 w1 wl_2 w3 hL').mono fun e W' ⟨he,bel⟩=>?_;subst he;exact⟨_,rfl,_,_,_,[],_,[],hW',trodAll_mk1 (shut_bool Tryz.underlying4 _),(kD (Below.trod sL (by kernel_rfl) (qU (by kernel_rfl)) h0 bel fun x hx=>hlt x (by simp[hx])) (kD (Below.trod sL (by kernel_rfl) (qU (by kernel_rfl)) h1 bel fun x hx=>hlt x (by simp[hx])) (kD (EH l_2 b0_2 b1_2 b2_2 b3_2 b4_2 b5_2 b6_2 wl_2) (kD (Below.trod sL (by kernel_rfl) (qU (by kernel_rfl)) h3 bel fun x hx=>hlt x (by simp[hx])) trodAll_mk0)))),rfl,bel.frame _,fun h=>by cases h⟩
theorem and20{a b:Bool}(h:a=true)(k:b=true):(a&&b)=true:=by rw[h,k];rfl
theorem over:Rows.FrameStopsSaid:=
 OpenClaim.holds_of_wide 3 Tryz.f3 rfl rfl rfl rfl rfl rfl rfl ⟨rfl,rfl,rfl,rfl,rfl⟩ rfl rfl rfl rfl rfl (by kernel_rfl) Tryz.func3 (by unfold joinedFacts;(repeat' with_reducible refine and20 ?_ ?_);all_goals decide+kernel)
  (qU (by kernel_rfl)) (by unfold Func.isWrapper;first|(rw[zN (by decide+kernel)];kernel_rfl)|(rw[zL (by decide+kernel)];exact⟨rfl,rfl⟩))
  (fun os started H enc _=>lifted os started H enc)
theorem proved:Rows.FrameStopsCardSaid:=
 Claim7.holds_tied_plain_at .later [] [.data,.data] true Rows.frameStopsCard.stood.harness Rows.frameStopsCard.stood.looks
  over (fun _ h=>by cases h) (by kernel_rfl) (fun _ h=>by cases h) frameStops_row_tie rfl ⟨rfl,rfl⟩ (by kernel_rfl) rfl
  (fun f fn hf hfn=>by
   obtain rfl:f=3:=jT ((show Tryz.prog.funcNamed "cosmac/cosmaclaw21.FrameStops"=some 3 by kernel_rfl).symm.trans hf)|>.symm
   obtain rfl:fn=Tryz.f3:=(jT (Tryz.func3.symm.trans hfn)).symm;exact⟨by kernel_rfl,fun j t ht=>by
    rw[Tryz.params3]at ht;have hm:t∈[25,22,24]:=by have:=kE ht;simp at this;simp;first|omega|(rcases this with h|h|h|h|h|h<;>simp[h];done)|(rcases this with h|h|h|h|h<;>simp[h];done)|(rcases this with h|h|h|h<;>simp[h];done)|(rcases this with h|h|h<;>simp[h];done)|(rcases this with h|h<;>simp[h];done)
    have hall:([25,22,24].all fun u=> !Tryz.prog.wantsStandIn u)=true:=by kernel_rfl
    exact(show Tryz.prog.wantsStandIn t=false by simpa using jV.1 hall t hm)⟩)
  (by kernel_rfl)
#print axioms proved
end frameStops
end
end Go.Proofs.YtbpniahcjbagmaaGreatDoor
