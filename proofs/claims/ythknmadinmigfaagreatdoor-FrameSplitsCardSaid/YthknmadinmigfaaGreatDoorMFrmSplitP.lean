/- FrameSplits returns true for every input and leaves it as it was. Conditions: when the call begins, the package-level variables that the row lists hold what the program's text lays (the card ties that to the text of the pruned copy of the project that the seat holds; of packages left out of that copy it says nothing). Here: the frame round the walk, and the card. -/
import Derived.Test.YthknmadinmigfaaGreatDoorRows
import Derived.Test.YthknmadinmigfaaGreatDoorCards
import Derived.Test.YthknmadinmigfaaGreatDoorTie
import Derived.Test.YthknmadinmigfaaGreatDoorMFrmSplitL
set_option maxRecDepth 400000
set_option maxHeartbeats 64000000
set_option linter.unusedVariables false
set_option linter.unusedSimpArgs false
namespace Go.Proofs.YthknmadinmigfaaGreatDoor
section
namespace frameSplits
open Go Go.ChangeShapes Go.WideShapes Go.ChangeAt Go.RowKit
open Go.ChangeMaps (open_string shut_string)
theorem own:ownKnob Tryz.prog.godebug=none:=by kernel_rfl
theorem lifted(os:Os)(started:os.Started)(H:Type)(enc:TypeId×Value→H):
  ReturnsInHanded {} Tryz.checked os 6 .any (fun w args=>(Rows.frameSplitsSpec.pre enc Tryz.prog Tryz.f6 [] false w args∧laidMetH Tryz.prog N8 w)∧sizedMet enc Tryz.prog Tryz.f6 (OpenSpec.ofChange Rows.frameSplitsSpec) false w args)
   (Rows.frameSplitsSpec.post enc Tryz.prog Tryz.f6 false true false false):=by
 refine returnsInHanded_of_change_and (C:=Tryz.checked) (X:=fun w _=>laidMetH Tryz.prog N8 w) (fun _ _ _ hh h=>h.of_heap hh) own started (by kernel_rfl) Tryz.func6
  (ChangeSpec.witness_shaped (enc:=enc) (C:=Tryz.checked) (os:=os) (X:=fun w _=>laidMetH Tryz.prog N8 w) false (World.doorLaid Tryz.prog 400 os) #[.slice none 0 0,.slice none 0 0,.agg #[.int .i64 0,.bool false,.bool false,.bool false,.bool false,.bool false,.bool false,.bool false],.int .u8 0] 8 rfl (World.shaped_of_RefB (by kernel_rfl) (by kernel_rfl)) (by kernel_rfl) (by kernel_rfl) (by kernel_rfl) (zZ1 os _)) ?_
 intro W base args ds gs before hval0 hW _ _ hL _;have hval:∀(j:Nat) t v,Tryz.f6.params[j]?=some t→args[j]?=some v→Value.okWide Tryz.prog W .any base t v:=hval0;have hW':=hW;obtain⟨p,q,hA0,hV,rfl,hfz,hnd⟩:=hW;have hA:DataW.TrodAll enc Tryz.prog W 0 (fun _=>true) true Tryz.f6.params.toList args.toList ds p:=hA0;rw[Tryz.params6]at hA hval;have hlt:=DataW.TrodAll.lt hA;obtain⟨v0,vs0,d0,ds0,p0,q0,hargs,rfl,rfl,h0,r0⟩:=trodAll_cons hA;obtain⟨v1,vs1,d1,ds1,p1,q1,rfl,rfl,rfl,h1,r1⟩:=trodAll_cons r0;obtain⟨v2,vs2,d2,ds2,p2,q2,rfl,rfl,rfl,h2,r2⟩:=trodAll_cons r1;obtain⟨v3,vs3,d3,ds3,p3,q3,rfl,rfl,rfl,h3,r3⟩:=trodAll_cons r2;obtain⟨rfl,rfl,rfl⟩:=trodAll_nil r3;obtain rfl:args=#[v0,v1,v2,v3]:=by cases args;simp_all
 obtain⟨rfl,rfl⟩:=trodVars_none hV;obtain⟨A0,n0,c0,l0,rfl,w0⟩:=pD (hval 0 22 v0 rfl rfl) h0;obtain⟨A1,n1,c1,l1,rfl,w1⟩:=pD (hval 1 22 v1 rfl rfl) h1;obtain⟨l_2,b0_2,b1_2,b2_2,b3_2,b4_2,b5_2,b6_2,rfl,rfl,rfl,wl_2⟩:=PR (hval 2 24 v2 rfl rfl) h2;obtain⟨a3,rfl,rfl,rfl,w3⟩:=open_int Tryz.underlying5 (hval 3 5 v3 rfl rfl) h3;have hL':=zK1 hL;clear hA0 hval0;simp only[kN]at hW';refine(sR A0 n0 c0 l0 A1 n1 c1 l1 l_2 b0_2 b1_2 b2_2 b3_2 b4_2 b5_2 b6_2 a3 W w0 w1 wl_2 w3 hL').mono fun e W' ⟨he,bel⟩=>?_;subst he;exact⟨_,rfl,_,_,_,[],_,[],hW',trodAll_mk1 (shut_bool Tryz.underlying4 _),(kT (Below.trod ZR (by kernel_rfl) (qA (by kernel_rfl)) h0 bel fun x hx=>hlt x (by simp[hx])) (kT (Below.trod ZR (by kernel_rfl) (qA (by kernel_rfl)) h1 bel fun x hx=>hlt x (by simp[hx])) (kT (EO l_2 b0_2 b1_2 b2_2 b3_2 b4_2 b5_2 b6_2 wl_2) (kT (shut_int Tryz.underlying5 w3) trodAll_mk0)))),rfl,bel.frame _,fun h=>by cases h⟩
theorem and20{a b:Bool}(h:a=true)(k:b=true):(a&&b)=true:=by rw[h,k];rfl
theorem over:Rows.FrameSplitsSaid:=
 OpenClaim.holds_of_wide 6 Tryz.f6 rfl rfl rfl rfl rfl rfl rfl ⟨rfl,rfl,rfl,rfl,rfl⟩ rfl rfl rfl rfl rfl (by kernel_rfl) Tryz.func6 (by unfold joinedFacts;(repeat' with_reducible refine and20 ?_ ?_);all_goals decide+kernel)
  (qA (by kernel_rfl)) (by unfold Func.isWrapper;first|(rw[zN (by decide+kernel)];kernel_rfl)|(rw[zL (by decide+kernel)];exact⟨rfl,rfl⟩))
  (fun os started H enc _=>lifted os started H enc)
theorem proved:Rows.FrameSplitsCardSaid:=
 Claim7.holds_tied_plain_at .later [] [.data,.data] true Rows.frameSplitsCard.stood.harness Rows.frameSplitsCard.stood.looks
  over (fun _ h=>by cases h) (by kernel_rfl) (fun _ h=>by cases h) frameSplits_row_tie rfl ⟨rfl,rfl⟩ (by kernel_rfl) rfl
  (fun f fn hf hfn=>by
   obtain rfl:f=6:=jR ((show Tryz.prog.funcNamed "cosmac/cosmaclaw21.FrameSplits"=some 6 by kernel_rfl).symm.trans hf)|>.symm
   obtain rfl:fn=Tryz.f6:=(jR (Tryz.func6.symm.trans hfn)).symm;exact⟨by kernel_rfl,fun j t ht=>by
    rw[Tryz.params6]at ht;have hm:t∈[22,24,5]:=by have:=kP ht;simp at this;simp;first|omega|(rcases this with h|h|h|h|h|h<;>simp[h];done)|(rcases this with h|h|h|h|h<;>simp[h];done)|(rcases this with h|h|h|h<;>simp[h];done)|(rcases this with h|h|h<;>simp[h];done)|(rcases this with h|h<;>simp[h];done)
    have hall:([22,24,5].all fun u=> !Tryz.prog.wantsStandIn u)=true:=by kernel_rfl
    exact(show Tryz.prog.wantsStandIn t=false by simpa using jN.1 hall t hm)⟩)
  (by kernel_rfl)
#print axioms proved
end frameSplits
end
end Go.Proofs.YthknmadinmigfaaGreatDoor
