/- CpuMatchesReference returns true for every input and leaves it as it was. Conditions: when the call begins, the package-level variables that the row lists hold what the program's text lays (the card ties that to the text of the pruned copy of the project that the seat holds; of packages left out of that copy it says nothing). Here: the frame round the walk, and the card. -/
import Derived.Test.YtcjldabaekbdlaaGreatDoorRows
import Derived.Test.YtcjldabaekbdlaaGreatDoorCards
import Derived.Test.YtcjldabaekbdlaaGreatDoorTie
import Derived.Test.YtcjldabaekbdlaaGreatDoorMk12a
import Derived.Test.YtcjldabaekbdlaaGreatDoorMk10b
set_option maxRecDepth 400000
set_option maxHeartbeats 64000000
set_option linter.unusedVariables false
set_option linter.unusedSimpArgs false
namespace Go.Proofs.YtcjldabaekbdlaaGreatDoor
section
open Go.RowKit Num Dec Cpu
def zVG(a0 a1 a2 a3 b0 b1 b2 b3 d0 d1 d2 d3:Nat):Nat→Nat→Nat
 |0,0=>a0|0,1=>a1|0,2=>a2|0,3=>a3
 |1,0=>b0|1,1=>b1|1,2=>b2|1,3=>b3
 |2,0=>d0|2,1=>d1|2,2=>d2|2,3=>d3
 |_,_=>0
theorem dR(u:US)(R L:List Int)(S:List Nat)(ks:List Ev)(FL:List Int)(a0 a1 a2 a3 b0 b1 b2 b3 d0 d1 d2 d3:Nat)(l:Int)(c0 c1 c2 c3 c4 c5 c6:Bool)(W:World)(w0:UW W u R L S ks FL)(h0:a0<256)(h1:a1<256)(h2:a2<256)(h3:a3<256)(g0:b0<256)(g1:b1<256)(g2:b2<256)(g3:b3<256)(k0:d0<256)(k1:d1<256)(k2:d2<256)(k3:d3<256)(wl:(Lit.int .i64 l).wf=true)(hL:uO W):
  Calls Tryz.prog 3 #[.agg (usc u),b4V a0 a1 a2 a3,b4V b0 b1 b2 b3,b4V d0 d1 d2 d3,.agg #[.int .i64 l,.bool c0,.bool c1,.bool c2,.bool c3,.bool c4,.bool c5,.bool c6]] W fun e w'=>e=.returned (.bool true)∧Below W.heap.size W w':=by
 exact zZ9 8192 rfl (oW 8192 rfl) u R L S ks FL (zVG a0 a1 a2 a3 b0 b1 b2 b3 d0 d1 d2 d3) ⟨l,c0,c1,c2,c3,c4,c5,c6⟩ W w0 (fun i j=>by unfold zVG;split<;>first|assumption|decide) hL
end
section
namespace cpuMatchesReference
open Go Go.ChangeShapes Go.WideShapes Go.ChangeAt Go.RowKit
open Go.ChangeMaps (open_string shut_string)
theorem own:ownKnob Tryz.prog.godebug=none:=by kernel_rfl
theorem lifted(os:Os)(started:os.Started)(H:Type)(enc:TypeId×Value→H):
  ReturnsInHanded {} Tryz.checked os 3 .any (fun w args=>(Rows.cpuMatchesReferenceSpec.pre enc Tryz.prog Tryz.f3 [] false w args∧laidMetH Tryz.prog tU w)∧sizedMet enc Tryz.prog Tryz.f3 (OpenSpec.ofChange Rows.cpuMatchesReferenceSpec) false w args)
   (Rows.cpuMatchesReferenceSpec.post enc Tryz.prog Tryz.f3 false true false false):=by
 refine returnsInHanded_of_change_and (C:=Tryz.checked) (X:=fun w _=>laidMetH Tryz.prog tU w) (fun _ _ _ hh h=>h.of_heap hh) own started (by kernel_rfl) Tryz.func3
  (ChangeSpec.witness_shaped (enc:=enc) (C:=Tryz.checked) (os:=os) (X:=fun w _=>laidMetH Tryz.prog tU w) false (World.doorLaid Tryz.prog 400 os) #[.agg #[.slice none 0 0,.slice none 0 0,.int .u8 0,.int .u8 0,.int .u8 0,.int .u8 0,.int .u8 0,.int .u8 0,.int .u8 0,.int .u8 0,.int .u8 0,.int .u8 0,.int .u8 0,.int .u8 0,.int .u8 0,.int .u8 0,.int .u8 0,.int .u8 0,.int .u16 0,.int .u16 0,.slice none 0 0,.slice none 0 0,.int .u8 0,.int .u8 0,.bool false,.int .u8 0,.slice none 0 0],b4V 0 0 0 0,b4V 0 0 0 0,b4V 0 0 0 0,.agg #[.int .i64 0,.bool false,.bool false,.bool false,.bool false,.bool false,.bool false,.bool false]] 8 rfl (World.shaped_of_RefB (by kernel_rfl) (by kernel_rfl)) (by kernel_rfl) (by kernel_rfl) (by kernel_rfl) (pO os _)) ?_
 intro W base args ds gs before hval0 hW _ _ hL _;have hval:∀(j:Nat) t v,Tryz.f3.params[j]?=some t→args[j]?=some v→Value.okWide Tryz.prog W .any base t v:=hval0;have hW':=hW;obtain⟨p,q,hA0,hV,rfl,hfz,hnd⟩:=hW;have hA:DataW.TrodAll enc Tryz.prog W 0 (fun _=>true) true Tryz.f3.params.toList args.toList ds p:=hA0;rw[Tryz.params3]at hA hval;have hlt:=DataW.TrodAll.lt hA;obtain⟨v0,vs0,d0,ds0,p0,q0,hargs,rfl,rfl,h0,r0⟩:=trodAll_cons hA;obtain⟨v1,vs1,d1,ds1,p1,q1,rfl,rfl,rfl,h1,r1⟩:=trodAll_cons r0;obtain⟨v2,vs2,d2,ds2,p2,q2,rfl,rfl,rfl,h2,r2⟩:=trodAll_cons r1;obtain⟨v3,vs3,d3,ds3,p3,q3,rfl,rfl,rfl,h3,r3⟩:=trodAll_cons r2;obtain⟨v4,vs4,d4,ds4,p4,q4,rfl,rfl,rfl,h4,r4⟩:=trodAll_cons r3;obtain⟨rfl,rfl,rfl⟩:=trodAll_nil r4;obtain rfl:args=#[v0,v1,v2,v3,v4]:=by cases args;simp_all
 obtain⟨rfl,rfl⟩:=trodVars_none hV;obtain⟨u0,R0,L0,S0,ks0,FL0,rfl,w0⟩:=bM (hval 0 28 v0 rfl rfl) h0;obtain⟨b0_1,b1_1,b2_1,b3_1,rfl,rfl,rfl,wb0_1,wb1_1,wb2_1,wb3_1⟩:=eO (hval 1 29 v1 rfl rfl) h1;obtain⟨b0_2,b1_2,b2_2,b3_2,rfl,rfl,rfl,wb0_2,wb1_2,wb2_2,wb3_2⟩:=eO (hval 2 29 v2 rfl rfl) h2;obtain⟨b0_3,b1_3,b2_3,b3_3,rfl,rfl,rfl,wb0_3,wb1_3,wb2_3,wb3_3⟩:=eO (hval 3 29 v3 rfl rfl) h3;obtain⟨l_4,b0_4,b1_4,b2_4,b3_4,b4_4,b5_4,b6_4,rfl,rfl,rfl,wl_4⟩:=eZ (hval 4 31 v4 rfl rfl) h4;have hL':=iU hL;clear hA0 hval0;simp only[List.append_nil]at hW';refine(dR u0 R0 L0 S0 ks0 FL0 b0_1 b1_1 b2_1 b3_1 b0_2 b1_2 b2_2 b3_2 b0_3 b1_3 b2_3 b3_3 l_4 b0_4 b1_4 b2_4 b3_4 b4_4 b5_4 b6_4 W w0 wb0_1 wb1_1 wb2_1 wb3_1 wb0_2 wb1_2 wb2_2 wb3_2 wb0_3 wb1_3 wb2_3 wb3_3 wl_4 hL').mono fun e W' ⟨he,bel⟩=>?_;subst he;exact⟨_,rfl,_,_,_,[],_,[],hW',trodAll_mk1 (shut_bool Tryz.underlying4 _),(trodAll_cons_mk (Below.trod eJ (by kernel_rfl) (of_decide_eq_true (by kernel_rfl)) h0 bel fun x hx=>hlt x (by simp[hx])) (trodAll_cons_mk (eE b0_1 b1_1 b2_1 b3_1 wb0_1 wb1_1 wb2_1 wb3_1) (trodAll_cons_mk (eE b0_2 b1_2 b2_2 b3_2 wb0_2 wb1_2 wb2_2 wb3_2) (trodAll_cons_mk (eE b0_3 b1_3 b2_3 b3_3 wb0_3 wb1_3 wb2_3 wb3_3) (trodAll_cons_mk (dA l_4 b0_4 b1_4 b2_4 b3_4 b4_4 b5_4 b6_4 wl_4) trodAll_mk0))))),rfl,bel.frame _,fun h=>by cases h⟩
theorem and20{a b:Bool}(h:a=true)(k:b=true):(a&&b)=true:=by rw[h,k];rfl
theorem over:Rows.CpuMatchesReferenceSaid:=
 OpenClaim.holds_of_wide 3 Tryz.f3 rfl rfl rfl rfl rfl rfl rfl ⟨rfl,rfl,rfl,rfl,rfl⟩ rfl rfl rfl rfl rfl (by kernel_rfl) Tryz.func3 (by unfold joinedFacts;(repeat' with_reducible refine and20 ?_ ?_);all_goals decide+kernel)
  (of_decide_eq_true (by kernel_rfl)) (by unfold Func.isWrapper;first|(rw[if_pos (by decide+kernel)];kernel_rfl)|(rw[if_neg (by decide+kernel)];exact⟨rfl,rfl⟩))
  (fun os started H enc _=>lifted os started H enc)
theorem proved:Rows.CpuMatchesReferenceCardSaid:=
 Claim7.holds_tied_plain_at .later [] [.data,.data] true Rows.cpuMatchesReferenceCard.stood.harness Rows.cpuMatchesReferenceCard.stood.looks
  over (fun _ h=>by cases h) (by kernel_rfl) (fun _ h=>by cases h) cpuMatchesReference_row_tie rfl ⟨rfl,rfl⟩ (by kernel_rfl) rfl
  (fun f fn hf hfn=>by
   obtain rfl:f=3:=Option.some.inj ((show Tryz.prog.funcNamed "cosmac/cosmaclaw19.CpuMatchesReference"=some 3 by kernel_rfl).symm.trans hf)|>.symm
   obtain rfl:fn=Tryz.f3:=(Option.some.inj (Tryz.func3.symm.trans hfn)).symm;exact⟨by kernel_rfl,fun j t ht=>by
    rw[Tryz.params3]at ht;have hm:t∈[29,31,28]:=by have:=Array.mem_of_getElem? ht;simp at this;simp;first|omega|(rcases this with h|h|h|h|h|h<;>simp[h];done)|(rcases this with h|h|h|h|h<;>simp[h];done)|(rcases this with h|h|h|h<;>simp[h];done)|(rcases this with h|h|h<;>simp[h];done)|(rcases this with h|h<;>simp[h];done)
    have hall:([29,31,28].all fun u=> !Tryz.prog.wantsStandIn u)=true:=(by kernel_rfl);exact(show Tryz.prog.wantsStandIn t=false by simpa using List.all_eq_true.1 hall t hm)⟩)
  (by kernel_rfl)
#print axioms proved
end cpuMatchesReference
end
end Go.Proofs.YtcjldabaekbdlaaGreatDoor
