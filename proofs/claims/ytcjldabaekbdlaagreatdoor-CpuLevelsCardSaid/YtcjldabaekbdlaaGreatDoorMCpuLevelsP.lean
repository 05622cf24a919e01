/- CpuLevels returns true for every input and leaves it as it was. Conditions: when the call begins, the package-level variables that the row lists hold what the program's text lays (the card ties that to the text of the pruned copy of the project that the seat holds; of packages left out of that copy it says nothing). Here: the frame round the walk, and the card. -/
import Derived.Test.YtcjldabaekbdlaaGreatDoorRows
import Derived.Test.YtcjldabaekbdlaaGreatDoorCards
import Derived.Test.YtcjldabaekbdlaaGreatDoorTie
import Derived.Test.YtcjldabaekbdlaaGreatDoorMk12a
import Derived.Test.YtcjldabaekbdlaaGreatDoorMCpuLevelsW
set_option maxRecDepth 400000
set_option maxHeartbeats 64000000
set_option linter.unusedVariables false
set_option linter.unusedSimpArgs false
namespace Go.Proofs.YtcjldabaekbdlaaGreatDoor
section
open Go.RowKit Num Dec Cpu
theorem MQ(u:US)(R L:List Int)(S:List Nat)(ks:List Ev)(FL:List Int)(b0 b1 b2 b3:Nat)(l:Int)(c0 c1 c2 c3 c4 c5 c6:Bool)(a3:Int)(W:World)(w0:UW W u R L S ks FL)(h0:b0<256)(h1:b1<256)(h2:b2<256)(h3:b3<256)(wl:(Lit.int .i64 l).wf=true)(w3:(Lit.int .u8 a3).wf=true)(hL:uO W):
  Calls Tryz.prog 5 #[.agg (usc u),b4V b0 b1 b2 b3,.agg #[.int .i64 l,.bool c0,.bool c1,.bool c2,.bool c3,.bool c4,.bool c5,.bool c6],.int .u8 a3] W fun e w'=>e=.returned (.bool true)∧Below W.heap.size W w':=by
 have t:=bd_u8 w3;obtain⟨k,rfl⟩:=Int.eq_ofNat_of_zero_le t.1;exact zWK 8192 rfl (oW 8192 rfl) u R L S ks FL b0 b1 b2 b3 ⟨l,c0,c1,c2,c3,c4,c5,c6⟩ k W w0 h0 h1 h2 h3 hL (by omega)
end
section
namespace cpuLevels
open Go Go.ChangeShapes Go.WideShapes Go.ChangeAt Go.RowKit
open Go.ChangeMaps (open_string shut_string)
theorem own:ownKnob Tryz.prog.godebug=none:=by kernel_rfl
theorem lifted(os:Os)(started:os.Started)(H:Type)(enc:TypeId×Value→H):
  ReturnsInHanded {} Tryz.checked os 5 .any (fun w args=>(Rows.cpuLevelsSpec.pre enc Tryz.prog Tryz.f5 [] false w args∧laidMetH Tryz.prog tU w)∧sizedMet enc Tryz.prog Tryz.f5 (OpenSpec.ofChange Rows.cpuLevelsSpec) false w args)
   (Rows.cpuLevelsSpec.post enc Tryz.prog Tryz.f5 false true false false):=by
 refine returnsInHanded_of_change_and (C:=Tryz.checked) (X:=fun w _=>laidMetH Tryz.prog tU w) (fun _ _ _ hh h=>h.of_heap hh) own started (by kernel_rfl) Tryz.func5
  (ChangeSpec.witness_shaped (enc:=enc) (C:=Tryz.checked) (os:=os) (X:=fun w _=>laidMetH Tryz.prog tU w) false (World.doorLaid Tryz.prog 400 os) #[.agg #[.slice none 0 0,.slice none 0 0,.int .u8 0,.int .u8 0,.int .u8 0,.int .u8 0,.int .u8 0,.int .u8 0,.int .u8 0,.int .u8 0,.int .u8 0,.int .u8 0,.int .u8 0,.int .u8 0,.int .u8 0,.int .u8 0,.int .u8 0,.int .u8 0,.int .u16 0,.int .u16 0,.slice none 0 0,.slice none 0 0,.int .u8 0,.int .u8 0,.bool false,.int .u8 0,.slice none 0 0],b4V 0 0 0 0,.agg #[.int .i64 0,.bool false,.bool false,.bool false,.bool false,.bool false,.bool false,.bool false],.int .u8 0] 8 rfl (World.shaped_of_RefB (by kernel_rfl) (by kernel_rfl)) (by kernel_rfl) (by kernel_rfl) (by kernel_rfl) (pO os _)) ?_
 intro W base args ds gs before hval0 hW _ _ hL _;have hval:∀(j:Nat) t v,Tryz.f5.params[j]?=some t→args[j]?=some v→Value.okWide Tryz.prog W .any base t v:=hval0;have hW':=hW;obtain⟨p,q,hA0,hV,rfl,hfz,hnd⟩:=hW;have hA:DataW.TrodAll enc Tryz.prog W 0 (fun _=>true) true Tryz.f5.params.toList args.toList ds p:=hA0;rw[Tryz.params5]at hA hval;have hlt:=DataW.TrodAll.lt hA;obtain⟨v0,vs0,d0,ds0,p0,q0,hargs,rfl,rfl,h0,r0⟩:=trodAll_cons hA;obtain⟨v1,vs1,d1,ds1,p1,q1,rfl,rfl,rfl,h1,r1⟩:=trodAll_cons r0;obtain⟨v2,vs2,d2,ds2,p2,q2,rfl,rfl,rfl,h2,r2⟩:=trodAll_cons r1;obtain⟨v3,vs3,d3,ds3,p3,q3,rfl,rfl,rfl,h3,r3⟩:=trodAll_cons r2;obtain⟨rfl,rfl,rfl⟩:=trodAll_nil r3;obtain rfl:args=#[v0,v1,v2,v3]:=by cases args;simp_all
 obtain⟨rfl,rfl⟩:=trodVars_none hV;obtain⟨u0,R0,L0,S0,ks0,FL0,rfl,w0⟩:=bM (hval 0 28 v0 rfl rfl) h0;obtain⟨b0_1,b1_1,b2_1,b3_1,rfl,rfl,rfl,wb0_1,wb1_1,wb2_1,wb3_1⟩:=eO (hval 1 29 v1 rfl rfl) h1;obtain⟨l_2,b0_2,b1_2,b2_2,b3_2,b4_2,b5_2,b6_2,rfl,rfl,rfl,wl_2⟩:=eZ (hval 2 31 v2 rfl rfl) h2;obtain⟨a3,rfl,rfl,rfl,w3⟩:=open_int Tryz.underlying5 (hval 3 5 v3 rfl rfl) h3;have hL':=iU hL;clear hA0 hval0;simp only[List.append_nil]at hW';refine(MQ u0 R0 L0 S0 ks0 FL0 b0_1 b1_1 b2_1 b3_1 l_2 b0_2 b1_2 b2_2 b3_2 b4_2 b5_2 b6_2 a3 W w0 wb0_1 wb1_1 wb2_1 wb3_1 wl_2 w3 hL').mono fun e W' ⟨he,bel⟩=>?_;subst he;exact⟨_,rfl,_,_,_,[],_,[],hW',trodAll_mk1 (shut_bool Tryz.underlying4 _),(trodAll_cons_mk (Below.trod eJ (by kernel_rfl) (of_decide_eq_true (by kernel_rfl)) h0 bel fun x hx=>hlt x (by simp[hx])) (trodAll_cons_mk (eE b0_1 b1_1 b2_1 b3_1 wb0_1 wb1_1 wb2_1 wb3_1) (trodAll_cons_mk (dA l_2 b0_2 b1_2 b2_2 b3_2 b4_2 b5_2 b6_2 wl_2) (trodAll_cons_mk (shut_int Tryz.underlying5 w3) trodAll_mk0)))),rfl,bel.frame _,fun h=>by cases h⟩
theorem and20{a b:Bool}(h:a=true)(k:b=true):(a&&b)=true:=by rw[h,k];rfl
theorem over:Rows.CpuLevelsSaid:=
 OpenClaim.holds_of_wide 5 Tryz.f5 rfl rfl rfl rfl rfl rfl rfl ⟨rfl,rfl,rfl,rfl,rfl⟩ rfl rfl rfl rfl rfl (by kernel_rfl) Tryz.func5 (by unfold joinedFacts;(repeat' with_reducible refine and20 ?_ ?_);all_goals decide+kernel)
  (of_decide_eq_true (by kernel_rfl)) (by unfold Func.isWrapper;first|(rw[if_pos (by decide+kernel)];kernel_rfl)|(rw[if_neg (by decide+kernel)];exact⟨rfl,rfl⟩))
  (fun os started H enc _=>lifted os started H enc)
theorem proved:Rows.CpuLevelsCardSaid:=
 Claim7.holds_tied_plain_at .later [] [.data,.data] true Rows.cpuLevelsCard.stood.harness Rows.cpuLevelsCard.stood.looks
  over (fun _ h=>by cases h) (by kernel_rfl) (fun _ h=>by cases h) cpuLevels_row_tie rfl ⟨rfl,rfl⟩ (by kernel_rfl) rfl
  (fun f fn hf hfn=>by
   obtain rfl:f=5:=Option.some.inj ((show Tryz.prog.funcNamed "cosmac/cosmaclaw19.CpuLevels"=some 5 by kernel_rfl).symm.trans hf)|>.symm
   obtain rfl:fn=Tryz.f5:=(Option.some.inj (Tryz.func5.symm.trans hfn)).symm;exact⟨by kernel_rfl,fun j t ht=>by
    rw[Tryz.params5]at ht;have hm:t∈[29,31,28,5]:=by have:=Array.mem_of_getElem? ht;simp at this;simp;first|omega|(rcases this with h|h|h|h|h|h<;>simp[h];done)|(rcases this with h|h|h|h|h<;>simp[h];done)|(rcases this with h|h|h|h<;>simp[h];done)|(rcases this with h|h|h<;>simp[h];done)|(rcases this with h|h<;>simp[h];done)
    have hall:([29,31,28,5].all fun u=> !Tryz.prog.wantsStandIn u)=true:=(by kernel_rfl);exact(show Tryz.prog.wantsStandIn t=false by simpa using List.all_eq_true.1 hall t hm)⟩)
  (by kernel_rfl)
#print axioms proved
end cpuLevels
end
end Go.Proofs.YtcjldabaekbdlaaGreatDoor
