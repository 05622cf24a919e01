/- RecAwake. -/
import Derived.Test.YtilideoeaecoaaaMk3a
set_option maxRecDepth 400000
set_option maxHeartbeats 64000000
set_option linter.unusedVariables false
set_option linter.unusedSimpArgs false
namespace Go.Proofs.Ytilideoeaecoaaa
section
open Go.RowKit Num
def w10:BitVec 128:=1#64++0#64
def w01:BitVec 128:=0#64++1#64
def xQ:Pl:=fun y=>if y=0 then w10 else 0#128
def iY:Pl:=fun y=>if y=0 then w01 else 0#128
def awR:jO:=⟨fun i=>if i=2 then xQ else fun _=>0#128,false,false,fun _=>0,0,3,4,514,7⟩
def awS:jO:=⟨fun i=>if i=0 then iY else if i=2 then xQ else fun _=>0#128,false,false,fun _=>0,0,3,4,514,7⟩
theorem sC:(jA kK).setIfInBounds 256 (.int .u64 1)=jA {kK with P:=fun i=>if i=2 then xQ else fun _=>0#128}:=by
 have h:=eR kK 2 0 oR oR 1#64;have e:nI (kK.P 2) 0 (1#64++lo (kK.P 2 0))=xQ:=by
  funext y
  unfold nI xQ;by_cases h:y=0
  ·rw[zL h,zL h];rfl
  ·rw[zY h,zY h];rfl
 rw[e]at h;exact h
theorem sE:kW (jA {kK with P:=fun i=>if i=2 then xQ else fun _=>0#128}) 531 (lY 3 4 514 7)=jA awR:=eT _ 3 4 514 7
theorem sP:(jA awR).setIfInBounds 1 (.int .u64 1)=jA awS:=by
 have h:=gP awR 0 0 oR oR 1#64;have e:nI (awR.P 0) 0 (hi (awR.P 0 0)++1#64)=iY:=by
  funext y
  unfold nI iY;by_cases h:y=0
  ·rw[zL h,zL h];rfl
  ·rw[zY h,zY h];rfl
 rw[e]at h;exact h
theorem eI:kJ (fun _=>0#128)=true:=(nX _).2 fun _ _=>rfl
theorem eO:kJ xQ=false:=by
 rw[Bool.eq_false_iff];intro h;have:=(nX _).1 h 0 oR;revert this
 decide
theorem wU:j9 awR=true:=by
 have e:j9 awR=((awR.hi||(List.range 4).all fun i=>nL (awR.P i))&&stB awR.k awR.c awR.p awR.y):=rfl;rw[e,show stB awR.k awR.c awR.p awR.y=true from by decide,Bool.and_true];have z1:(lo (0#128)).toNat=0:=oR;have z2:(hi (0#128)).toNat=0:=oR;have hz:nL (fun _=>0#128)=true:=(mL _).2 fun y _=>⟨z1,fun _=>z2⟩;have h1:nL xQ=true:=(mL _).2 fun y _=>by
  unfold xK xQ;by_cases h:y=0
  ·rw[zL h];exact⟨rfl,fun c=>by omega⟩
  ·rw[zY h];exact⟨z1,fun _=>z2⟩
 rw[Bool.or_eq_true];refine .inr (z4.2 fun i hi=>?_);have hi:=z9.1 hi;show nL (if i=2 then xQ else fun _=>0#128)=true;split
 ·exact h1
 ·exact hz
theorem gZ:j9 awS=false:=by
 have e:j9 awS=((awS.hi||(List.range 4).all fun i=>nL (awS.P i))&&stB awS.k awS.c awS.p awS.y):=rfl;have h1:nL iY=false:=by
  rw[Bool.eq_false_iff];intro h;have:=((mL _).1 h 0 oR).1;revert this
  decide
 rw[e,show List.range 4=[0,1,2,3]from rfl];simp only[List.all_cons];rw[show nL (awS.P 0)=false from h1];rfl
theorem aY:OkI awR:=⟨⟨fun _ _=>(show(0:Int)≤0∧(0:Int)≤255 by decide),(show(0:Int)≤0∧(0:Int)≤255 by decide)⟩,(show yM 7 by unfold yM;decide)⟩
theorem awS_ok:OkI awS:=⟨⟨fun _ _=>(show(0:Int)≤0∧(0:Int)≤255 by decide),(show(0:Int)≤0∧(0:Int)≤255 by decide)⟩,(show yM 7 by unfold yM;decide)⟩
theorem hJ(r:jO):(kS r).length=31+((plK r 0).length+((plK r 1).length+((plK r 2).length+(plK r 3).length))):=by
 unfold kS pU;simp only[zM,sW]
theorem dS(r:jO):(kS r).length≤4127:=by
 rw[hJ];simp only[vK];repeat' split
 all_goals omega
theorem dU:(mN [awR]).length=1063:=by
 rw[uB,List.flatMap_cons,List.flatMap_nil,z5,hJ,vK,vK,vK,vK];rw[show awR.P 0=fun _=>0#128 from rfl,show awR.P 1=fun _=>0#128 from rfl,show awR.P 2=xQ from rfl,show awR.P 3=fun _=>0#128 from rfl,eI,eO];rfl
theorem dI{r:jO}(h:j9 r=true):mE [r]=true:=by unfold mE;simp[h]
theorem aM{r:jO}(h:j9 r=false):mE [r]=false:=by unfold mE;simp[h]
theorem aT:cX sgn=false:=by decide
theorem sL(r:jO):([r].flatMap kS).length≤900000:=by
 rw[List.flatMap_cons,List.flatMap_nil,z5];have:=dS r;omega
theorem iH{w:World}{base n c:Nat}{A:Option Addr}{xs:List Value}{e:TypeId}{size:Nat}(h:w.ownsRow base e size (.slice A n c) n xs):∀ad,A=some ad→ad.block<w.heap.size:=fun ad e=>by
 subst e;exact(h.lt ad.block rfl).2
theorem tE{w:World}{base n c:Nat}{A:Option Addr}{xs:List Value}{e:TypeId}{size:Nat}(h:w.ownsRow base e size (.slice A n c) n xs):n≤c∧c≤maxLen:=by
 rcases h.2 with⟨e1,e2⟩|⟨g,cap,cur,e1,_,_,h1,h2,_⟩
 ·injection e1 with _ e3 e4
  subst e2 e4;exact⟨zP _,zD _⟩
 ·injection e1 with _ _ e4
  subst e4;exact⟨h1,h2⟩
theorem mU{w:World}{base n c:Nat}{A:Option Addr}{L:List Nat}(h:w.ownsRow base 5 1 (.slice A n c) n (byV L)):Rd w A (toI L):=by
 rw[yT]at h;exact own_rd h
theorem sF:Try.prog.built 30 [(0,.int .i64 3),(1,.int .i64 4),(2,.int .i64 514),(3,.int .i64 7)]=some (lY 3 4 514 7):=by kernel_rfl
theorem Rcs.keptR{g:Nat}{l:List jO}{w w':World}{O:Nat→Prop}(h:Rcs g l w)(k:j5 O w w')(hn:¬O g):Rcs g l w':=
 ⟨zG h.lt k.size,fun i hi j v hv=>(k.cell (a:=⟨g,i*535+j,none⟩) h.lt hn).trans (h.at_ i hi j v hv)⟩
theorem dC(w:World):Calls Try.prog 8 #[] w fun e w'=>e=.returned (.bool true)∧Below w.heap.size w w':=by
 go_enter Try.func8,Try.ntmps8;go_wp2_with fail;refine(cR [] none 0 0 8 rfl rfl rfl w (mD.nil _ _) (fun r h=>by cases h) oR oR).mono ?_;rintro e w1 ⟨A1,c1,rfl,ho,hb⟩;have O1:=zW ho;have BB:=zW hb;clear ho hb;go_upto_region 2 with fail;refine zN ?_;refine zI rfl fun K hK=>lW lH rfl (hK _ _ ?_);clear hK K;simp only[Act.put,zQ,zZ,zJ];have R3:=zW (Blk.new w1 48 (jA kK));have ba:=jI w1 (.cells (jA kK) 48);have G3:=zW (show w.heap.size≤w1.heap.size from BB.out.size);have O1R:=zW (mU O1.out);have O1R:=zW (O1R.out.below ba);have BB:=zW (BB.out.trans (ba.mono BB.out.size));have A1L:=zW (fun ad (e:A1=some ad)=>iH O1.out ad e);clear ba O1;generalize w1.heap.size=g3 at R3 G3 A1L⊢;generalize World.alloc w1 _=w2 at R3 BB O1R⊢;have f1:=R3.out.frozen 256;have q1:=(R3.out.cell 256).trans (j6 _ (show 256<535 by omega));go_upto_region 4 with fail;clear f1 q1;have R3:=zW ((R3.out.put 256 (.int .u64 1)).eq sC);have BB:=zW (BB.out.setCell (p:=⟨g3,256,none⟩) G3.out (.int .u64 1));have O1R:=zW (O1R.out.kept (kQ (b:=g3) (j:=256) (x:=.int .u64 1)) fun ad e c=>by have:=A1L.out ad e;omega);generalize World.setCell w2 _ _=w3 at R3 BB O1R⊢;refine zN ?_;refine mJ rfl rfl (by simp[Act.eval,Act.put];exact sF) ?_;iterate 3 go_step
 refine mP (o:=531) vA R3.out rfl (by rw[jU];decide) (aE _ _ _ _) rfl (.tmp 23) (.tmp 22) rfl oF oF ?_;have R3:=zW ((R3.out.store (kW (jA {kK with P:=fun i=>if i=2 then xQ else fun _=>0#128}) 531 (lY 3 4 514 7))).eq sE);have BB:=zW (mG BB.out G3.out (kW (jA {kK with P:=fun i=>if i=2 then xQ else fun _=>0#128}) 531 (lY 3 4 514 7)));have O1R:=zW (O1R.out.kept (m7 (b:=g3) (cs:=kW (jA {kK with P:=fun i=>if i=2 then xQ else fun _=>0#128}) 531 (lY 3 4 514 7))) fun ad e c=>by have:=A1L.out ad e;omega);generalize World.setRow w3 _ _=w4 at R3 BB O1R⊢;clear A1L;go_upto_region 5 with fail;refine zN ?_;refine j3 j8 R3.out (jU _) rfl (.tmp 3) rfl rfl ?_;simp only[Act.put,zQ,zZ,zJ];refine kC (C:=jA awR) Try.underlying24 j8 lH (jU _) (jU _) oR oR rfl (.tmp 25) rfl oD ?_;simp only[Act.put,zQ,zZ,zJ];have RO:=zW (mD.one w4 awR);have ba:=jI w4 (.cells (jA awR) 48);have BB:=zW (BB.out.trans (ba.mono BB.out.size));have R3:=zW (R3.out.step ba);have O1R:=zW (O1R.out.below ba);clear ba;generalize w4.heap.size=g5 at RO⊢;generalize World.alloc w4 _=w5 at RO BB R3 O1R⊢;go_wp2_with fail;refine(cR [awR] (some ⟨g5,0,none⟩) 1 1 1063 rfl dU (dI wU) w5 RO.out (fun r h=>by rw[List.mem_singleton.1 h];exact aY) oR oR).mono ?_;rintro e w6 ⟨A6,c6,rfl,ho,hb⟩;have O6:=zW ho;have BB:=zW (BB.out.trans (hb.mono BB.out.size));have R3:=zW (R3.out.step hb);have O1R:=zW (O1R.out.below hb);clear ho hb RO;go_wp2_with fail;refine(bE [awR] (fun r h=>by rw[List.mem_singleton.1 h];exact aY) (dI wU) 1 rfl oR A6 1063 c6 dU (tE O6.out).1 (tE O6.out).2 w6 (mU O6.out)).mono ?_;rintro e w7 ⟨g7,rfl,ho,hb⟩;have O7:=zW (mD.of_own ho rfl);have BB:=zW (BB.out.trans (hb.mono BB.out.size));have R3:=zW (R3.out.step hb);have O1R:=zW (O1R.out.below hb);clear ho hb O6;go_upto_region 7 with fail;refine zN ?_;refine j3 j8 R3.out (jU _) rfl (.tmp 3) rfl rfl ?_;simp only[Act.put,zQ,zZ,zJ];refine kU (ds:=jA awR) j8 lH (jU _) (jU _) (lR _) rfl rfl rfl (.tmp 8) (.tmp 35) rfl oF oF ?_;simp only[Act.put,zQ,zZ,zJ];have R8:=zW (Blk.new w7 48 (jA awR));have ba:=jI w7 (.cells (jA awR) 48);have G8:=zW (show w.heap.size≤w7.heap.size∧g3<w7.heap.size∧(∀ad,A1=some ad→ad.block<w7.heap.size)from⟨BB.out.size,R3.out.lt,fun ad e=>O1R.out.block_lt' oR e⟩);have H8:=zW (show g7<w7.heap.size∧Rcs g7 [awR] w7 from by
  obtain⟨g,e,h⟩:=O7.out oP;injection e with e
  injection e with e
  subst e;exact⟨h.lt,h⟩)
 have BB:=zW (BB.out.trans (ba.mono BB.out.size));have R3:=zW (R3.out.step ba);have O1R:=zW (O1R.out.below ba);have H7:=zW (H8.out.2.step ba);have G7:=zW H8.out.1;clear ba H8 O7;generalize w7.heap.size=g8 at R8 G8 G7⊢;generalize World.alloc w7 _=w8 at R8 BB R3 O1R H7⊢;have f1:=R8.out.frozen 1;have q1:=(R8.out.cell 1).trans (j6 _ (show 1<535 by omega));go_upto_region 9 with fail;clear f1 q1;have R8:=zW ((R8.out.put 1 (.int .u64 1)).eq sP);have BB:=zW (BB.out.setCell (p:=⟨g8,1,none⟩) G8.out.1 (.int .u64 1));have R3:=zW (R3.out.other (g:=g8) (by have:=G8.out.2.1;omega) 1 (.int .u64 1));have O1R:=zW (O1R.out.kept (kQ (b:=g8) (j:=1) (x:=.int .u64 1)) fun ad e c=>by have:=G8.out.2.2 ad e;omega);have H7:=zW (H7.out.keptR (kQ (b:=g8) (j:=1) (x:=.int .u64 1)) (by have:=G7.out;omega));generalize World.setCell w8 _ _=w9 at R8 BB R3 O1R H7⊢;refine zN ?_;refine j3 j8 R8.out (jU _) rfl (.tmp 8) rfl rfl ?_;simp only[Act.put,zQ,zZ,zJ];refine kC (C:=jA awS) Try.underlying24 j8 lH (jU _) (jU _) oR oR rfl (.tmp 42) rfl oD ?_;simp only[Act.put,zQ,zZ,zJ];have RO:=zW (mD.one w9 awS);have ba:=jI w9 (.cells (jA awS) 48);have BB:=zW (BB.out.trans (ba.mono BB.out.size));have R3:=zW (R3.out.step ba);have O1R:=zW (O1R.out.below ba);have H7:=zW (H7.out.step ba);clear ba R8;generalize w9.heap.size=g9 at RO⊢;generalize World.alloc w9 _=wa at RO BB R3 O1R H7⊢;go_wp2_with fail;refine(wC [awS] (some ⟨g9,0,none⟩) 1 1 rfl (aM gZ) wa RO.out (fun r h=>by rw[List.mem_singleton.1 h];exact awS_ok) oR (sL _)).mono ?_;rintro e wb ⟨rfl,hb⟩;have BB:=zW (BB.out.trans (hb.mono BB.out.size));have R3:=zW (R3.out.step hb);have O1R:=zW (O1R.out.below hb);have H7:=zW (H7.out.step hb);clear hb RO;have cv:=Lib.run_convert_bytes_const (P:=Try.prog) wb 27 5 #[.int .u8 67,.int .u8 56,.int .u8 82,.int .u8 49] 4 4 Try.underlying27 Try.underlying5;have hc:∀j (h:j<(toI sgn).length),(wb.alloc (.cells #[.int .u8 67,.int .u8 56,.int .u8 82,.int .u8 49] 5 (4,5))).cell? ((⟨wb.heap.size,0,none⟩:Addr).add j)=some (.int .u8 (toI sgn)[j]):=fun j hj=>by
  rw[xO,qL,qO _ _ _ _ _ _ (qP wb _)];have hj:j<4:=hj;exact ZQ
 have RM:=zW (show Rd (wb.alloc (.cells #[.int .u8 67,.int .u8 56,.int .u8 82,.int .u8 49] 5 (4,5))) (some ⟨wb.heap.size,0,none⟩) (toI sgn)from fun _=>⟨_,rfl,by simp,hc⟩);have ba:Below wb.heap.size wb (wb.alloc (.cells #[.int .u8 67,.int .u8 56,.int .u8 82,.int .u8 49] 5 (4,5))):=jI wb _;have BB:=zW (BB.out.trans (ba.mono BB.out.size));have R3:=zW (R3.out.step ba);have O1R:=zW (O1R.out.below ba);have H7:=zW (H7.out.step ba);have LB:=zW (show wb.heap.size<(wb.alloc (.cells #[.int .u8 67,.int .u8 56,.int .u8 82,.int .u8 49] 5 (4,5))).heap.size by simp);clear ba hc;go_wp2_with fail;clear cv;generalize wb.heap.size=gb at RM LB⊢;generalize World.alloc wb _=wc at RM LB BB R3 O1R H7⊢;refine(sT sgn oR aT (some ⟨gb,0,none⟩) 4 4 rfl oR oR wc RM.out).mono ?_;rintro e wd ⟨rfl,hb⟩;have BB:=zW (BB.out.trans (hb.mono BB.out.size));have R3:=zW (R3.out.step hb);have O1R:=zW (O1R.out.below hb);have H7:=zW (H7.out.step hb);clear hb RM LB;go_upto_region 11 with fail;refine lB (C:=fun w'=>∃x:mK wd,w'=x.w) [([0],1),([],2),([3,4,5,6,7,8,9,10,11,12,13,14,15,16,17,18,19,20,21,22,23,24,25,26,27,28,29,30,31,32,33,34,35,36,37,38,39,40,41],42),([43,44,45,46,47],48)] [49,50,51] oT oT (fun _ _ d _ _ h=>by cases d<;>exact h) ⟨⟨wd.drew,(zA _ _).drew⟩,rfl⟩ ?_;intro we hwe;have CB:=zW (show Below wd.heap.size wd we from by rw[hwe];exact(zA _ _).drew);clear hwe;refine kG ?_;repeat(go_big_quiet_step (fail))
 refine zF ?_;refine kB oF ?_;intro K hK;have RL:=zW (show Rd (we.alloc (.cells #[.int .u8 67,.int .u8 56,.int .u8 82,.int .u8 49,.int .u8 0,.int .u8 0,.int .u8 0,.int .u8 0] 5)) (some ⟨we.heap.size,0,none⟩) (toI [67,56,82,49,0,0,0,0])from vT we [67,56,82,49,0,0,0,0]);have ba:=jI we (.cells #[.int .u8 67,.int .u8 56,.int .u8 82,.int .u8 49,.int .u8 0,.int .u8 0,.int .u8 0,.int .u8 0] 5);have CB:=zW (CB.out.trans (ba.mono CB.out.size));clear ba;go_wp2_with fail;generalize we.heap.size=gl at RL⊢;generalize World.alloc we _=wf at CB RL⊢;refine hK _ _ ⟨⟨wf,CB.out⟩,rfl⟩ ?_;clear hK K;try simp only[Act.put,zQ,zZ,zJ]
 refine kG ?_;refine zF ?_;refine kB oF ?_;intro K hK;have SC:=zW (show Calls Try.prog 14 #[.slice A1 8 c1,.slice (some ⟨gl,0,none⟩) 8 8] wf fun e w'=>e=.returned (.bool true)∧Below wf.heap.size wf w' from
  wX A1 (some ⟨gl,0,none⟩) c1 8 8 8 (toI [67,56,82,49,0,0,0,0]) (toI [67,56,82,49,0,0,0,0]) wf rfl rfl oR oR (O1R.out.below CB.out) RL.out)
 go_wp2_with fail;refine SC.out.mono ?_;rintro e wg ⟨rfl,hb⟩;have CB:=zW (CB.out.trans (hb.mono CB.out.size));clear hb SC RL;refine hK _ _ ⟨⟨wg,CB.out⟩,rfl⟩ ?_;clear hK K;try simp only[Act.put,zQ,zZ,zJ]
 have QA:=zW (fun w' (h:∃x:mK wd,w'=x.w)=>show w'.rangeAt g7 0 (jA awR).toList from by obtain⟨x,rfl⟩:=h;exact(H7.out.step x.below).at_ 0 oP);have QB:=zW (fun w' (h:∃x:mK wd,w'=x.w)=>show Blk g3 48 (jA awR) w' from by obtain⟨x,rfl⟩:=h;exact R3.out.step x.below);refine kG ?_;repeat(first
  |(refine nT (o:=0) j8 QA.out (jU awR) ?_ (.tmp 76) ?_ ?_ ?_;(focus rfl);(focus rfl);(focus(simp[Act.eval];done));simp only[Act.put,zQ,zZ,zJ])
  |(refine nJ j8 QB.out (jU awR) ?_ (.tmp 3) ?_ ?_ ?_;(focus rfl);(focus rfl);(focus(simp[Act.eval];done));simp only[Act.put,zQ,zZ,zJ])
  |(refine tT awR ?_ (.tmp 77) (.tmp 78) 48 ?_ ?_ ?_ ?_;(focus rfl);(focus rfl);(focus(simp[Act.eval];done));(focus(simp[Act.eval];done));simp only[Act.put,zQ,zZ,zJ])
  |go_big_quiet_step (fail))
 refine zF ?_
 refine kB oF ?_;intro K hK;have RL:=zW (fun(u:mK wd)=>show mD (some ⟨g7,0,none⟩) [awR] u.w from fun _=>⟨g7,rfl,H7.out.step u.below⟩);have SC:=zW (show Calls Try.prog 17 #[.slice (some ⟨g7,0,none⟩) 1 1,.slice none 0 0] wg fun e w'=>e=.returned (.int .i64 0)∧Below wg.heap.size wg w' from
  (uR [awR] [] (some ⟨g7,0,none⟩) none 1 1 0 0 rfl rfl oR oR wg (RL.out ⟨wg,CB.out⟩) (mD.nil _ _)).mono (by rintro e w' ⟨x,rfl,hx,hb⟩;rw[fC hx];exact⟨rfl,hb⟩))
 go_wp2_with fail;refine SC.out.mono ?_;rintro e wh ⟨rfl,hb⟩;have CB:=zW (CB.out.trans (hb.mono CB.out.size));clear hb SC;refine hK _ _ ⟨⟨wh,CB.out⟩,rfl⟩ ?_;clear hK K;try simp only[Act.put,zQ,zZ,zJ]
 refine kG ?_;repeat(go_big_quiet_step (fail))
 refine zF ?_;refine kB oF ?_;intro K hK;have SC:=zW (show Calls Try.prog 17 #[.slice (some ⟨g7,0,none⟩) 1 1,.slice (some ⟨g7,0,none⟩) 1 1] wh fun e w'=>e=.returned (.int .i64 (-1))∧Below wh.heap.size wh w' from
  (uR [awR] [awR] (some ⟨g7,0,none⟩) (some ⟨g7,0,none⟩) 1 1 1 1 rfl rfl oR oR wh (RL.out ⟨wh,CB.out⟩) (RL.out ⟨wh,CB.out⟩)).mono (by rintro e w' ⟨x,rfl,hx,hb⟩;rw[sH hx];exact⟨rfl,hb⟩))
 go_wp2_with fail;refine SC.out.mono ?_;rintro e wi ⟨rfl,hb⟩;have CB:=zW (CB.out.trans (hb.mono CB.out.size));clear hb SC;refine hK _ _ ⟨⟨wi,CB.out⟩,rfl⟩ ?_;clear hK K;try simp only[Act.put,zQ,zZ,zJ]
 refine nA ?_;repeat(go_big_quiet_step (fail))
 refine zF ?_;have BE:=zW (BB.out.trans (CB.out.mono BB.out.size));go_wp2_with fail;go_ret;exact⟨rfl,BE.out⟩
end
end Go.Proofs.Ytilideoeaecoaaa
