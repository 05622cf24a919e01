/- RecAwake. -/
import Derived.Test.YtilideoeaecoaaaMk3a
set_option maxRecDepth 400000
set_option maxHeartbeats 64000000
set_option linter.unusedVariables false
set_option linter.unusedSimpArgs false
namespace Go.Proofs.Ytilideoeaecoaaa
section
open Go.RowKit Num
def w10:BitVec 128:=1#64++0#64
def w01:BitVec 128:=0#64++1#64
def xF:Pl:=fun y=>if y=0 then w10 else 0#128
def iP:Pl:=fun y=>if y=0 then w01 else 0#128
def awR:j3:=⟨fun i=>if i=2 then xF else fun _=>0#128,false,false,fun _=>0,0,3,4,514,7⟩
def awS:j3:=⟨fun i=>if i=0 then iP else if i=2 then xF else fun _=>0#128,false,false,fun _=>0,0,3,4,514,7⟩
theorem pR:(j0 kG).setIfInBounds 256 (.int .u64 1)=j0 {kG with P:=fun i=>if i=2 then xF else fun _=>0#128}:=by
 have h:=sN kG 2 0 oF oF 1#64;have e:vZ (kG.P 2) 0 (1#64++lo (kG.P 2 0))=xF:=by
  funext y
  unfold vZ xF;by_cases h:y=0
  ·rw[zL h,zL h];rfl
  ·rw[zY h,zY h];rfl
 rw[e]at h;exact h
theorem pB:kY (j0 {kG with P:=fun i=>if i=2 then xF else fun _=>0#128}) 531 (lD 3 4 514 7)=j0 awR:=sH _ 3 4 514 7
theorem pG:(j0 awR).setIfInBounds 1 (.int .u64 1)=j0 awS:=by
 have h:=bE awR 0 0 oF oF 1#64;have e:vZ (awR.P 0) 0 (hi (awR.P 0 0)++1#64)=iP:=by
  funext y
  unfold vZ iP;by_cases h:y=0
  ·rw[zL h,zL h];rfl
  ·rw[zY h,zY h];rfl
 rw[e]at h;exact h
theorem sS:kB (fun _=>0#128)=true:=(mA _).2 fun _ _=>rfl
theorem sP:kB xF=false:=by
 rw[Bool.eq_false_iff];intro h;have:=(mA _).1 h 0 oF;revert this
 decide
theorem rF:kK awR=true:=by
 have e:kK awR=((awR.hi||(List.range 4).all fun i=>nM (awR.P i))&&stB awR.k awR.c awR.p awR.y):=rfl;rw[e,show stB awR.k awR.c awR.p awR.y=true from by decide,Bool.and_true];have z1:(lo (0#128)).toNat=0:=oF;have z2:(hi (0#128)).toNat=0:=oF;have hz:nM (fun _=>0#128)=true:=(mD _).2 fun y _=>⟨z1,fun _=>z2⟩;have h1:nM xF=true:=(mD _).2 fun y _=>by
  unfold xA xF;by_cases h:y=0
  ·rw[zL h];exact⟨rfl,fun c=>by omega⟩
  ·rw[zY h];exact⟨z1,fun _=>z2⟩
 rw[Bool.or_eq_true];refine .inr (z6.2 fun i hi=>?_);have hi:=qZ.1 hi;show nM (if i=2 then xF else fun _=>0#128)=true;split
 ·exact h1
 ·exact hz
theorem bX:kK awS=false:=by
 have e:kK awS=((awS.hi||(List.range 4).all fun i=>nM (awS.P i))&&stB awS.k awS.c awS.p awS.y):=rfl;have h1:nM iP=false:=by
  rw[Bool.eq_false_iff];intro h;have:=((mD _).1 h 0 oF).1;revert this
  decide
 rw[e,show List.range 4=[0,1,2,3]from rfl];simp only[List.all_cons];rw[show nM (awS.P 0)=false from h1];rfl
theorem aU:OkI awR:=⟨⟨fun _ _=>(show(0:Int)≤0∧(0:Int)≤255 by decide),(show(0:Int)≤0∧(0:Int)≤255 by decide)⟩,(show uJ 7 by unfold uJ;decide)⟩
theorem awS_ok:OkI awS:=⟨⟨fun _ _=>(show(0:Int)≤0∧(0:Int)≤255 by decide),(show(0:Int)≤0∧(0:Int)≤255 by decide)⟩,(show uJ 7 by unfold uJ;decide)⟩
theorem wV(r:j3):(kR r).length=31+((plK r 0).length+((plK r 1).length+((plK r 2).length+(plK r 3).length))):=by
 unfold kR sD;simp only[zM,cL]
theorem tD(r:j3):(kR r).length≤4127:=by
 rw[wV];simp only[lH];repeat' split
 all_goals omega
theorem eG(l:List j3):l.length*31≤(l.flatMap kR).length:=by
 induction l with
 |nil=>exact zT _
 |cons r l ih=>
  rw[List.flatMap_cons,zM,List.length_cons]
  have:=wV r
  omega
theorem eE:(kF [awR]).length=1063:=by
 rw[nI,List.flatMap_cons,List.flatMap_nil,zA,wV,lH,lH,lH,lH];rw[show awR.P 0=fun _=>0#128 from rfl,show awR.P 1=fun _=>0#128 from rfl,show awR.P 2=xF from rfl,show awR.P 3=fun _=>0#128 from rfl,sS,sP];rfl
theorem eC{r:j3}(h:kK r=true):mB [r]=true:=by unfold mB;simp[h]
theorem aI{r:j3}(h:kK r=false):mB [r]=false:=by unfold mB;simp[h]
theorem iX:nJ sgn=false:=by decide
theorem pQ(r:j3):([r].flatMap kR).length≤900000:=by
 rw[List.flatMap_cons,List.flatMap_nil,zA];have:=tD r;omega
theorem iA{w:World}{base n c:Nat}{A:Option Addr}{xs:List Value}{e:TypeId}{size:Nat}(h:w.ownsRow base e size (.slice A n c) n xs):∀ad,A=some ad→ad.block<w.heap.size:=fun ad e=>by
 subst e;exact(h.lt ad.block rfl).2
theorem nU{w:World}{base n c:Nat}{A:Option Addr}{xs:List Value}{e:TypeId}{size:Nat}(h:w.ownsRow base e size (.slice A n c) n xs):n≤c∧c≤maxLen:=by
 rcases h.2 with⟨e1,e2⟩|⟨g,cap,cur,e1,_,_,h1,h2,_⟩
 ·injection e1 with _ e3 e4
  subst e2 e4;exact⟨zT _,zF _⟩
 ·injection e1 with _ _ e4
  subst e4;exact⟨h1,h2⟩
theorem vN{w:World}{base n c:Nat}{A:Option Addr}{L:List Nat}(h:w.ownsRow base 5 1 (.slice A n c) n (byV L)):Rd w A (toI L):=by
 rw[x7]at h;exact dV h
theorem pM:Try.prog.built 30 [(0,.int .i64 3),(1,.int .i64 4),(2,.int .i64 514),(3,.int .i64 7)]=some (lD 3 4 514 7):=by kernel_rfl
theorem Rcs.keptR{g:Nat}{l:List j3}{w w':World}{O:Nat→Prop}(h:Rcs g l w)(k:j9 O w w')(hn:¬O g):Rcs g l w':=
 ⟨zG h.lt k.size,fun i hi j v hv=>(k.cell (a:=⟨g,i*535+j,none⟩) h.lt hn).trans (h.at_ i hi j v hv)⟩
theorem nT(w:World):Calls Try.prog 8 #[] w fun e w'=>e=.returned (.bool true)∧Below w.heap.size w w':=by
 go_enter Try.func8,Try.ntmps8;go_wp2_with fail;refine(mS [] none 0 0 8 rfl rfl rfl w (lL.nil _ _) (fun r h=>by cases h) oF oF).mono ?_;rintro e w1 ⟨A1,c1,rfl,ho,hb⟩;have O1:=zW ho;have BB:=zW hb;clear ho hb;go_upto_region 2 with fail;refine zN ?_;refine zO rfl fun K hK=>lB lR rfl (hK _ _ ?_);clear hK K;simp only[Act.put,zQ,zZ,zJ];have R3:=zW (Blk.new w1 48 (j0 kG));have ba:=j2 w1 (.cells (j0 kG) 48);have G3:=zW (show w.heap.size≤w1.heap.size from BB.out.size);have O1R:=zW (vN O1.out);have O1R:=zW (O1R.out.below ba);have BB:=zW (BB.out.trans (ba.mono BB.out.size));have A1L:=zW (fun ad (e:A1=some ad)=>iA O1.out ad e);clear ba O1;generalize w1.heap.size=g3 at R3 G3 A1L⊢;generalize World.alloc w1 _=w2 at R3 BB O1R⊢;have f1:=R3.out.frozen 256;have q1:=(R3.out.cell 256).trans (kQ _ (show 256<535 by omega));go_upto_region 4 with fail;clear f1 q1;have R3:=zW ((R3.out.put 256 (.int .u64 1)).eq pR);have BB:=zW (BB.out.setCell (p:=⟨g3,256,none⟩) G3.out (.int .u64 1));have O1R:=zW (O1R.out.kept (kV (b:=g3) (j:=256) (x:=.int .u64 1)) fun ad e c=>by have:=A1L.out ad e;omega);generalize World.setCell w2 _ _=w3 at R3 BB O1R⊢;refine zN ?_;refine mH rfl rfl (by simp[Act.eval,Act.put];exact pM) ?_;iterate 3 go_step
 refine mO (o:=531) vO R3.out rfl (by rw[j1];decide) (iY _ _ _ _) rfl (.tmp 23) (.tmp 22) rfl oA oA ?_;have R3:=zW ((R3.out.store (kY (j0 {kG with P:=fun i=>if i=2 then xF else fun _=>0#128}) 531 (lD 3 4 514 7))).eq pB);have BB:=zW (mP BB.out G3.out (kY (j0 {kG with P:=fun i=>if i=2 then xF else fun _=>0#128}) 531 (lD 3 4 514 7)));have O1R:=zW (O1R.out.kept (nQ (b:=g3) (cs:=kY (j0 {kG with P:=fun i=>if i=2 then xF else fun _=>0#128}) 531 (lD 3 4 514 7))) fun ad e c=>by have:=A1L.out ad e;omega);generalize World.setRow w3 _ _=w4 at R3 BB O1R⊢;clear A1L;go_upto_region 5 with fail;refine zN ?_;refine j8 kX R3.out (j1 _) rfl (.tmp 3) rfl rfl ?_;simp only[Act.put,zQ,zZ,zJ];refine lW (C:=j0 awR) Try.underlying24 kX lR (j1 _) (j1 _) oF oF rfl (.tmp 25) rfl oP ?_;simp only[Act.put,zQ,zZ,zJ];have RO:=zW (lL.one w4 awR);have ba:=j2 w4 (.cells (j0 awR) 48);have BB:=zW (BB.out.trans (ba.mono BB.out.size));have R3:=zW (R3.out.step ba);have O1R:=zW (O1R.out.below ba);clear ba;generalize w4.heap.size=g5 at RO⊢;generalize World.alloc w4 _=w5 at RO BB R3 O1R⊢;go_wp2_with fail;refine(mS [awR] (some ⟨g5,0,none⟩) 1 1 1063 rfl eE (eC rF) w5 RO.out (fun r h=>by rw[List.mem_singleton.1 h];exact aU) oF oF).mono ?_;rintro e w6 ⟨A6,c6,rfl,ho,hb⟩;have O6:=zW ho;have BB:=zW (BB.out.trans (hb.mono BB.out.size));have R3:=zW (R3.out.step hb);have O1R:=zW (O1R.out.below hb);clear ho hb RO;go_wp2_with fail;refine(wY [awR] (fun r h=>by rw[List.mem_singleton.1 h];exact aU) (eC rF) 1 rfl oF A6 1063 c6 eE (nU O6.out).1 (nU O6.out).2 w6 (vN O6.out)).mono ?_;rintro e w7 ⟨g7,rfl,ho,hb⟩;have O7:=zW (lL.of_own ho rfl);have BB:=zW (BB.out.trans (hb.mono BB.out.size));have R3:=zW (R3.out.step hb);have O1R:=zW (O1R.out.below hb);clear ho hb O6;go_upto_region 7 with fail;refine zN ?_;refine j8 kX R3.out (j1 _) rfl (.tmp 3) rfl rfl ?_;simp only[Act.put,zQ,zZ,zJ];refine lG (ds:=j0 awR) kX lR (j1 _) (j1 _) (lA _) rfl rfl rfl (.tmp 8) (.tmp 35) rfl oA oA ?_;simp only[Act.put,zQ,zZ,zJ];have R8:=zW (Blk.new w7 48 (j0 awR));have ba:=j2 w7 (.cells (j0 awR) 48);have G8:=zW (show w.heap.size≤w7.heap.size∧g3<w7.heap.size∧(∀ad,A1=some ad→ad.block<w7.heap.size)from⟨BB.out.size,R3.out.lt,fun ad e=>O1R.out.block_lt' oF e⟩);have H8:=zW (show g7<w7.heap.size∧Rcs g7 [awR] w7 from by
  obtain⟨g,e,h⟩:=O7.out oC;injection e with e
  injection e with e
  subst e;exact⟨h.lt,h⟩)
 have BB:=zW (BB.out.trans (ba.mono BB.out.size));have R3:=zW (R3.out.step ba);have O1R:=zW (O1R.out.below ba);have H7:=zW (H8.out.2.step ba);have G7:=zW H8.out.1;clear ba H8 O7;generalize w7.heap.size=g8 at R8 G8 G7⊢;generalize World.alloc w7 _=w8 at R8 BB R3 O1R H7⊢;have f1:=R8.out.frozen 1;have q1:=(R8.out.cell 1).trans (kQ _ (show 1<535 by omega));go_upto_region 9 with fail;clear f1 q1;have R8:=zW ((R8.out.put 1 (.int .u64 1)).eq pG);have BB:=zW (BB.out.setCell (p:=⟨g8,1,none⟩) G8.out.1 (.int .u64 1));have R3:=zW (R3.out.other (g:=g8) (by have:=G8.out.2.1;omega) 1 (.int .u64 1));have O1R:=zW (O1R.out.kept (kV (b:=g8) (j:=1) (x:=.int .u64 1)) fun ad e c=>by have:=G8.out.2.2 ad e;omega);have H7:=zW (H7.out.keptR (kV (b:=g8) (j:=1) (x:=.int .u64 1)) (by have:=G7.out;omega));generalize World.setCell w8 _ _=w9 at R8 BB R3 O1R H7⊢;refine zN ?_;refine j8 kX R8.out (j1 _) rfl (.tmp 8) rfl rfl ?_;simp only[Act.put,zQ,zZ,zJ];refine lW (C:=j0 awS) Try.underlying24 kX lR (j1 _) (j1 _) oF oF rfl (.tmp 42) rfl oP ?_;simp only[Act.put,zQ,zZ,zJ];have RO:=zW (lL.one w9 awS);have ba:=j2 w9 (.cells (j0 awS) 48);have BB:=zW (BB.out.trans (ba.mono BB.out.size));have R3:=zW (R3.out.step ba);have O1R:=zW (O1R.out.below ba);have H7:=zW (H7.out.step ba);clear ba R8;generalize w9.heap.size=g9 at RO⊢;generalize World.alloc w9 _=wa at RO BB R3 O1R H7⊢;go_wp2_with fail;refine(pK [awS] (some ⟨g9,0,none⟩) 1 1 rfl (aI bX) wa RO.out (fun r h=>by rw[List.mem_singleton.1 h];exact awS_ok) oF (pQ _)).mono ?_;rintro e wb ⟨rfl,hb⟩;have BB:=zW (BB.out.trans (hb.mono BB.out.size));have R3:=zW (R3.out.step hb);have O1R:=zW (O1R.out.below hb);have H7:=zW (H7.out.step hb);clear hb RO;have cv:=Lib.run_convert_bytes_const (P:=Try.prog) wb 27 5 #[.int .u8 67,.int .u8 56,.int .u8 82,.int .u8 49] 4 4 Try.underlying27 Try.underlying5;have hc:∀j (h:j<(toI sgn).length),(wb.alloc (.cells #[.int .u8 67,.int .u8 56,.int .u8 82,.int .u8 49] 5 (4,5))).cell? ((⟨wb.heap.size,0,none⟩:Addr).add j)=some (.int .u8 (toI sgn)[j]):=fun j hj=>by
  rw[v4,zI,jW _ _ _ _ _ _ (qI wb _)];have hj:j<4:=hj;exact ZR
 have RM:=zW (show Rd (wb.alloc (.cells #[.int .u8 67,.int .u8 56,.int .u8 82,.int .u8 49] 5 (4,5))) (some ⟨wb.heap.size,0,none⟩) (toI sgn)from fun _=>⟨_,rfl,by simp,hc⟩);have ba:Below wb.heap.size wb (wb.alloc (.cells #[.int .u8 67,.int .u8 56,.int .u8 82,.int .u8 49] 5 (4,5))):=j2 wb _;have BB:=zW (BB.out.trans (ba.mono BB.out.size));have R3:=zW (R3.out.step ba);have O1R:=zW (O1R.out.below ba);have H7:=zW (H7.out.step ba);have LB:=zW (show wb.heap.size<(wb.alloc (.cells #[.int .u8 67,.int .u8 56,.int .u8 82,.int .u8 49] 5 (4,5))).heap.size by simp);clear ba hc;go_wp2_with fail;clear cv;generalize wb.heap.size=gb at RM LB⊢;generalize World.alloc wb _=wc at RM LB BB R3 O1R H7⊢;refine(nO sgn oF iX (some ⟨gb,0,none⟩) 4 4 rfl oF oF wc RM.out).mono ?_;rintro e wd ⟨rfl,hb⟩;have BB:=zW (BB.out.trans (hb.mono BB.out.size));have R3:=zW (R3.out.step hb);have O1R:=zW (O1R.out.below hb);have H7:=zW (H7.out.step hb);clear hb RM LB;go_upto_region 11 with fail;refine nD (C:=fun w'=>∃x:m4 wd,w'=x.w) [([0],1),([],2),([3,4,5,6,7,8,9,10,11,12,13,14,15,16,17,18,19,20,21,22,23,24,25,26,27,28,29,30,31,32,33,34,35,36,37,38,39,40,41],42),([43,44,45,46,47],48)] [49,50,51] oS oS (fun _ _ d _ _ h=>by cases d<;>exact h) ⟨⟨wd.drew,(zU _ _).drew⟩,rfl⟩ ?_;intro we hwe;have CB:=zW (show Below wd.heap.size wd we from by rw[hwe];exact(zU _ _).drew);clear hwe;refine lU ?_;repeat(go_big_quiet_step (fail))
 refine z7 ?_;refine lI oA ?_;intro K hK;have RL:=zW (show Rd (we.alloc (.cells #[.int .u8 67,.int .u8 56,.int .u8 82,.int .u8 49,.int .u8 0,.int .u8 0,.int .u8 0,.int .u8 0] 5)) (some ⟨we.heap.size,0,none⟩) (toI [67,56,82,49,0,0,0,0])from yM we [67,56,82,49,0,0,0,0]);have ba:=j2 we (.cells #[.int .u8 67,.int .u8 56,.int .u8 82,.int .u8 49,.int .u8 0,.int .u8 0,.int .u8 0,.int .u8 0] 5);have CB:=zW (CB.out.trans (ba.mono CB.out.size));clear ba;go_wp2_with fail;generalize we.heap.size=gl at RL⊢;generalize World.alloc we _=wf at CB RL⊢;refine hK _ _ ⟨⟨wf,CB.out⟩,rfl⟩ ?_;clear hK K;try simp only[Act.put,zQ,zZ,zJ]
 refine lU ?_;refine z7 ?_;refine lI oA ?_;intro K hK;have SC:=zW (show Calls Try.prog 14 #[.slice A1 8 c1,.slice (some ⟨gl,0,none⟩) 8 8] wf fun e w'=>e=.returned (.bool true)∧Below wf.heap.size wf w' from
  nC A1 (some ⟨gl,0,none⟩) c1 8 8 8 (toI [67,56,82,49,0,0,0,0]) (toI [67,56,82,49,0,0,0,0]) wf rfl rfl oF oF (O1R.out.below CB.out) RL.out)
 go_wp2_with fail;refine SC.out.mono ?_;rintro e wg ⟨rfl,hb⟩;have CB:=zW (CB.out.trans (hb.mono CB.out.size));clear hb SC RL;refine hK _ _ ⟨⟨wg,CB.out⟩,rfl⟩ ?_;clear hK K;try simp only[Act.put,zQ,zZ,zJ]
 have QA:=zW (fun w' (h:∃x:m4 wd,w'=x.w)=>show w'.rangeAt g7 0 (j0 awR).toList from by obtain⟨x,rfl⟩:=h;exact(H7.out.step x.below).at_ 0 oC);have QB:=zW (fun w' (h:∃x:m4 wd,w'=x.w)=>show Blk g3 48 (j0 awR) w' from by obtain⟨x,rfl⟩:=h;exact R3.out.step x.below);refine lU ?_;repeat(first
  |(refine nF (o:=0) kX QA.out (j1 awR) ?_ (.tmp 76) ?_ ?_ ?_;(focus rfl);(focus rfl);(focus(simp[Act.eval];done));simp only[Act.put,zQ,zZ,zJ])
  |(refine uI kX QB.out (j1 awR) ?_ (.tmp 3) ?_ ?_ ?_;(focus rfl);(focus rfl);(focus(simp[Act.eval];done));simp only[Act.put,zQ,zZ,zJ])
  |(refine gJ awR ?_ (.tmp 77) (.tmp 78) 48 ?_ ?_ ?_ ?_;(focus rfl);(focus rfl);(focus(simp[Act.eval];done));(focus(simp[Act.eval];done));simp only[Act.put,zQ,zZ,zJ])
  |go_big_quiet_step (fail))
 refine z7 ?_
 refine lI oA ?_;intro K hK;have RL:=zW (fun(u:m4 wd)=>show lL (some ⟨g7,0,none⟩) [awR] u.w from fun _=>⟨g7,rfl,H7.out.step u.below⟩);have SC:=zW (show Calls Try.prog 17 #[.slice (some ⟨g7,0,none⟩) 1 1,.slice none 0 0] wg fun e w'=>e=.returned (.int .i64 0)∧Below wg.heap.size wg w' from
  (kC [awR] [] (some ⟨g7,0,none⟩) none 1 1 0 0 rfl rfl oF oF wg (RL.out ⟨wg,CB.out⟩) (lL.nil _ _)).mono (by rintro e w' ⟨x,rfl,hx,hb⟩;rw[aG hx];exact⟨rfl,hb⟩))
 go_wp2_with fail;refine SC.out.mono ?_;rintro e wh ⟨rfl,hb⟩;have CB:=zW (CB.out.trans (hb.mono CB.out.size));clear hb SC;refine hK _ _ ⟨⟨wh,CB.out⟩,rfl⟩ ?_;clear hK K;try simp only[Act.put,zQ,zZ,zJ]
 refine lU ?_;repeat(go_big_quiet_step (fail))
 refine z7 ?_;refine lI oA ?_;intro K hK;have SC:=zW (show Calls Try.prog 17 #[.slice (some ⟨g7,0,none⟩) 1 1,.slice (some ⟨g7,0,none⟩) 1 1] wh fun e w'=>e=.returned (.int .i64 (-1))∧Below wh.heap.size wh w' from
  (kC [awR] [awR] (some ⟨g7,0,none⟩) (some ⟨g7,0,none⟩) 1 1 1 1 rfl rfl oF oF wh (RL.out ⟨wh,CB.out⟩) (RL.out ⟨wh,CB.out⟩)).mono o0)
 go_wp2_with fail;refine SC.out.mono ?_;rintro e wi ⟨rfl,hb⟩;have CB:=zW (CB.out.trans (hb.mono CB.out.size));clear hb SC;refine hK _ _ ⟨⟨wi,CB.out⟩,rfl⟩ ?_;clear hK K;try simp only[Act.put,zQ,zZ,zJ]
 refine yN ?_;repeat(go_big_quiet_step (fail))
 refine z7 ?_;have BE:=zW (BB.out.trans (CB.out.mono BB.out.size));go_wp2_with fail;go_ret;exact⟨rfl,BE.out⟩
end
end Go.Proofs.Ytilideoeaecoaaa
