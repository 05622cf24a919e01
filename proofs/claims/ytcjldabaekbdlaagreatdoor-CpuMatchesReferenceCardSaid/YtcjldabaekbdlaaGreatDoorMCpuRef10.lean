/- CpuRef10. -/
import Derived.Test.YtcjldabaekbdlaaGreatDoorMk7a
set_option maxRecDepth 400000
set_option maxHeartbeats 64000000
set_option linter.unusedVariables false
set_option linter.unusedSimpArgs false
namespace Go.Proofs.YtcjldabaekbdlaaGreatDoor
section
open Go.RowKit Num Dec Cpu
theorem zVI{a:AS}(O:OkA a)(op:Int){n:Nat}(hn:n<16):OkA (tI a op n):=by
 unfold tI;repeat' split
 all_goals first|exact O|exact⟨O.v,O.i,O.pc,O.sk,O.M,O.B,O.msk,O.ks,O.dl,O.sd,O.P,O.pt,O.fl,O.L,O.LB,O.rd⟩|exact⟨O.v,O.i,O.pc,O.sk,O.M,O.B,(by simp only;omega),O.ks,O.dl,O.sd,O.P,O.pt,O.fl,O.L,O.LB,O.rd⟩
def gV(N:Nat)(w:World)(g h:Nat)(z:Sls)(i:Ins)(q:Pr)(a:AS)(f:Ef)(wx:World):Prop:=
 ∃z2 wc,EX w g (mT a z2) i q wx∧Blk h 54 (efc f) wx∧RS N wx z2 a∧Fr wc z z2∧g+1+1+1+1<wc.heap.size
theorem gV.mk{N:Nat}{w:World}{g h:Nat}{z:Sls}{i:Ins}{q:Pr}{a:AS}{f:Ef}{wx:World}(z2:Sls)(wc:World)(d:EX w g (mT a z2) i q wx)(e:Blk h 54 (efc f) wx)(r:RS N wx z2 a)(k:Fr wc z z2)(l:g+1+1+1+1<wc.heap.size):gV N w g h z i q a f wx:=⟨z2,wc,d,e,r,k,l⟩
theorem okA_nx{a:AS}(O:OkA a)(len:Int):OkA (nxA a len):=
 ⟨O.v,O.i,(by unfold nxA;simp only;omega),O.sk,O.M,O.B,O.msk,O.ks,O.dl,O.sd,O.P,O.pt,O.fl,O.L,O.LB,O.rd⟩
theorem zH1{a:AS}{op:Int}{x y n:Nat}{q:Pr}(h:caA a op x y n q=0):(op=4→a.sk.length≠16)∧(op=2→a.sk.length≠0)∧op≠0:=by
 unfold caA caN at h;refine⟨fun e k=>?_,fun e k=>?_,fun e=>?_⟩
 ·rw[if_neg (by omega),if_pos ⟨e,k⟩]at h;cases h
 ·rw[if_neg (by omega),if_neg (fun c=>by omega),if_pos ⟨e,k⟩]at h;cases h
 ·rw[if_pos e]at h;cases h
theorem dO(N:Nat)(hN:N=8192)(a:AS)(z:Sls)(op:Int)(x y n nn:Nat)(addr len:Int)(q:Pr)(w:World)(H:RS N w z a)(O:OkA a)(hx:x<16)(hy:y<16)(hn:n<16)(hnn:nn<256)(ha:0≤addr∧addr≤65535)(hl:0≤len∧len≤4):
  Calls Tryz.prog 21 #[.agg (cst (mT a z)),.agg (lI ⟨op,x,y,n,nn,addr,len⟩),.agg (prc q)] w (YR N z (stA N a op x y n nn addr len q) (efA a op x y n q) w):=by
 have NN:=Lib.hid hN;have RR:=Lib.hid H;have OO:=Lib.hid O;have O1:=Lib.hid (okA_nx O len);have HX:=Lib.hid (And.intro hx (And.intro hy (And.intro hn (And.intro hnn (And.intro ha hl)))));have CA:=Lib.hid fun w'=>IH (mT a z) op x y n a.msk nn addr len q w' rfl O.msk hx hy hn O.i;rw[show caN (mT a z).sk.n (mT a z).i a.msk op x y n q.fa=caA a op x y n q from by unfold caA;rw[H.sk.len];rfl]at CA;have D0:=Lib.hid (EX.new w (mT a z) ⟨op,x,y,n,nn,addr,len⟩ q);have DOR:=Lib.hid (fun v w' (hv:OkV v)=>zL9 v op x y nn (n:Int) addr len q w' hv hx hy hnn);have SKR:=Lib.hid (fun v w' (hv:OkV v)=>CM v op x y nn (n:Int) addr len w' hv hx hy hnn);obtain⟨ca,hca⟩:∃ca,caA a op x y n q=ca:=⟨_,rfl⟩;rw[hca]at CA;have HC:=Lib.hid hca;obtain⟨A1,hA1⟩:∃b,nxA a len=b:=⟨_,rfl⟩;have HA1:=Lib.hid hA1;rw[hA1]at O1;have l0:0≤len:=hl.1;have l1:len≤4:=hl.2;have p0:0≤a.pc:=O.pc.1;have p1:a.pc≤65535:=O.pc.2;have d0:0≤addr:=ha.1;have d1:addr≤65535:=ha.2;clear H O hca hN hx hy hn hnn ha hl hA1;go_enter Tryz.func21,Tryz.ntmps21;go_upto_region 0 with fail;refine wp_region_lit ?_;refine mZ rfl _ (.tmp 0) rfl (cst (mT a z)) rfl ?_;simp only[Act.put,List.setIfInBounds_toArray,List.set_cons_zero,List.set_cons_succ];refine mZ rfl _ (.tmp 1) rfl (lI ⟨op,x,y,n,nn,addr,len⟩) rfl ?_;simp only[Act.put,List.setIfInBounds_toArray,List.set_cons_zero,List.set_cons_succ,World.size_alloc];refine mZ rfl _ (.tmp 2) rfl (prc q) rfl ?_;simp only[Act.put,List.setIfInBounds_toArray,List.set_cons_zero,List.set_cons_succ,World.size_alloc];refine wpList_plain rfl fun K hK=>nF xI rfl (hK _ _ ?_);clear hK K;simp only[Act.put,List.setIfInBounds_toArray,List.set_cons_zero,List.set_cons_succ,World.size_alloc];refine wpList_plain rfl fun K hK=>nF oS rfl (hK _ _ ?_);clear hK K;simp only[Act.put,List.setIfInBounds_toArray,List.set_cons_zero,List.set_cons_succ,World.size_alloc];obtain⟨g,hg⟩:∃g,w.heap.size=g:=⟨_,rfl⟩;rw[hg]at D0⊢;have AT:=Lib.hid (Nat.le_of_eq hg);generalize World.alloc (World.alloc (World.alloc (World.alloc (World.alloc _ _) _) _) _) _=w1 at D0⊢;clear hg;go_upto_region 1 with fail;refine wp_region_lit ?_;refine lP mM D0.out.s (lC _) rfl (.tmp 3) rfl rfl ?_;simp only[Act.put,List.setIfInBounds_toArray,List.set_cons_zero,List.set_cons_succ];refine lP mN D0.out.i rfl rfl (.tmp 4) rfl rfl ?_;simp only[Act.put,List.setIfInBounds_toArray,List.set_cons_zero,List.set_cons_succ];refine lP vI D0.out.p rfl rfl (.tmp 5) rfl rfl ?_;simp only[Act.put,List.setIfInBounds_toArray,List.set_cons_zero,List.set_cons_succ];go_wp2_with fail;refine(CA.out _).mono ?_;rintro e w2 ⟨rfl,b2⟩;have D1:=Lib.hid (D0.out.step b2);clear b2 D0 CA;by_cases hc:ca=0
 rotate_left
 ·have hb:(ca !=0)=true:=by simpa using hc
  have ST:=Lib.hid (show stA N a op x y n nn addr len q=a by unfold stA;rw[HC.out,if_neg hc]);have EE:=Lib.hid (show efA a op x y n q=⟨ca,false,false,false⟩ by unfold efA;rw[HC.out,if_neg hc]);clear hc;go_upto_region 3 with fail;refine wp_region_lit ?_;refine lP mM D1.out.s (lC _) rfl (.tmp 3) rfl rfl ?_;simp only[Act.put,List.setIfInBounds_toArray,List.set_cons_zero,List.set_cons_succ];iterate 3 go_step
  refine nU (cs:=efc ⟨ca,false,false,false⟩) rfl rfl (by simp[Act.eval];exact SI ca) ?_;simp only[Act.put,List.setIfInBounds_toArray,List.set_cons_zero,List.set_cons_succ];refine lE (ds:=cst (mT a z)) mM D1.out.o (lC _) (lC _) (nZ _) rfl (.tmp 6) (.tmp 26) rfl (by simp[Act.eval,Act.put]) (by simp[Act.eval,Act.put]) ?_;simp only[Act.put,List.setIfInBounds_toArray,List.set_cons_zero,List.set_cons_succ];have DO:=Lib.hid (D1.out.o.store (cst (mT a z)));have DE:=Lib.hid (D1.out.f.otherRow (g:=g+1+1+1) (by omega) (cst (mT a z)));have B10:=Lib.hid (lU D1.out.low (show w.heap.size≤g+1+1+1 by have:=AT.out;omega) (cst (mT a z)));generalize World.setRow _ _ _=wm at DO DE B10⊢;refine lE (ds:=efc ⟨ca,false,false,false⟩) sT DE.out rfl rfl (yT _) rfl (.tmp 7) (.tmp 28) rfl (by simp[Act.eval,Act.put]) (by simp[Act.eval,Act.put]) ?_;simp only[Act.put,List.setIfInBounds_toArray,List.set_cons_zero,List.set_cons_succ];have DO:=Lib.hid (DO.out.otherRow (g:=g+1+1+1+1) (by omega) (efc ⟨ca,false,false,false⟩));have DE2:=Lib.hid (DE.out.store (efc ⟨ca,false,false,false⟩));have B11:=Lib.hid (lU B10.out (show w.heap.size≤g+1+1+1+1 by have:=AT.out;omega) (efc ⟨ca,false,false,false⟩))
  generalize World.setRow _ _ _=wz at DO DE2 B11⊢;go_wp2_with fail;iterate 4 (try go_step)
  exact bodyPost_ret (wS rfl _ _ (g+1+1+1) (g+1+1+1+1) _ _ _ _ _ _ rfl rfl DO.out DE2.out mM (lC _) sT rfl) rfl (YR.mk ST.out.symm EE.out.symm z rfl (RR.out.step B11.out) B11.out (Fr.refl _ _))
 subst hc;have i0:w2.cell? ⟨g+1,0,none⟩=some (.int .i64 op):=(D1.out.i.cell 0).trans rfl;by_cases h38:op=38
 ·subst h38;have ST:=Lib.hid (show stA N a 38 x y n nn addr len q=a by unfold stA;rw[HC.out,if_pos rfl,if_pos rfl]);have EE:=Lib.hid (show efA a 38 x y n q=⟨0,true,false,false⟩ by unfold efA;rw[HC.out,if_pos rfl,if_pos rfl]);go_upto_region 5 with fail;clear i0;refine wp_region_lit ?_;refine lP mM D1.out.s (lC _) rfl (.tmp 3) rfl rfl ?_;simp only[Act.put,List.setIfInBounds_toArray,List.set_cons_zero,List.set_cons_succ];refine nU (cs:=efc ⟨0,true,false,false⟩) rfl rfl (by simp[Act.eval];exact UT) ?_;simp only[Act.put,List.setIfInBounds_toArray,List.set_cons_zero,List.set_cons_succ];refine lE (ds:=cst (mT a z)) mM D1.out.o (lC _) (lC _) (nZ _) rfl (.tmp 6) (.tmp 32) rfl (by simp[Act.eval,Act.put]) (by simp[Act.eval,Act.put]) ?_;simp only[Act.put,List.setIfInBounds_toArray,List.set_cons_zero,List.set_cons_succ];have DO:=Lib.hid (D1.out.o.store (cst (mT a z)));have DE:=Lib.hid (D1.out.f.otherRow (g:=g+1+1+1) (by omega) (cst (mT a z)));have B10:=Lib.hid (lU D1.out.low (show w.heap.size≤g+1+1+1 by have:=AT.out;omega) (cst (mT a z)));generalize World.setRow _ _ _=wm at DO DE B10⊢;refine lE (ds:=efc ⟨0,true,false,false⟩) sT DE.out rfl rfl (yT _) rfl (.tmp 7) (.tmp 33) rfl (by simp[Act.eval,Act.put]) (by simp[Act.eval,Act.put]) ?_;simp only[Act.put,List.setIfInBounds_toArray,List.set_cons_zero,List.set_cons_succ];have DO:=Lib.hid (DO.out.otherRow (g:=g+1+1+1+1) (by omega) (efc ⟨0,true,false,false⟩));have DE2:=Lib.hid (DE.out.store (efc ⟨0,true,false,false⟩));have B11:=Lib.hid (lU B10.out (show w.heap.size≤g+1+1+1+1 by have:=AT.out;omega) (efc ⟨0,true,false,false⟩))
  generalize World.setRow _ _ _=wz at DO DE2 B11⊢;go_wp2_with fail;iterate 4 (try go_step)
  exact bodyPost_ret (wS rfl _ _ (g+1+1+1) (g+1+1+1+1) _ _ _ _ _ _ rfl rfl DO.out DE2.out mM (lC _) sT rfl) rfl (YR.mk ST.out.symm EE.out.symm z rfl (RR.out.step B11.out) B11.out (Fr.refl _ _))
 have ST:=Lib.hid (show stA N a op x y n nn addr len q=stB N A1 op x y n nn addr len q by unfold stA;rw[HC.out,if_pos rfl,if_neg h38,HA1.out]);have EE:=Lib.hid (show efA a op x y n q=⟨0,false,op==27,(op==23||op==41)&&(q.dw&& !a.hi)⟩ by unfold efA;rw[HC.out,if_pos rfl,if_neg h38]);have CZ:=Lib.hid (show(op=4→a.sk.length≠16)∧(op=2→a.sk.length≠0)∧op≠0 from zH1 HC.out);have e38:(op==38)=false:=by simpa using h38
 clear h38 HC;go_upto_region 6 with fail;clear e38;refine wp_region_lit ?_;iterate 9 go_step
 refine nU (cs:=efc ⟨0,false,op==27,false⟩) rfl rfl (by simp[Act.eval];exact UG _) ?_;simp only[Act.put,List.setIfInBounds_toArray,List.set_cons_zero,List.set_cons_succ];refine nY (ds:=efc ⟨0,false,op==27,false⟩) sT oS rfl rfl (yT _) rfl rfl rfl (.tmp 9) (.tmp 37) rfl (by simp[Act.eval,Act.put]) (by simp[Act.eval,Act.put]) ?_;simp only[Act.put,List.setIfInBounds_toArray,List.set_cons_zero,List.set_cons_succ];have E2:=Lib.hid (Blk.new w2 54 (efc ⟨0,false,op==27,false⟩));have D2:=Lib.hid (D1.out.step (mJ w2 (.cells (efc ⟨0,false,op==27,false⟩) 54)));have HG:=Lib.hid (show g+1+1+1+1<w2.heap.size from D1.out.f.lt);obtain⟨h,hh⟩:∃h,w2.heap.size=h:=⟨_,rfl⟩;rw[hh]at E2 HG⊢;generalize World.alloc _ _=w3 at E2 D2⊢;clear hh D1 i0;have c17:w3.cell? ⟨g,17,none⟩=some (.int .i64 a.pc):=(D2.out.s.cell 17).trans (nW _ 1);have f17:=D2.out.s.frozen 17;have i6:w3.cell? ⟨g+1,6,none⟩=some (.int .i64 len):=(D2.out.i.cell 6).trans rfl;obtain⟨r,hr⟩:∃r:Nat,(a.pc+len)%65536=(r:Int):=⟨((a.pc+len)%65536).toNat,by omega⟩;have MD:=Lib.hid (fun w'=>dX (a.pc+len) r w' hr);have AR:=Lib.hid (show A1={a with pc:=(r:Int)} by rw[←HA1.out,←hr];rfl);clear hr;go_wp2_with fail;refine(MD.out _).mono ?_;rintro e w4 ⟨rfl,rfl⟩;go_upto_region 8 with fail;have D3:=Lib.hid (show EX w g (mT A1 z) ⟨op,x,y,n,nn,addr,len⟩ q (World.setCell w3 ⟨g,17,none⟩ (.int .i64 (r:Int)))from D2.out.put 17 _ ((rJ (mT a z) (r:Int)).trans (by rw[AR.out];rfl)));have E3:=Lib.hid (E2.out.other (g:=g) (by have:=HG.out;omega) 17 (.int .i64 (r:Int)));generalize World.setCell _ _ _=w4 at D3 E3⊢;clear c17 f17 i6 MD D2 E2;refine wp_region_lit ?_;iterate 3 go_step
 refine nA (o:=0) (n:=16) mD D3.out.s (by rw[lC];decide) rfl (.tmp 46) rfl rfl ?_;rw[L4];simp only[Act.put,List.setIfInBounds_toArray,List.set_cons_zero,List.set_cons_succ];refine lP mN D3.out.i rfl rfl (.tmp 4) rfl rfl ?_;simp only[Act.put,List.setIfInBounds_toArray,List.set_cons_zero,List.set_cons_succ];refine lP vI D3.out.p rfl rfl (.tmp 5) rfl rfl ?_;simp only[Act.put,List.setIfInBounds_toArray,List.set_cons_zero,List.set_cons_succ];go_wp2_with fail;refine(DOR.out A1.v _ O1.out.v).mono ?_;rintro e w5 ⟨rfl,b5⟩;have D4:=Lib.hid (D3.out.step b5);have E4:=Lib.hid (E3.out.step b5);clear b5 D3 E3 DOR;obtain⟨V,hV⟩:∃V,xZ A1.v ⟨op,x,y,n,nn,addr,len⟩ q=V:=⟨_,rfl⟩;have HV:=Lib.hid hV;rw[hV];clear hV;simp only[];go_at_K
 iterate 10 go_step
 refine nY (ds:=rg V) mD FJ (nX _) (mK _) (vT _) rfl rfl rfl (.tmp 10) (.tmp 51) rfl (by simp[Act.eval,Act.put]) (by simp[Act.eval,Act.put]) ?_;simp only[Act.put,List.setIfInBounds_toArray,List.set_cons_zero,List.set_cons_succ];have VB:=Lib.hid (Blk.new w5 23 (rg V));have D5:=Lib.hid (D4.out.step (mJ w5 (.cells (rg V) 23)));have E5:=Lib.hid (E4.out.step (mJ w5 (.cells (rg V) 23)));obtain⟨vb,hvb⟩:∃h,w5.heap.size=h:=⟨_,rfl⟩;have VG:=Lib.hid (show g+1+1+1+1<vb from hvb▸D4.out.f.lt);rw[hvb]at VB⊢;generalize World.alloc _ _=w6 at VB D5 E5⊢;clear hvb D4 E4;go_upto_region 9 with fail;refine wp_region_lit ?_;iterate 3 go_step
 refine nA (o:=0) (n:=16) mD D5.out.s (by rw[lC];decide) rfl (.tmp 54) rfl rfl ?_;rw[L4];simp only[Act.put,List.setIfInBounds_toArray,List.set_cons_zero,List.set_cons_succ];refine lP mN D5.out.i rfl rfl (.tmp 4) rfl rfl ?_;simp only[Act.put,List.setIfInBounds_toArray,List.set_cons_zero,List.set_cons_succ];go_wp2_with fail;refine(SKR.out A1.v _ O1.out.v).mono ?_;rintro e w7 ⟨rfl,b7⟩;have D:=Lib.hid (D5.out.step b7);have E:=Lib.hid (E5.out.step b7);have VB:=Lib.hid (VB.out.step b7);have R:=Lib.hid (show RS N w7 z A1 from by rw[AR.out];exact(RR.out.step D.out.low).nums _ _ _ _ _ _ _ _ _);have F:=Lib.hid (show Fr w7 z z from⟨.inl ⟨rfl,Nat.le_refl _⟩,rfl,rfl,.inl rfl,.inl rfl,.inl rfl,.inl rfl⟩);have GC:=Lib.hid (show g+1+1+1+1<w7.heap.size from D.out.f.lt);have HW:=Lib.hid (show h<w7.heap.size from E.out.lt);clear b7 D5 E5 SKR;have HIA:=Lib.hid (show A1.hi=a.hi by rw[AR.out]);have HSK:=Lib.hid (show A1.sk=a.sk by rw[AR.out]);obtain⟨sb,hsb⟩:∃b,skB A1.v ⟨op,x,y,n,nn,addr,len⟩=b:=⟨_,rfl⟩;have HSB:=Lib.hid hsb;rw[hsb];clear hsb;go_upto_block 0 with fail
 go_cut [11,13,14,15,16,17,18,19]from 45 to 221 (fun _ _ _ _ _ _ _ _ wx=>gV N w g h z ⟨op,x,y,n,nn,addr,len⟩ q (stB N A1 op x y n nn addr len q) ⟨0,false,op==27,(op==23||op==41)&&(q.dw&& !a.hi)⟩ wx)
 case first=>
  by_cases hia:yC op=true
  ·have SB:=Lib.hid (show stB N A1 op x y n nn addr len q={A1 with v:=V} by unfold stB;rw[if_pos hia,HV.out])
   have e27:(op==27)=false:=by unfold yC at hia;simp at hia;simp;omega
   have e23:(op==23)=false:=by unfold yC at hia;simp at hia;simp;omega
   have e41:(op==41)=false:=by unfold yC at hia;simp at hia;simp;omega
   have EB:=Lib.hid (show(⟨0,false,op==27,(op==23||op==41)&&(q.dw&& !a.hi)⟩:Ef)=⟨0,false,op==27,false⟩ by rw[e23,e41];rfl)
   clear e27 e23 e41
   rw[hia]
   go_upto_region 12 with fail
   refine wp_region_lit ?_
   refine lP mD VB.out (mK _) rfl (.tmp 10) rfl rfl ?_
   simp only[Act.put,List.setIfInBounds_toArray,List.set_cons_zero,List.set_cons_succ]
   iterate 3 go_step
   refine nG (o:=0) (ds:=rg V) mD D.out.s (mK _) (by rw[lC];decide) (vT _) rfl (.tmp 68) (.tmp 67) rfl rfl rfl ?_
   simp only[Act.put,List.setIfInBounds_toArray,List.set_cons_zero,List.set_cons_succ]
   rw[QC]
   have R:=Lib.hid ((RR.out.past R.out F.out AT.out (by have:=GC.out;omega) (yA.st D.out.s) (w2:=World.setRow w7 g (cst {mT A1 z with v:=V})) (by simp[World.setRow]) (fun k hk=>setRow_other _ _ _ _ hk)).nums V A1.i A1.pc A1.hi A1.msk A1.dl A1.sd A1.pt A1.rd)
   have D:=Lib.hid (show EX w g (mT {A1 with v:=V} z) ⟨op,x,y,n,nn,addr,len⟩ q _ from D.out.row (s':={mT A1 z with v:=V}))
   have E:=Lib.hid (E.out.otherRow (g:=g) (by have:=HG.out;omega) (cst {mT A1 z with v:=V}))
   generalize World.setRow _ _ _=w8 at R D E⊢
   go_wp2_with fail
   go_meet
   exact gV.mk (z) _ (by rw[SB.out];exact D.out) (by rw[EB.out];exact E.out) (by rw[SB.out];exact R.out) F.out GC.out
  rw[show yC op=false by simpa using hia]
  by_cases his:uL op=true
  ·have SB:=Lib.hid (show stB N A1 op x y n nn addr len q=cN A1 sb q.lv by unfold stB;rw[if_neg hia,if_pos his,HSB.out])
   have e27:(op==27)=false:=by unfold uL at his;simp at his;simp;omega
   have e23:(op==23)=false:=by unfold uL at his;simp at his;simp;omega
   have e41:(op==41)=false:=by unfold uL at his;simp at his;simp;omega
   have EB:=Lib.hid (show(⟨0,false,op==27,(op==23||op==41)&&(q.dw&& !a.hi)⟩:Ef)=⟨0,false,op==27,false⟩ by rw[e23,e41];rfl)
   clear e27 e23 e41
   rw[his]
   go_upto_region 14 with fail
   refine wp_region_lit ?_
   refine lP mM D.out.s (lC _) rfl (.tmp 3) rfl rfl ?_
   simp only[Act.put,List.setIfInBounds_toArray,List.set_cons_zero,List.set_cons_succ]
   iterate 3 go_step
   refine lP vI D.out.p rfl rfl (.tmp 5) rfl rfl ?_
   simp only[Act.put,List.setIfInBounds_toArray,List.set_cons_zero,List.set_cons_succ]
   go_wp2_with fail
   refine(pZ A1 z N sb q _ R.out O1.out).mono ?_
   rintro e w8 ⟨rfl,b8⟩
   have D:=Lib.hid (D.out.step b8)
   have E:=Lib.hid (E.out.step b8)
   have R:=Lib.hid ((R.out.step b8).skip sb q.lv)
   clear b8
   simp only[]
   go_at_K
   iterate 1 go_step
   refine lE (ds:=cst (mT (cN A1 sb q.lv) z)) mM D.out.s (lC _) (lC _) (nZ _) rfl (.tmp 3) (.tmp 74) rfl (by simp[Act.eval,Act.put]) (by simp[Act.eval,Act.put]) ?_
   simp only[Act.put,List.setIfInBounds_toArray,List.set_cons_zero,List.set_cons_succ]
   have R:=Lib.hid (RR.out.past R.out F.out AT.out (by have:=GC.out;omega) (yA.st D.out.s) (w2:=World.setRow w8 g (cst (mT (cN A1 sb q.lv) z))) (by simp[World.setRow]) (fun k hk=>setRow_other _ _ _ _ hk))
   have D:=Lib.hid (show EX w g (mT (cN A1 sb q.lv) z) ⟨op,x,y,n,nn,addr,len⟩ q _ from D.out.row (s':=(mT (cN A1 sb q.lv) z)))
   have E:=Lib.hid (E.out.otherRow (g:=g) (by have:=HG.out;omega) (cst (mT (cN A1 sb q.lv) z)))
   generalize World.setRow _ _ _=w9 at R D E⊢
   go_wp2_with fail
   go_meet
   exact gV.mk (z) _ (by rw[SB.out];exact D.out) (by rw[EB.out];exact E.out) (by rw[SB.out];exact R.out) F.out GC.out
  rw[show uL op=false by simpa using his]
  clear VB HV
  by_cases h24:op=24
  ·subst h24
   have SB:=Lib.hid (show stB N A1 24 x y n nn addr len q=cN A1 (dn A1.ks ((A1.v x%16:Nat):Int)) q.lv by unfold stB;rw[if_neg hia,if_neg his,if_pos rfl])
   have EB:=Lib.hid (show(⟨0,false,(24:Int)==27,((24:Int)==23||(24:Int)==41)&&(q.dw&& !a.hi)⟩:Ef)=⟨0,false,(24:Int)==27,false⟩from rfl)
   obtain⟨vx,hv⟩:∃vx,A1.v x=vx:=⟨_,rfl⟩
   have v256:vx<256:=hv▸O1.out.v x HX.out.1
   rw[hv]at SB
   obtain⟨kk,hkk⟩:∃kk,vx%16=kk:=⟨_,rfl⟩
   rw[hkk]at SB
   obtain⟨db,hdb⟩:∃b,dn A1.ks (kk:Int)=b:=⟨_,rfl⟩
   rw[hdb]at SB
   have DN:=Lib.hid (fun(w':World) (h:Below w7.heap.size w7 w')=>(show Calls Tryz.prog 67 #[.slice z.K.A z.K.n z.K.c,.int .i64 (kk:Int)] w' fun e w''=>e=.returned (.bool db)∧Gr w' w'' from(LU z.K.A z.K.n z.K.c A1.ks (kk:Int) db hdb.symm w' (R.out.step h).K (by have:=O1.out.ks;have:=R.out.K.len;omega)).mono fun _ _ ⟨he,hw⟩=>⟨he,by rw[←hw];exact Gr.refl _⟩))
   have SK:=Lib.hid (fun(w':World) (h:Below w7.heap.size w7 w')=>pZ A1 z N db q w' (R.out.step h) O1.out)
   have c23:w7.cell? ⟨g,23,none⟩=some (.slice z.K.A z.K.n z.K.c):=(D.out.s.cell 23).trans (nW _ 7)
   have i1:w7.cell? ⟨g+1,1,none⟩=some (.int .i64 (x:Int)):=(D.out.i.cell 1).trans rfl
   have i0:w7.cell? ⟨g+1,0,none⟩=some (.int .i64 24):=(D.out.i.cell 0).trans rfl
   have cx:w7.cell? ⟨g,x,none⟩=some (.int .u8 (vx:Int)):=(D.out.s.cell x).trans ((wJ _ HX.out.1).trans (by rw[←hv];rfl))
   have k23:=mH.cell c23 D.out.s.lt
   have k1:=mH.cell i1 D.out.i.lt
   have kx:=mH.cell cx D.out.s.lt
   have xi:(x:Int)<16:=by have:=HX.out.1;omega
   have x0:0≤(x:Int):=(by omega)
   have wv:IntKind.i64.wrap (vx:Int)=(vx:Int):=xM (by omega)
   have wm:Int.tmod (vx:Int) 16=(kk:Int):=by rw[Int.tmod_eq_emod_of_nonneg (by omega)];omega
   have wm2:(vx:Int)%16=(kk:Int):=(by omega)
   have FS:=Lib.hid (fun w' (hw:∃u:mH w7,w'=u.w)=>(show Blk g 43 (cst (mT A1 z)) w' from by obtain⟨u,rfl⟩:=hw;exact D.out.s.step u.below))
   have FI:=Lib.hid (fun w' (hw:∃u:mH w7,w'=u.w)=>(show Blk (g+1) 47 (lI ⟨24,x,y,n,nn,addr,len⟩) w' from by obtain⟨u,rfl⟩:=hw;exact D.out.i.step u.below))
   have FP:=Lib.hid (fun w' (hw:∃u:mH w7,w'=u.w)=>(show Blk (g+1+1) 31 (prc q) w' from by obtain⟨u,rfl⟩:=hw;exact D.out.p.step u.below))
   clear hkk hdb hv v256
   go_upto_region 16 with fail
   clear c23 i1 i0 cx
   refine mX (C:=fun w'=>∃u:mH w7,w'=u.w) 13 [([0,1,2,3,4,5,6,7,8,9,11],10,true),([],12,true)] [] [] (by kernel_rfl) (by kernel_rfl) ?_ ?_ ⟨⟨w7.drew,(RowKit.Below.refl _ _).drew⟩,rfl⟩ ?_
   ·exact fun _ _ d _ _ h=>by cases d<;>exact h
   ·rintro _ w' ⟨u,rfl⟩ hg
    exact⟨⟨w',u.below.trans (hg.mono u.below.size)⟩,rfl⟩
   intro wd hwd
   have bd:=Lib.hid (show Below w7.heap.size w7 wd by rw[hwd];exact(RowKit.Below.refl _ _).drew)
   clear hwd
   refine m4 (by simp only[lA,List.getElem?_toArray,List.getElem?_cons_succ,List.getElem?_cons_zero];rfl) (by simp only[List.getElem?_toArray,List.getElem?_cons_succ,List.getElem?_cons_zero];rfl) ?_
   repeat(first
    |(refine l9 mM FS.out (lC _) ?_ (.tmp 3) ?_ ?_ ?_;(focus rfl);(focus rfl);(focus(simp[Act.eval];done));simp only[Act.put,List.setIfInBounds_toArray,List.set_cons_zero,List.set_cons_succ])
    |(refine l9 vI FP.out rfl ?_ (.tmp 5) ?_ ?_ ?_;(focus rfl);(focus rfl);(focus(simp[Act.eval];done));simp only[Act.put,List.setIfInBounds_toArray,List.set_cons_zero,List.set_cons_succ])
    |go_big_quiet_step (rfl))
   refine wpQuiet_nil ?_
   refine m5 (v:=.bool db) (nN (g:=67) (caps:=#[]) (args:=#[.slice z.K.A z.K.n z.K.c,.int .i64 (kk:Int)]) (.func 67) #[.tmp 81,.tmp 88] #[26,3] rfl rfl (enters_of Tryz.func67 (by kernel_rfl) rfl) (fun w' hw=>by obtain⟨u,rfl⟩:=hw;exact DN.out _ u.below) rfl (by simp[Act.eval,wv,wm,wm2])) ?_
   simp only[Act.put,List.setIfInBounds_toArray,List.set_cons_zero,List.set_cons_succ]
   refine m4 (by simp only[lA,List.getElem?_toArray,List.getElem?_cons_succ,List.getElem?_cons_zero];rfl) (by simp only[List.getElem?_toArray,List.getElem?_cons_succ,List.getElem?_cons_zero];rfl) ?_
   repeat(first
    |(refine l9 mM FS.out (lC _) ?_ (.tmp 3) ?_ ?_ ?_;(focus rfl);(focus rfl);(focus(simp[Act.eval];done));simp only[Act.put,List.setIfInBounds_toArray,List.set_cons_zero,List.set_cons_succ])
    |(refine l9 vI FP.out rfl ?_ (.tmp 5) ?_ ?_ ?_;(focus rfl);(focus rfl);(focus(simp[Act.eval];done));simp only[Act.put,List.setIfInBounds_toArray,List.set_cons_zero,List.set_cons_succ])
    |go_big_quiet_step (rfl))
   refine wpQuiet_nil ?_
   refine m5 (v:=.agg (cst (mT (cN A1 db q.lv) z))) (nN (g:=66) (caps:=#[]) (args:=#[.agg (cst (mT A1 z)),.bool db,.agg (prc q)]) (.func 66) #[.tmp 79,.tmp 89,.tmp 90] #[43,4,31] rfl rfl (enters_of Tryz.func66 (by kernel_rfl) rfl) (fun w' hw=>by obtain⟨u,rfl⟩:=hw;exact SK.out _ u.below) rfl (by simp[Act.eval])) ?_
   simp only[Act.put,List.setIfInBounds_toArray,List.set_cons_zero,List.set_cons_succ]
   clear k23 k1 kx wv wm wm2
   refine mE (by simp only[lA,List.getElem?_toArray,List.getElem?_cons_succ,List.getElem?_cons_zero];rfl) (by simp only[List.getElem?_toArray,List.getElem?_cons_succ,List.getElem?_cons_zero];rfl) ?_
   refine wpQuiet_nil ?_
   refine mC rfl ?_
   intro w8 g8 C8 K7 hK
   obtain⟨u8,rfl⟩:=C8
   have D:=Lib.hid (D.out.step u8.below)
   have E:=Lib.hid (E.out.step u8.below)
   have R:=Lib.hid ((R.out.step u8.below).skip db q.lv)
   refine nH (ds:=cst (mT (cN A1 db q.lv) z)) mM D.out.s (lC _) (lC _) (nZ _) (.tmp 3) (.tmp 91) rfl (by simp[Act.eval,Act.put]) (by simp[Act.eval,Act.put]) ?_
   have R:=Lib.hid (RR.out.past R.out F.out AT.out (by have:=GC.out;omega) (yA.st D.out.s) (w2:=World.setRow u8.w g (cst (mT (cN A1 db q.lv) z))) (by simp[World.setRow]) (fun k hk=>setRow_other _ _ _ _ hk))
   have D:=Lib.hid (show EX w g (mT (cN A1 db q.lv) z) ⟨24,x,y,n,nn,addr,len⟩ q _ from D.out.row (s':=(mT (cN A1 db q.lv) z)))
   have E:=Lib.hid (E.out.otherRow (g:=g) (by have:=HG.out;omega) (cst (mT (cN A1 db q.lv) z)))
   refine hK _ _ ?_
   clear hK K7 g8 FS FI FP SK DN
   simp only[Act.put,List.setIfInBounds_toArray,List.set_cons_zero,List.set_cons_succ]
   simp only[lA]
   refine wpQuiet_nil ?_
   intro w10 g10
   have D:=Lib.hid (D.out.step g10)
   have E:=Lib.hid (E.out.step g10)
   have R:=Lib.hid (R.out.step g10)
   clear g10 bd
   go_wp2_with fail
   go_meet
   exact gV.mk (z) _ (by rw[SB.out];exact D.out) (by rw[EB.out];exact E.out) (by rw[SB.out];exact R.out) F.out GC.out
  by_cases h25:op=25
  ·subst h25
   have SB:=Lib.hid (show stB N A1 25 x y n nn addr len q=cN A1 (!dn A1.ks ((A1.v x%16:Nat):Int)) q.lv by unfold stB;rw[if_neg hia,if_neg his,if_neg (by decide),if_pos rfl])
   have EB:=Lib.hid (show(⟨0,false,(25:Int)==27,((25:Int)==23||(25:Int)==41)&&(q.dw&& !a.hi)⟩:Ef)=⟨0,false,(25:Int)==27,false⟩from rfl)
   obtain⟨vx,hv⟩:∃vx,A1.v x=vx:=⟨_,rfl⟩
   have v256:vx<256:=hv▸O1.out.v x HX.out.1
   rw[hv]at SB
   obtain⟨kk,hkk⟩:∃kk,vx%16=kk:=⟨_,rfl⟩
   rw[hkk]at SB
   obtain⟨db,hdb⟩:∃b,dn A1.ks (kk:Int)=b:=⟨_,rfl⟩
   rw[hdb]at SB
   have DN:=Lib.hid (fun(w':World) (h:Below w7.heap.size w7 w')=>(show Calls Tryz.prog 67 #[.slice z.K.A z.K.n z.K.c,.int .i64 (kk:Int)] w' fun e w''=>e=.returned (.bool db)∧Gr w' w'' from(LU z.K.A z.K.n z.K.c A1.ks (kk:Int) db hdb.symm w' (R.out.step h).K (by have:=O1.out.ks;have:=R.out.K.len;omega)).mono fun _ _ ⟨he,hw⟩=>⟨he,by rw[←hw];exact Gr.refl _⟩))
   have SK:=Lib.hid (fun(w':World) (h:Below w7.heap.size w7 w')=>pZ A1 z N (!db) q w' (R.out.step h) O1.out)
   have c23:w7.cell? ⟨g,23,none⟩=some (.slice z.K.A z.K.n z.K.c):=(D.out.s.cell 23).trans (nW _ 7)
   have i1:w7.cell? ⟨g+1,1,none⟩=some (.int .i64 (x:Int)):=(D.out.i.cell 1).trans rfl
   have i0:w7.cell? ⟨g+1,0,none⟩=some (.int .i64 25):=(D.out.i.cell 0).trans rfl
   have cx:w7.cell? ⟨g,x,none⟩=some (.int .u8 (vx:Int)):=(D.out.s.cell x).trans ((wJ _ HX.out.1).trans (by rw[←hv];rfl))
   have k23:=mH.cell c23 D.out.s.lt
   have k1:=mH.cell i1 D.out.i.lt
   have kx:=mH.cell cx D.out.s.lt
   have xi:(x:Int)<16:=by have:=HX.out.1;omega
   have x0:0≤(x:Int):=(by omega)
   have wv:IntKind.i64.wrap (vx:Int)=(vx:Int):=xM (by omega)
   have wm:Int.tmod (vx:Int) 16=(kk:Int):=by rw[Int.tmod_eq_emod_of_nonneg (by omega)];omega
   have wm2:(vx:Int)%16=(kk:Int):=(by omega)
   have FS:=Lib.hid (fun w' (hw:∃u:mH w7,w'=u.w)=>(show Blk g 43 (cst (mT A1 z)) w' from by obtain⟨u,rfl⟩:=hw;exact D.out.s.step u.below))
   have FI:=Lib.hid (fun w' (hw:∃u:mH w7,w'=u.w)=>(show Blk (g+1) 47 (lI ⟨25,x,y,n,nn,addr,len⟩) w' from by obtain⟨u,rfl⟩:=hw;exact D.out.i.step u.below))
   have FP:=Lib.hid (fun w' (hw:∃u:mH w7,w'=u.w)=>(show Blk (g+1+1) 31 (prc q) w' from by obtain⟨u,rfl⟩:=hw;exact D.out.p.step u.below))
   clear hkk hdb hv v256
   go_upto_region 18 with fail
   clear c23 i1 i0 cx
   refine mX (C:=fun w'=>∃u:mH w7,w'=u.w) 14 [([0,1,2,3,4,5,6,7,8,9,12],10,true),([11],13,true)] [] [] (by kernel_rfl) (by kernel_rfl) ?_ ?_ ⟨⟨w7.drew,(RowKit.Below.refl _ _).drew⟩,rfl⟩ ?_
   ·exact fun _ _ d _ _ h=>by cases d<;>exact h
   ·rintro _ w' ⟨u,rfl⟩ hg
    exact⟨⟨w',u.below.trans (hg.mono u.below.size)⟩,rfl⟩
   intro wd hwd
   have bd:=Lib.hid (show Below w7.heap.size w7 wd by rw[hwd];exact(RowKit.Below.refl _ _).drew)
   clear hwd
   refine m4 (by simp only[lA,List.getElem?_toArray,List.getElem?_cons_succ,List.getElem?_cons_zero];rfl) (by simp only[List.getElem?_toArray,List.getElem?_cons_succ,List.getElem?_cons_zero];rfl) ?_
   repeat(first
    |(refine l9 mM FS.out (lC _) ?_ (.tmp 3) ?_ ?_ ?_;(focus rfl);(focus rfl);(focus(simp[Act.eval];done));simp only[Act.put,List.setIfInBounds_toArray,List.set_cons_zero,List.set_cons_succ])
    |(refine l9 vI FP.out rfl ?_ (.tmp 5) ?_ ?_ ?_;(focus rfl);(focus rfl);(focus(simp[Act.eval];done));simp only[Act.put,List.setIfInBounds_toArray,List.set_cons_zero,List.set_cons_succ])
    |go_big_quiet_step (rfl))
   refine wpQuiet_nil ?_
   refine m5 (v:=.bool db) (nN (g:=67) (caps:=#[]) (args:=#[.slice z.K.A z.K.n z.K.c,.int .i64 (kk:Int)]) (.func 67) #[.tmp 98,.tmp 105] #[26,3] rfl rfl (enters_of Tryz.func67 (by kernel_rfl) rfl) (fun w' hw=>by obtain⟨u,rfl⟩:=hw;exact DN.out _ u.below) rfl (by simp[Act.eval,wv,wm,wm2])) ?_
   simp only[Act.put,List.setIfInBounds_toArray,List.set_cons_zero,List.set_cons_succ]
   refine m4 (by simp only[lA,List.getElem?_toArray,List.getElem?_cons_succ,List.getElem?_cons_zero];rfl) (by simp only[List.getElem?_toArray,List.getElem?_cons_succ,List.getElem?_cons_zero];rfl) ?_
   repeat(first
    |(refine l9 mM FS.out (lC _) ?_ (.tmp 3) ?_ ?_ ?_;(focus rfl);(focus rfl);(focus(simp[Act.eval];done));simp only[Act.put,List.setIfInBounds_toArray,List.set_cons_zero,List.set_cons_succ])
    |(refine l9 vI FP.out rfl ?_ (.tmp 5) ?_ ?_ ?_;(focus rfl);(focus rfl);(focus(simp[Act.eval];done));simp only[Act.put,List.setIfInBounds_toArray,List.set_cons_zero,List.set_cons_succ])
    |go_big_quiet_step (rfl))
   refine wpQuiet_nil ?_
   refine m5 (v:=.agg (cst (mT (cN A1 (!db) q.lv) z))) (nN (g:=66) (caps:=#[]) (args:=#[.agg (cst (mT A1 z)),.bool (!db),.agg (prc q)]) (.func 66) #[.tmp 96,.tmp 107,.tmp 108] #[43,4,31] rfl rfl (enters_of Tryz.func66 (by kernel_rfl) rfl) (fun w' hw=>by obtain⟨u,rfl⟩:=hw;exact SK.out _ u.below) rfl (by simp[Act.eval])) ?_
   simp only[Act.put,List.setIfInBounds_toArray,List.set_cons_zero,List.set_cons_succ]
   clear k23 k1 kx wv wm wm2
   refine mE (by simp only[lA,List.getElem?_toArray,List.getElem?_cons_succ,List.getElem?_cons_zero];rfl) (by simp only[List.getElem?_toArray,List.getElem?_cons_succ,List.getElem?_cons_zero];rfl) ?_
   refine wpQuiet_nil ?_
   refine mC rfl ?_
   intro w8 g8 C8 K7 hK
   obtain⟨u8,rfl⟩:=C8
   have D:=Lib.hid (D.out.step u8.below)
   have E:=Lib.hid (E.out.step u8.below)
   have R:=Lib.hid ((R.out.step u8.below).skip (!db) q.lv)
   refine nH (ds:=cst (mT (cN A1 (!db) q.lv) z)) mM D.out.s (lC _) (lC _) (nZ _) (.tmp 3) (.tmp 109) rfl (by simp[Act.eval,Act.put]) (by simp[Act.eval,Act.put]) ?_
   have R:=Lib.hid (RR.out.past R.out F.out AT.out (by have:=GC.out;omega) (yA.st D.out.s) (w2:=World.setRow u8.w g (cst (mT (cN A1 (!db) q.lv) z))) (by simp[World.setRow]) (fun k hk=>setRow_other _ _ _ _ hk))
   have D:=Lib.hid (show EX w g (mT (cN A1 (!db) q.lv) z) ⟨25,x,y,n,nn,addr,len⟩ q _ from D.out.row (s':=(mT (cN A1 (!db) q.lv) z)))
   have E:=Lib.hid (E.out.otherRow (g:=g) (by have:=HG.out;omega) (cst (mT (cN A1 (!db) q.lv) z)))
   refine hK _ _ ?_
   clear hK K7 g8 FS FI FP SK DN
   simp only[Act.put,List.setIfInBounds_toArray,List.set_cons_zero,List.set_cons_succ]
   simp only[lA]
   refine wpQuiet_nil ?_
   intro w10 g10
   have D:=Lib.hid (D.out.step g10)
   have E:=Lib.hid (E.out.step g10)
   have R:=Lib.hid (R.out.step g10)
   clear g10 bd
   go_wp2_with fail
   go_meet
   exact gV.mk (z) _ (by rw[SB.out];exact D.out) (by rw[EB.out];exact E.out) (by rw[SB.out];exact R.out) F.out GC.out
  by_cases h2:op=2
  ·subst h2
   obtain⟨L0,t0,hL⟩:∃L0 t0,A1.sk=L0++[t0]:=by
    rcases List.eq_nil_or_concat A1.sk with h|⟨l,t,h⟩
    ·exact absurd (by rw[←HSK.out,h];rfl) (CZ.out.2.1 rfl)
    ·exact⟨l,t,by rw[h,List.concat_eq_append]⟩
   have SB:=Lib.hid (show stB N A1 2 x y n nn addr len q={A1 with sk:=L0,pc:=t0} by unfold stB;rw[if_neg hia,if_neg his,if_neg (by decide),if_neg (by decide),if_pos rfl,hL,List.dropLast_concat,List.getLastD_concat])
   have EB:=Lib.hid (show(⟨0,false,(2:Int)==27,((2:Int)==23||(2:Int)==41)&&(q.dw&& !a.hi)⟩:Ef)=⟨0,false,(2:Int)==27,false⟩from rfl)
   obtain⟨kk,hkk⟩:∃k,L0.length=k:=⟨_,rfl⟩
   have hn:z.sk.n=kk+1:=by rw[←R.out.sk.len,hL,←hkk];simp
   have K16:=Lib.hid (show kk≤16 by have:=O1.out.sk;rw[hL]at this;simp at this;omega)
   have PP:=Lib.hid (zZB 0 z.sk.A kk z.sk.c L0 t0 w7 (by have:=R.out.sk;rw[hL,hn]at this;exact this) (by have:=K16.out;omega))
   have c18:w7.cell? ⟨g,18,none⟩=some (.slice z.sk.A (kk+1) z.sk.c):=((D.out.s.cell 18).trans (nW _ 2)).trans (by rw[show(uI (mT A1 z))[2]?=some (.slice z.sk.A z.sk.n z.sk.c)from rfl,hn])
   have HN:=Lib.hid hn
   have i0:w7.cell? ⟨g+1,0,none⟩=some (.int .i64 2):=(D.out.i.cell 0).trans rfl
   clear hL hkk hn
   go_upto_region 20 with fail
   refine wp_region_lit ?_
   go_wp2_with fail
   refine PP.out.mono ?_
   rintro e w8 ⟨c9,rfl,hr,b8⟩
   have F:=Lib.hid (show Fr w7 z {z with sk:=⟨z.sk.A,kk,c9⟩}from⟨.inl ⟨rfl,by rw[HN.out];exact Nat.le_succ _⟩,rfl,rfl,.inl rfl,.inl rfl,.inl rfl,.inl rfl⟩)
   have R:=Lib.hid ((R.out.step b8).setS hr t0)
   have D:=Lib.hid (D.out.step b8)
   have E:=Lib.hid (E.out.step b8)
   clear b8 hr PP c18 i0
   have c18:w8.cell? ⟨g,18,none⟩=some (.slice z.sk.A z.sk.n z.sk.c):=(D.out.s.cell 18).trans (nW _ 2)
   have f18:=D.out.s.frozen 18
   go_upto_region 22 with fail
   clear c18 f18
   have R:=Lib.hid (RR.out.past (R.out) F.out AT.out (by have:=GC.out;omega) (yA.st D.out.s) (w2:=World.setCell w8 ⟨g,18,none⟩ (.slice z.sk.A kk c9)) (by simp[World.setCell]) (fun k hk=>RowKit.Below.heap_setCell _ _ _ _ hk))
   have D:=Lib.hid (show EX w g (mT A1 {z with sk:=⟨z.sk.A,kk,c9⟩}) ⟨2,x,y,n,nn,addr,len⟩ q (World.setCell w8 ⟨g,18,none⟩ (.slice z.sk.A kk c9))from D.out.put 18 _ (ZD (mT A1 z) ⟨z.sk.A,kk,c9⟩))
   have E:=Lib.hid (E.out.other (g:=g) (by have:=HG.out;omega) 18 (.slice z.sk.A kk c9))
   generalize World.setCell _ _ _=w9 at R D E⊢
   have c17:w9.cell? ⟨g,17,none⟩=some (.int .i64 A1.pc):=(D.out.s.cell 17).trans (nW _ 1)
   have f17:=D.out.s.frozen 17
   go_wp2_with fail
   clear c17 f17
   have R:=Lib.hid (RR.out.past (R.out) F.out AT.out (by have:=GC.out;omega) (yA.st D.out.s) (w2:=World.setCell w9 ⟨g,17,none⟩ (.int .i64 t0)) (by simp[World.setCell]) (fun k hk=>RowKit.Below.heap_setCell _ _ _ _ hk))
   have D:=Lib.hid (show EX w g (mT {A1 with sk:=L0,pc:=t0} {z with sk:=⟨z.sk.A,kk,c9⟩}) ⟨2,x,y,n,nn,addr,len⟩ q (World.setCell w9 ⟨g,17,none⟩ (.int .i64 t0))from D.out.put 17 _ (rJ (mT A1 {z with sk:=⟨z.sk.A,kk,c9⟩}) t0))
   have E:=Lib.hid (E.out.other (g:=g) (by have:=HG.out;omega) 17 (.int .i64 t0))
   generalize World.setCell _ _ _=w10 at R D E⊢
   go_meet
   exact gV.mk ({z with sk:=⟨z.sk.A,kk,c9⟩}) _ (by rw[SB.out];exact D.out) (by rw[EB.out];exact E.out) (by rw[SB.out];exact R.out) F.out GC.out
  by_cases h3:op=3
  ·subst h3
   have SB:=Lib.hid (show stB N A1 3 x y n nn addr len q={A1 with pc:=addr} by unfold stB;rw[if_neg hia,if_neg his,if_neg (by decide),if_neg (by decide),if_neg (by decide),if_pos rfl])
   have EB:=Lib.hid (show(⟨0,false,(3:Int)==27,((3:Int)==23||(3:Int)==41)&&(q.dw&& !a.hi)⟩:Ef)=⟨0,false,(3:Int)==27,false⟩from rfl)
   have i0:w7.cell? ⟨g+1,0,none⟩=some (.int .i64 3):=(D.out.i.cell 0).trans rfl
   have i5:w7.cell? ⟨g+1,5,none⟩=some (.int .i64 addr):=(D.out.i.cell 5).trans rfl
   have c17:w7.cell? ⟨g,17,none⟩=some (.int .i64 A1.pc):=(D.out.s.cell 17).trans (nW _ 1)
   have f17:=D.out.s.frozen 17
   go_wp2_with fail
   clear i0 i5 c17 f17
   have R:=Lib.hid (RR.out.past (R.out.nums A1.v A1.i addr A1.hi A1.msk A1.dl A1.sd A1.pt A1.rd) F.out AT.out (by have:=GC.out;omega) (yA.st D.out.s) (w2:=World.setCell w7 ⟨g,17,none⟩ (.int .i64 addr)) (by simp[World.setCell]) (fun k hk=>RowKit.Below.heap_setCell _ _ _ _ hk))
   have D:=Lib.hid (show EX w g (mT {A1 with pc:=addr} z) ⟨3,x,y,n,nn,addr,len⟩ q (World.setCell w7 ⟨g,17,none⟩ (.int .i64 addr))from D.out.put 17 _ (rJ (mT A1 z) addr))
   have E:=Lib.hid (E.out.other (g:=g) (by have:=HG.out;omega) 17 (.int .i64 addr))
   generalize World.setCell _ _ _=w8 at R D E⊢
   go_meet
   exact gV.mk (z) _ (by rw[SB.out];exact D.out) (by rw[EB.out];exact E.out) (by rw[SB.out];exact R.out) F.out GC.out
  by_cases h4:op=4
  ·subst h4
   have SB:=Lib.hid (show stB N A1 4 x y n nn addr len q={A1 with sk:=A1.sk++[A1.pc],pc:=addr} by unfold stB;rw[if_neg hia,if_neg his,if_neg (by decide),if_neg (by decide),if_neg (by decide),if_neg (by decide),if_pos rfl])
   have EB:=Lib.hid (show(⟨0,false,(4:Int)==27,((4:Int)==23||(4:Int)==41)&&(q.dw&& !a.hi)⟩:Ef)=⟨0,false,(4:Int)==27,false⟩from rfl)
   have PP:=Lib.hid (TE 0 z.sk.A z.sk.n z.sk.c A1.sk A1.pc w7 R.out.sk (by have:=O1.out.sk;have:=R.out.sk.len;omega) (by have h1:=CZ.out.1 rfl;have h2:=O1.out.sk;have h3:=R.out.sk.len;rw[HSK.out]at h2 h3;omega))
   have c18:w7.cell? ⟨g,18,none⟩=some (.slice z.sk.A z.sk.n z.sk.c):=(D.out.s.cell 18).trans (nW _ 2)
   have c17:w7.cell? ⟨g,17,none⟩=some (.int .i64 A1.pc):=(D.out.s.cell 17).trans (nW _ 1)
   have i0:w7.cell? ⟨g+1,0,none⟩=some (.int .i64 4):=(D.out.i.cell 0).trans rfl
   go_upto_region 26 with fail
   refine wp_region_lit ?_
   go_wp2_with fail
   refine PP.out.mono ?_
   rintro e w8 ⟨A9,n9,c9,rfl,hr,b8⟩
   have F:=Lib.hid (show Fr w7 z {z with sk:=⟨A9,n9,c9⟩}from⟨.inr hr.low,rfl,rfl,.inl rfl,.inl rfl,.inl rfl,.inl rfl⟩)
   have R:=Lib.hid ((R.out.step b8).setS (⟨fun _ _=>Nat.zero_le _,hr.row,hr.len,hr.cap,hr.max⟩:oT 0 w8 A9 n9 c9 (A1.sk++[A1.pc])) addr)
   have D:=Lib.hid (D.out.step b8)
   have E:=Lib.hid (E.out.step b8)
   clear b8 hr PP c18 c17 i0
   have c18:w8.cell? ⟨g,18,none⟩=some (.slice z.sk.A z.sk.n z.sk.c):=(D.out.s.cell 18).trans (nW _ 2)
   have f18:=D.out.s.frozen 18
   go_upto_region 28 with fail
   clear c18 f18
   have R:=Lib.hid (RR.out.past (R.out) F.out AT.out (by have:=GC.out;omega) (yA.st D.out.s) (w2:=World.setCell w8 ⟨g,18,none⟩ (.slice A9 n9 c9)) (by simp[World.setCell]) (fun k hk=>RowKit.Below.heap_setCell _ _ _ _ hk))
   have D:=Lib.hid (show EX w g (mT A1 {z with sk:=⟨A9,n9,c9⟩}) ⟨4,x,y,n,nn,addr,len⟩ q (World.setCell w8 ⟨g,18,none⟩ (.slice A9 n9 c9))from D.out.put 18 _ (ZD (mT A1 z) ⟨A9,n9,c9⟩))
   have E:=Lib.hid (E.out.other (g:=g) (by have:=HG.out;omega) 18 (.slice A9 n9 c9))
   generalize World.setCell _ _ _=w9 at R D E⊢
   have c17:w9.cell? ⟨g,17,none⟩=some (.int .i64 A1.pc):=(D.out.s.cell 17).trans (nW _ 1)
   have f17:=D.out.s.frozen 17
   have i5:w9.cell? ⟨g+1,5,none⟩=some (.int .i64 addr):=(D.out.i.cell 5).trans rfl
   go_wp2_with fail
   clear c17 f17 i5
   have R:=Lib.hid (RR.out.past (R.out) F.out AT.out (by have:=GC.out;omega) (yA.st D.out.s) (w2:=World.setCell w9 ⟨g,17,none⟩ (.int .i64 addr)) (by simp[World.setCell]) (fun k hk=>RowKit.Below.heap_setCell _ _ _ _ hk))
   have D:=Lib.hid (show EX w g (mT {A1 with sk:=A1.sk++[A1.pc],pc:=addr} {z with sk:=⟨A9,n9,c9⟩}) ⟨4,x,y,n,nn,addr,len⟩ q (World.setCell w9 ⟨g,17,none⟩ (.int .i64 addr))from D.out.put 17 _ (rJ (mT A1 {z with sk:=⟨A9,n9,c9⟩}) addr))
   have E:=Lib.hid (E.out.other (g:=g) (by have:=HG.out;omega) 17 (.int .i64 addr))
   generalize World.setCell _ _ _=w10 at R D E⊢
   go_meet
   exact gV.mk ({z with sk:=⟨A9,n9,c9⟩}) _ (by rw[SB.out];exact D.out) (by rw[EB.out];exact E.out) (by rw[SB.out];exact R.out) F.out GC.out
  by_cases h21:op=21
  ·subst h21
   have EB:=Lib.hid (show(⟨0,false,(21:Int)==27,((21:Int)==23||(21:Int)==41)&&(q.dw&& !a.hi)⟩:Ef)=⟨0,false,(21:Int)==27,false⟩from rfl)
   cases hj:q.jx
   ·obtain⟨vx,hv⟩:∃vx,A1.v 0=vx:=⟨_,rfl⟩
    have v256:vx<256:=hv▸O1.out.v 0 (by decide)
    obtain⟨r9,hr⟩:∃r:Nat,(addr+(vx:Int))%65536=(r:Int):=⟨((addr+(vx:Int))%65536).toNat,by omega⟩
    have SB:=Lib.hid (show stB N A1 21 x y n nn addr len q={A1 with pc:=(r9:Int)} by unfold stB;rw[if_neg hia,if_neg his,if_neg (by decide),if_neg (by decide),if_neg (by decide),if_neg (by decide),if_neg (by decide),if_pos rfl,hj];simp only[Bool.false_eq_true,if_false,hv,hr])
    have MD:=Lib.hid (fun w'=>(show Calls Tryz.prog 63 #[.int .i64 (addr+(vx:Int))] w' fun e w''=>e=.returned (.int .i64 (r9:Int))∧Gr w' w'' from(dX (addr+(vx:Int)) r9 w' hr).mono fun _ _ ⟨he,hw⟩=>⟨he,by rw[←hw];exact Gr.refl _⟩))
    have i0:w7.cell? ⟨g+1,0,none⟩=some (.int .i64 21):=(D.out.i.cell 0).trans rfl
    have i1:w7.cell? ⟨g+1,1,none⟩=some (.int .i64 (x:Int)):=(D.out.i.cell 1).trans rfl
    have i5:w7.cell? ⟨g+1,5,none⟩=some (.int .i64 addr):=(D.out.i.cell 5).trans rfl
    have cp:w7.cell? ⟨g+1+1,3,none⟩=some (.bool false):=(D.out.p.cell 3).trans (by rw[show(prc q)[3]?=some (.bool q.jx)from rfl,hj])
    have cx:w7.cell? ⟨g,0,none⟩=some (.int .u8 (vx:Int)):=(D.out.s.cell 0).trans ((wJ _ (by decide)).trans (by rw[←hv];rfl))
    have k5:=mH.cell i5 D.out.i.lt
    have kx:=mH.cell cx D.out.s.lt
    have xi:(x:Int)<16:=by have:=HX.out.1;omega
    have x0:0≤(x:Int):=(by omega)
    have wv:IntKind.i64.wrap (vx:Int)=(vx:Int):=xM (by omega)
    have wa:IntKind.i64.wrap (addr+(vx:Int))=addr+(vx:Int):=IntWalk.i64_in _ (by omega)
    clear hr hv v256
    go_upto_region 33 with fail
    clear i0 i1 i5 cp cx
    refine mX (C:=fun w'=>∃u:mH w7,w'=u.w) 10 [([0,1,2,3,4,5,6,7],8,true)] [9] [] (by kernel_rfl) (by kernel_rfl) ?_ ?_ ⟨⟨w7.drew,(RowKit.Below.refl _ _).drew⟩,rfl⟩ ?_
    ·exact fun _ _ d _ _ h=>by cases d<;>exact h
    ·rintro _ w' ⟨u,rfl⟩ hg
     exact⟨⟨w',u.below.trans (hg.mono u.below.size)⟩,rfl⟩
    intro wd hwd
    have bd:=Lib.hid (show Below w7.heap.size w7 wd by rw[hwd];exact(RowKit.Below.refl _ _).drew)
    clear hwd
    refine m4 (by simp only[lA,List.getElem?_toArray,List.getElem?_cons_succ,List.getElem?_cons_zero];rfl) (by simp only[List.getElem?_toArray,List.getElem?_cons_succ,List.getElem?_cons_zero];rfl) ?_
    repeat(go_big_quiet_step (rfl))
    refine wpQuiet_nil ?_
    refine m5 (v:=.int .i64 (r9:Int)) (nN (g:=63) (caps:=#[]) (args:=#[.int .i64 (addr+(vx:Int))]) (.func 63) #[.tmp 164] #[3] rfl rfl (enters_of Tryz.func63 (by kernel_rfl) rfl) (fun w' hw=>MD.out w') rfl (by simp[Act.eval,wv,wa])) ?_
    simp only[Act.put,List.setIfInBounds_toArray,List.set_cons_zero,List.set_cons_succ]
    clear k5 kx wv wa
    refine mE (by simp only[lA,List.getElem?_toArray,List.getElem?_cons_succ,List.getElem?_cons_zero];rfl) (by simp only[List.getElem?_toArray,List.getElem?_cons_succ,List.getElem?_cons_zero];rfl) ?_
    repeat(go_big_quiet_step (rfl))
    refine wpQuiet_nil ?_
    refine mC rfl ?_
    intro w8 g8 C8 K7 hK
    obtain⟨u8,rfl⟩:=C8
    have D:=Lib.hid (D.out.step u8.below)
    have E:=Lib.hid (E.out.step u8.below)
    have R:=Lib.hid (R.out.step u8.below)
    refine bA D.out.s 17 (.int .i64 (r9:Int)) (by kernel_rfl) rfl (by rw[lC];decide) (.tmp 166) (.tmp 165) rfl rfl rfl ?_
    have R:=Lib.hid (RR.out.past (R.out.nums A1.v A1.i (r9:Int) A1.hi A1.msk A1.dl A1.sd A1.pt A1.rd) F.out AT.out (by have:=GC.out;omega) (yA.st D.out.s) (w2:=World.setCell u8.w ⟨g,17,none⟩ (.int .i64 (r9:Int))) (by simp[World.setCell]) (fun k hk=>RowKit.Below.heap_setCell _ _ _ _ hk))
    have D:=Lib.hid (show EX w g (mT {A1 with pc:=(r9:Int)} z) ⟨21,x,y,n,nn,addr,len⟩ q (World.setCell u8.w ⟨g,17,none⟩ (.int .i64 (r9:Int)))from D.out.put 17 _ (rJ (mT A1 z) (r9:Int)))
    have E:=Lib.hid (E.out.other (g:=g) (by have:=HG.out;omega) 17 (.int .i64 (r9:Int)))
    refine hK _ _ ?_
    clear hK K7 g8 MD
    simp only[Act.put,List.setIfInBounds_toArray,List.set_cons_zero,List.set_cons_succ]
    simp only[lA]
    refine wpQuiet_nil ?_
    intro w10 g10
    have D:=Lib.hid (D.out.step g10)
    have E:=Lib.hid (E.out.step g10)
    have R:=Lib.hid (R.out.step g10)
    clear g10 bd
    go_wp2_with fail
    go_meet
    exact gV.mk (z) _ (by rw[SB.out];exact D.out) (by rw[EB.out];exact E.out) (by rw[SB.out];exact R.out) F.out GC.out
   ·obtain⟨vx,hv⟩:∃vx,A1.v x=vx:=⟨_,rfl⟩
    have v256:vx<256:=hv▸O1.out.v x HX.out.1
    obtain⟨r9,hr⟩:∃r:Nat,(addr+(vx:Int))%65536=(r:Int):=⟨((addr+(vx:Int))%65536).toNat,by omega⟩
    have SB:=Lib.hid (show stB N A1 21 x y n nn addr len q={A1 with pc:=(r9:Int)} by unfold stB;rw[if_neg hia,if_neg his,if_neg (by decide),if_neg (by decide),if_neg (by decide),if_neg (by decide),if_neg (by decide),if_pos rfl,hj];simp only[if_true,hv,hr])
    have MD:=Lib.hid (fun w'=>(show Calls Tryz.prog 63 #[.int .i64 (addr+(vx:Int))] w' fun e w''=>e=.returned (.int .i64 (r9:Int))∧Gr w' w'' from(dX (addr+(vx:Int)) r9 w' hr).mono fun _ _ ⟨he,hw⟩=>⟨he,by rw[←hw];exact Gr.refl _⟩))
    have i0:w7.cell? ⟨g+1,0,none⟩=some (.int .i64 21):=(D.out.i.cell 0).trans rfl
    have i1:w7.cell? ⟨g+1,1,none⟩=some (.int .i64 (x:Int)):=(D.out.i.cell 1).trans rfl
    have i5:w7.cell? ⟨g+1,5,none⟩=some (.int .i64 addr):=(D.out.i.cell 5).trans rfl
    have cp:w7.cell? ⟨g+1+1,3,none⟩=some (.bool true):=(D.out.p.cell 3).trans (by rw[show(prc q)[3]?=some (.bool q.jx)from rfl,hj])
    have cx:w7.cell? ⟨g,x,none⟩=some (.int .u8 (vx:Int)):=(D.out.s.cell x).trans ((wJ _ HX.out.1).trans (by rw[←hv];rfl))
    have k5:=mH.cell i5 D.out.i.lt
    have kx:=mH.cell cx D.out.s.lt
    have xi:(x:Int)<16:=by have:=HX.out.1;omega
    have x0:0≤(x:Int):=(by omega)
    have wv:IntKind.i64.wrap (vx:Int)=(vx:Int):=xM (by omega)
    have wa:IntKind.i64.wrap (addr+(vx:Int))=addr+(vx:Int):=IntWalk.i64_in _ (by omega)
    clear hr hv v256
    go_upto_region 33 with fail
    clear i0 i1 i5 cp cx
    refine mX (C:=fun w'=>∃u:mH w7,w'=u.w) 10 [([0,1,2,3,4,5,6,7],8,true)] [9] [] (by kernel_rfl) (by kernel_rfl) ?_ ?_ ⟨⟨w7.drew,(RowKit.Below.refl _ _).drew⟩,rfl⟩ ?_
    ·exact fun _ _ d _ _ h=>by cases d<;>exact h
    ·rintro _ w' ⟨u,rfl⟩ hg
     exact⟨⟨w',u.below.trans (hg.mono u.below.size)⟩,rfl⟩
    intro wd hwd
    have bd:=Lib.hid (show Below w7.heap.size w7 wd by rw[hwd];exact(RowKit.Below.refl _ _).drew)
    clear hwd
    refine m4 (by simp only[lA,List.getElem?_toArray,List.getElem?_cons_succ,List.getElem?_cons_zero];rfl) (by simp only[List.getElem?_toArray,List.getElem?_cons_succ,List.getElem?_cons_zero];rfl) ?_
    repeat(go_big_quiet_step (rfl))
    refine wpQuiet_nil ?_
    refine m5 (v:=.int .i64 (r9:Int)) (nN (g:=63) (caps:=#[]) (args:=#[.int .i64 (addr+(vx:Int))]) (.func 63) #[.tmp 164] #[3] rfl rfl (enters_of Tryz.func63 (by kernel_rfl) rfl) (fun w' hw=>MD.out w') rfl (by simp[Act.eval,wv,wa])) ?_
    simp only[Act.put,List.setIfInBounds_toArray,List.set_cons_zero,List.set_cons_succ]
    clear k5 kx wv wa
    refine mE (by simp only[lA,List.getElem?_toArray,List.getElem?_cons_succ,List.getElem?_cons_zero];rfl) (by simp only[List.getElem?_toArray,List.getElem?_cons_succ,List.getElem?_cons_zero];rfl) ?_
    repeat(go_big_quiet_step (rfl))
    refine wpQuiet_nil ?_
    refine mC rfl ?_
    intro w8 g8 C8 K7 hK
    obtain⟨u8,rfl⟩:=C8
    have D:=Lib.hid (D.out.step u8.below)
    have E:=Lib.hid (E.out.step u8.below)
    have R:=Lib.hid (R.out.step u8.below)
    refine bA D.out.s 17 (.int .i64 (r9:Int)) (by kernel_rfl) rfl (by rw[lC];decide) (.tmp 166) (.tmp 165) rfl rfl rfl ?_
    have R:=Lib.hid (RR.out.past (R.out.nums A1.v A1.i (r9:Int) A1.hi A1.msk A1.dl A1.sd A1.pt A1.rd) F.out AT.out (by have:=GC.out;omega) (yA.st D.out.s) (w2:=World.setCell u8.w ⟨g,17,none⟩ (.int .i64 (r9:Int))) (by simp[World.setCell]) (fun k hk=>RowKit.Below.heap_setCell _ _ _ _ hk))
    have D:=Lib.hid (show EX w g (mT {A1 with pc:=(r9:Int)} z) ⟨21,x,y,n,nn,addr,len⟩ q (World.setCell u8.w ⟨g,17,none⟩ (.int .i64 (r9:Int)))from D.out.put 17 _ (rJ (mT A1 z) (r9:Int)))
    have E:=Lib.hid (E.out.other (g:=g) (by have:=HG.out;omega) 17 (.int .i64 (r9:Int)))
    refine hK _ _ ?_
    clear hK K7 g8 MD
    simp only[Act.put,List.setIfInBounds_toArray,List.set_cons_zero,List.set_cons_succ]
    simp only[lA]
    refine wpQuiet_nil ?_
    intro w10 g10
    have D:=Lib.hid (D.out.step g10)
    have E:=Lib.hid (E.out.step g10)
    have R:=Lib.hid (R.out.step g10)
    clear g10 bd
    go_wp2_with fail
    go_meet
    exact gV.mk (z) _ (by rw[SB.out];exact D.out) (by rw[EB.out];exact E.out) (by rw[SB.out];exact R.out) F.out GC.out
  by_cases h23:op=23
  ·subst h23
   have SB:=Lib.hid (show stB N A1 23 x y n nn addr len q=EQ N A1 23 x y n q.cl by unfold stB;rw[if_neg hia,if_neg his,if_neg (by decide),if_neg (by decide),if_neg (by decide),if_neg (by decide),if_neg (by decide),if_neg (by decide),if_pos (by decide)])
   obtain⟨ad,c8,eM,rM⟩:=R.out.M
   obtain⟨AG,capG,gsG,eG,pG⟩:=R.out.G
   have DR:=Lib.hid (KR N NN.out (mT A1 z) 23 x y n A1.msk nn addr len q ad 65536 c8 A1.M AG capG gsG A1.F (rwN A1.hi) (rhN A1.hi) (zZD A1.hi) w7 (by decide) rfl O1.out.msk HX.out.1 HX.out.2.1 HX.out.2.2.1 O1.out.v eG pG eM rfl O1.out.M rM O1.out.B O1.out.i)
   clear eM rM eG pG
   have i0:w7.cell? ⟨g+1,0,none⟩=some (.int .i64 23):=(D.out.i.cell 0).trans rfl
   go_upto_region 35 with fail
   clear i0
   refine wp_region_lit ?_
   refine lP mM D.out.s (lC _) rfl (.tmp 3) rfl rfl ?_
   simp only[Act.put,List.setIfInBounds_toArray,List.set_cons_zero,List.set_cons_succ]
   refine lP mN D.out.i rfl rfl (.tmp 4) rfl rfl ?_
   simp only[Act.put,List.setIfInBounds_toArray,List.set_cons_zero,List.set_cons_succ]
   refine lP vI D.out.p rfl rfl (.tmp 5) rfl rfl ?_
   simp only[Act.put,List.setIfInBounds_toArray,List.set_cons_zero,List.set_cons_succ]
   go_wp2_with fail
   refine DR.out.mono ?_
   rintro e w8 ⟨A9,cap9,gs9,rfl,p9,b8,fA9⟩
   obtain⟨A2,hA2⟩:∃A2,EQ N A1 23 x y n q.cl=A2:=⟨_,rfl⟩
   rw[hA2]at SB
   have F:=Lib.hid (show Fr w7 z {z with G:=⟨A9,4,cap9⟩}from⟨.inl ⟨rfl,Nat.le_refl _⟩,rfl,rfl,.inl rfl,.inl rfl,.inl rfl,fA9⟩)
   have R:=Lib.hid (show RS N w8 {z with G:=⟨A9,4,cap9⟩} A2 from by rw[←hA2];exact((R.out.step b8).setG p9 A1.hi A1.msk).nums _ _ _ _ _ _ _ _ _)
   have D:=Lib.hid (D.out.step b8)
   have E:=Lib.hid (E.out.step b8)
   have HI2:=Lib.hid (show A2.hi=a.hi by rw[←hA2];exact HIA.out)
   clear b8 p9 DR fA9
   rw[show cst _=cst (mT A2 {z with G:=⟨A9,4,cap9⟩})from by rw[←hA2];rfl]
   clear hA2
   simp only[]
   go_at_K
   iterate 1 go_step
   refine lE (ds:=cst (mT A2 {z with G:=⟨A9,4,cap9⟩})) mM D.out.s (lC _) (lC _) (nZ _) rfl (.tmp 3) (.tmp 179) rfl (by simp[Act.eval,Act.put]) (by simp[Act.eval,Act.put]) ?_
   simp only[Act.put,List.setIfInBounds_toArray,List.set_cons_zero,List.set_cons_succ]
   have R:=Lib.hid (RR.out.past R.out F.out AT.out (by have:=GC.out;omega) (yA.st D.out.s) (w2:=World.setRow w8 g (cst (mT A2 {z with G:=⟨A9,4,cap9⟩}))) (by simp[World.setRow]) (fun k hk=>setRow_other _ _ _ _ hk))
   have D:=Lib.hid (show EX w g (mT A2 {z with G:=⟨A9,4,cap9⟩}) ⟨23,x,y,n,nn,addr,len⟩ q _ from D.out.row (s':=(mT A2 {z with G:=⟨A9,4,cap9⟩})))
   have E:=Lib.hid (E.out.otherRow (g:=g) (by have:=HG.out;omega) (cst (mT A2 {z with G:=⟨A9,4,cap9⟩})))
   generalize World.setRow _ _ _=w9 at R D E⊢
   have c6:w9.cell? ⟨g+1+1,6,none⟩=some (.bool q.dw):=(D.out.p.cell 6).trans rfl
   have c21:w9.cell? ⟨g,21,none⟩=some (.bool A2.hi):=(D.out.s.cell 21).trans (nW _ 5)
   rw[HI2.out]at c21
   have ce:w9.cell? ⟨h,3,none⟩=some (.bool false):=(E.out.cell 3).trans rfl
   have fe:=E.out.frozen 3
   cases hd:q.dw
   ·rw[hd]at c6
    have EB:=Lib.hid (show(⟨0,false,(23:Int)==27,((23:Int)==23||(23:Int)==41)&&(q.dw&& !a.hi)⟩:Ef)=⟨0,false,(23:Int)==27,false⟩ by rw[hd];rfl)
    go_wp2_with fail
    clear c6 c21 ce fe
    have R:=Lib.hid (RR.out.past R.out F.out (show w.heap.size≤h by have:=AT.out;have:=HG.out;omega) HW.out (yA.ef E.out) (w2:=World.setCell w9 ⟨h,3,none⟩ (.bool false)) (by simp[World.setCell]) (fun k hk=>RowKit.Below.heap_setCell _ _ _ _ hk))
    have D:=Lib.hid (D.out.away HG.out 3 (.bool false))
    have E:=Lib.hid (show Blk h 54 (efc ⟨0,false,(23:Int)==27,false⟩) (World.setCell w9 ⟨h,3,none⟩ (.bool false))from(E.out.put 3 _).eq rfl)
    generalize World.setCell _ _ _=w10 at R D E⊢
    go_meet
    exact gV.mk ({z with G:=⟨A9,4,cap9⟩}) _ (by rw[SB.out];exact D.out) (by rw[EB.out];exact E.out) (by rw[SB.out];exact R.out) F.out GC.out
   ·rw[hd]at c6
    cases hh:a.hi
    ·rw[hh]at c21
     have EB:=Lib.hid (show(⟨0,false,(23:Int)==27,((23:Int)==23||(23:Int)==41)&&(q.dw&& !a.hi)⟩:Ef)=⟨0,false,(23:Int)==27,true⟩ by rw[hd,hh];rfl)
     go_wp2_with fail
     clear c6 c21 ce fe
     have R:=Lib.hid (RR.out.past R.out F.out (show w.heap.size≤h by have:=AT.out;have:=HG.out;omega) HW.out (yA.ef E.out) (w2:=World.setCell w9 ⟨h,3,none⟩ (.bool true)) (by simp[World.setCell]) (fun k hk=>RowKit.Below.heap_setCell _ _ _ _ hk))
     have D:=Lib.hid (D.out.away HG.out 3 (.bool true))
     have E:=Lib.hid (show Blk h 54 (efc ⟨0,false,(23:Int)==27,true⟩) (World.setCell w9 ⟨h,3,none⟩ (.bool true))from(E.out.put 3 _).eq rfl)
     generalize World.setCell _ _ _=w10 at R D E⊢
     go_meet
     exact gV.mk ({z with G:=⟨A9,4,cap9⟩}) _ (by rw[SB.out];exact D.out) (by rw[EB.out];exact E.out) (by rw[SB.out];exact R.out) F.out GC.out
    ·rw[hh]at c21
     have EB:=Lib.hid (show(⟨0,false,(23:Int)==27,((23:Int)==23||(23:Int)==41)&&(q.dw&& !a.hi)⟩:Ef)=⟨0,false,(23:Int)==27,false⟩ by rw[hd,hh];rfl)
     go_wp2_with fail
     clear c6 c21 ce fe
     have R:=Lib.hid (RR.out.past R.out F.out (show w.heap.size≤h by have:=AT.out;have:=HG.out;omega) HW.out (yA.ef E.out) (w2:=World.setCell w9 ⟨h,3,none⟩ (.bool false)) (by simp[World.setCell]) (fun k hk=>RowKit.Below.heap_setCell _ _ _ _ hk))
     have D:=Lib.hid (D.out.away HG.out 3 (.bool false))
     have E:=Lib.hid (show Blk h 54 (efc ⟨0,false,(23:Int)==27,false⟩) (World.setCell w9 ⟨h,3,none⟩ (.bool false))from(E.out.put 3 _).eq rfl)
     generalize World.setCell _ _ _=w10 at R D E⊢
     go_meet
     exact gV.mk ({z with G:=⟨A9,4,cap9⟩}) _ (by rw[SB.out];exact D.out) (by rw[EB.out];exact E.out) (by rw[SB.out];exact R.out) F.out GC.out
  by_cases h41:op=41
  ·subst h41
   have SB:=Lib.hid (show stB N A1 41 x y n nn addr len q=EQ N A1 41 x y n q.cl by unfold stB;rw[if_neg hia,if_neg his,if_neg (by decide),if_neg (by decide),if_neg (by decide),if_neg (by decide),if_neg (by decide),if_neg (by decide),if_pos (by decide)])
   obtain⟨ad,c8,eM,rM⟩:=R.out.M
   obtain⟨AG,capG,gsG,eG,pG⟩:=R.out.G
   have DR:=Lib.hid (KR N NN.out (mT A1 z) 41 x y n A1.msk nn addr len q ad 65536 c8 A1.M AG capG gsG A1.F (rwN A1.hi) (rhN A1.hi) (zZD A1.hi) w7 (by decide) rfl O1.out.msk HX.out.1 HX.out.2.1 HX.out.2.2.1 O1.out.v eG pG eM rfl O1.out.M rM O1.out.B O1.out.i)
   clear eM rM eG pG
   have i0:w7.cell? ⟨g+1,0,none⟩=some (.int .i64 41):=(D.out.i.cell 0).trans rfl
   go_upto_region 35 with fail
   clear i0
   refine wp_region_lit ?_
   refine lP mM D.out.s (lC _) rfl (.tmp 3) rfl rfl ?_
   simp only[Act.put,List.setIfInBounds_toArray,List.set_cons_zero,List.set_cons_succ]
   refine lP mN D.out.i rfl rfl (.tmp 4) rfl rfl ?_
   simp only[Act.put,List.setIfInBounds_toArray,List.set_cons_zero,List.set_cons_succ]
   refine lP vI D.out.p rfl rfl (.tmp 5) rfl rfl ?_
   simp only[Act.put,List.setIfInBounds_toArray,List.set_cons_zero,List.set_cons_succ]
   go_wp2_with fail
   refine DR.out.mono ?_
   rintro e w8 ⟨A9,cap9,gs9,rfl,p9,b8,fA9⟩
   obtain⟨A2,hA2⟩:∃A2,EQ N A1 41 x y n q.cl=A2:=⟨_,rfl⟩
   rw[hA2]at SB
   have F:=Lib.hid (show Fr w7 z {z with G:=⟨A9,4,cap9⟩}from⟨.inl ⟨rfl,Nat.le_refl _⟩,rfl,rfl,.inl rfl,.inl rfl,.inl rfl,fA9⟩)
   have R:=Lib.hid (show RS N w8 {z with G:=⟨A9,4,cap9⟩} A2 from by rw[←hA2];exact((R.out.step b8).setG p9 A1.hi A1.msk).nums _ _ _ _ _ _ _ _ _)
   have D:=Lib.hid (D.out.step b8)
   have E:=Lib.hid (E.out.step b8)
   have HI2:=Lib.hid (show A2.hi=a.hi by rw[←hA2];exact HIA.out)
   clear b8 p9 DR fA9
   rw[show cst _=cst (mT A2 {z with G:=⟨A9,4,cap9⟩})from by rw[←hA2];rfl]
   clear hA2
   simp only[]
   go_at_K
   iterate 1 go_step
   refine lE (ds:=cst (mT A2 {z with G:=⟨A9,4,cap9⟩})) mM D.out.s (lC _) (lC _) (nZ _) rfl (.tmp 3) (.tmp 179) rfl (by simp[Act.eval,Act.put]) (by simp[Act.eval,Act.put]) ?_
   simp only[Act.put,List.setIfInBounds_toArray,List.set_cons_zero,List.set_cons_succ]
   have R:=Lib.hid (RR.out.past R.out F.out AT.out (by have:=GC.out;omega) (yA.st D.out.s) (w2:=World.setRow w8 g (cst (mT A2 {z with G:=⟨A9,4,cap9⟩}))) (by simp[World.setRow]) (fun k hk=>setRow_other _ _ _ _ hk))
   have D:=Lib.hid (show EX w g (mT A2 {z with G:=⟨A9,4,cap9⟩}) ⟨41,x,y,n,nn,addr,len⟩ q _ from D.out.row (s':=(mT A2 {z with G:=⟨A9,4,cap9⟩})))
   have E:=Lib.hid (E.out.otherRow (g:=g) (by have:=HG.out;omega) (cst (mT A2 {z with G:=⟨A9,4,cap9⟩})))
   generalize World.setRow _ _ _=w9 at R D E⊢
   have c6:w9.cell? ⟨g+1+1,6,none⟩=some (.bool q.dw):=(D.out.p.cell 6).trans rfl
   have c21:w9.cell? ⟨g,21,none⟩=some (.bool A2.hi):=(D.out.s.cell 21).trans (nW _ 5)
   rw[HI2.out]at c21
   have ce:w9.cell? ⟨h,3,none⟩=some (.bool false):=(E.out.cell 3).trans rfl
   have fe:=E.out.frozen 3
   cases hd:q.dw
   ·rw[hd]at c6
    have EB:=Lib.hid (show(⟨0,false,(41:Int)==27,((41:Int)==23||(41:Int)==41)&&(q.dw&& !a.hi)⟩:Ef)=⟨0,false,(41:Int)==27,false⟩ by rw[hd];rfl)
    go_wp2_with fail
    clear c6 c21 ce fe
    have R:=Lib.hid (RR.out.past R.out F.out (show w.heap.size≤h by have:=AT.out;have:=HG.out;omega) HW.out (yA.ef E.out) (w2:=World.setCell w9 ⟨h,3,none⟩ (.bool false)) (by simp[World.setCell]) (fun k hk=>RowKit.Below.heap_setCell _ _ _ _ hk))
    have D:=Lib.hid (D.out.away HG.out 3 (.bool false))
    have E:=Lib.hid (show Blk h 54 (efc ⟨0,false,(41:Int)==27,false⟩) (World.setCell w9 ⟨h,3,none⟩ (.bool false))from(E.out.put 3 _).eq rfl)
    generalize World.setCell _ _ _=w10 at R D E⊢
    go_meet
    exact gV.mk ({z with G:=⟨A9,4,cap9⟩}) _ (by rw[SB.out];exact D.out) (by rw[EB.out];exact E.out) (by rw[SB.out];exact R.out) F.out GC.out
   ·rw[hd]at c6
    cases hh:a.hi
    ·rw[hh]at c21
     have EB:=Lib.hid (show(⟨0,false,(41:Int)==27,((41:Int)==23||(41:Int)==41)&&(q.dw&& !a.hi)⟩:Ef)=⟨0,false,(41:Int)==27,true⟩ by rw[hd,hh];rfl)
     go_wp2_with fail
     clear c6 c21 ce fe
     have R:=Lib.hid (RR.out.past R.out F.out (show w.heap.size≤h by have:=AT.out;have:=HG.out;omega) HW.out (yA.ef E.out) (w2:=World.setCell w9 ⟨h,3,none⟩ (.bool true)) (by simp[World.setCell]) (fun k hk=>RowKit.Below.heap_setCell _ _ _ _ hk))
     have D:=Lib.hid (D.out.away HG.out 3 (.bool true))
     have E:=Lib.hid (show Blk h 54 (efc ⟨0,false,(41:Int)==27,true⟩) (World.setCell w9 ⟨h,3,none⟩ (.bool true))from(E.out.put 3 _).eq rfl)
     generalize World.setCell _ _ _=w10 at R D E⊢
     go_meet
     exact gV.mk ({z with G:=⟨A9,4,cap9⟩}) _ (by rw[SB.out];exact D.out) (by rw[EB.out];exact E.out) (by rw[SB.out];exact R.out) F.out GC.out
    ·rw[hh]at c21
     have EB:=Lib.hid (show(⟨0,false,(41:Int)==27,((41:Int)==23||(41:Int)==41)&&(q.dw&& !a.hi)⟩:Ef)=⟨0,false,(41:Int)==27,false⟩ by rw[hd,hh];rfl)
     go_wp2_with fail
     clear c6 c21 ce fe
     have R:=Lib.hid (RR.out.past R.out F.out (show w.heap.size≤h by have:=AT.out;have:=HG.out;omega) HW.out (yA.ef E.out) (w2:=World.setCell w9 ⟨h,3,none⟩ (.bool false)) (by simp[World.setCell]) (fun k hk=>RowKit.Below.heap_setCell _ _ _ _ hk))
     have D:=Lib.hid (D.out.away HG.out 3 (.bool false))
     have E:=Lib.hid (show Blk h 54 (efc ⟨0,false,(41:Int)==27,false⟩) (World.setCell w9 ⟨h,3,none⟩ (.bool false))from(E.out.put 3 _).eq rfl)
     generalize World.setCell _ _ _=w10 at R D E⊢
     go_meet
     exact gV.mk ({z with G:=⟨A9,4,cap9⟩}) _ (by rw[SB.out];exact D.out) (by rw[EB.out];exact E.out) (by rw[SB.out];exact R.out) F.out GC.out
  by_cases h32:op=32
  ·subst h32
   have SB:=Lib.hid (show stB N A1 32 x y n nn addr len q=xP A1 32 x y (spN A1.msk 32 x y n) q.ki by unfold stB;rw[if_neg hia,if_neg his,if_neg (by decide),if_neg (by decide),if_neg (by decide),if_neg (by decide),if_neg (by decide),if_neg (by decide),if_neg (by decide),if_pos (by decide)])
   have EB:=Lib.hid (show(⟨0,false,(32:Int)==27,((32:Int)==23||(32:Int)==41)&&(q.dw&& !a.hi)⟩:Ef)=⟨0,false,(32:Int)==27,false⟩from rfl)
   obtain⟨A2,hA2⟩:∃A2,xP A1 32 x y (spN A1.msk 32 x y n) q.ki=A2:=⟨_,rfl⟩
   rw[hA2]at SB
   have ME:=Lib.hid (show Calls Tryz.prog 71 #[.agg (cst (mT A1 z)),.agg (lI ⟨32,x,y,n,nn,addr,len⟩),.agg (prc q)] w7 (vA N z A2 w7)from by rw[←hA2];exact dI N A1 z 32 x y n _ nn addr len q w7 R.out O1.out HX.out.1 HX.out.2.1 HX.out.2.2.1 rfl (by decide))
   clear hA2
   have i0:w7.cell? ⟨g+1,0,none⟩=some (.int .i64 32):=(D.out.i.cell 0).trans rfl
   go_upto_region 38 with fail
   clear i0
   refine wp_region_lit ?_
   refine lP mM D.out.s (lC _) rfl (.tmp 3) rfl rfl ?_
   simp only[Act.put,List.setIfInBounds_toArray,List.set_cons_zero,List.set_cons_succ]
   refine lP mN D.out.i rfl rfl (.tmp 4) rfl rfl ?_
   simp only[Act.put,List.setIfInBounds_toArray,List.set_cons_zero,List.set_cons_succ]
   refine lP vI D.out.p rfl rfl (.tmp 5) rfl rfl ?_
   simp only[Act.put,List.setIfInBounds_toArray,List.set_cons_zero,List.set_cons_succ]
   go_wp2_with fail
   refine ME.out.mono ?_
   rintro e w8 ⟨z9,rfl,r9,b8,f9⟩
   have F:=Lib.hid f9
   have R:=Lib.hid r9
   have D:=Lib.hid (D.out.step b8)
   have E:=Lib.hid (E.out.step b8)
   clear b8 r9 f9 ME
   simp only[]
   go_at_K
   iterate 1 go_step
   refine lE (ds:=cst (mT A2 z9)) mM D.out.s (lC _) (lC _) (nZ _) rfl (.tmp 3) (.tmp 221) rfl (by simp[Act.eval,Act.put]) (by simp[Act.eval,Act.put]) ?_
   simp only[Act.put,List.setIfInBounds_toArray,List.set_cons_zero,List.set_cons_succ]
   have R:=Lib.hid (RR.out.past R.out F.out AT.out (by have:=GC.out;omega) (yA.st D.out.s) (w2:=World.setRow w8 g (cst (mT A2 z9))) (by simp[World.setRow]) (fun k hk=>setRow_other _ _ _ _ hk))
   have D:=Lib.hid (show EX w g (mT A2 z9) ⟨32,x,y,n,nn,addr,len⟩ q _ from D.out.row (s':=(mT A2 z9)))
   have E:=Lib.hid (E.out.otherRow (g:=g) (by have:=HG.out;omega) (cst (mT A2 z9)))
   generalize World.setRow _ _ _=w9 at R D E⊢
   go_wp2_with fail
   go_meet
   exact gV.mk (z9) _ (by rw[SB.out];exact D.out) (by rw[EB.out];exact E.out) (by rw[SB.out];exact R.out) F.out GC.out
  by_cases h33:op=33
  ·subst h33
   have SB:=Lib.hid (show stB N A1 33 x y n nn addr len q=xP A1 33 x y (spN A1.msk 33 x y n) q.ki by unfold stB;rw[if_neg hia,if_neg his,if_neg (by decide),if_neg (by decide),if_neg (by decide),if_neg (by decide),if_neg (by decide),if_neg (by decide),if_neg (by decide),if_pos (by decide)])
   have EB:=Lib.hid (show(⟨0,false,(33:Int)==27,((33:Int)==23||(33:Int)==41)&&(q.dw&& !a.hi)⟩:Ef)=⟨0,false,(33:Int)==27,false⟩from rfl)
   obtain⟨A2,hA2⟩:∃A2,xP A1 33 x y (spN A1.msk 33 x y n) q.ki=A2:=⟨_,rfl⟩
   rw[hA2]at SB
   have ME:=Lib.hid (show Calls Tryz.prog 71 #[.agg (cst (mT A1 z)),.agg (lI ⟨33,x,y,n,nn,addr,len⟩),.agg (prc q)] w7 (vA N z A2 w7)from by rw[←hA2];exact dI N A1 z 33 x y n _ nn addr len q w7 R.out O1.out HX.out.1 HX.out.2.1 HX.out.2.2.1 rfl (by decide))
   clear hA2
   have i0:w7.cell? ⟨g+1,0,none⟩=some (.int .i64 33):=(D.out.i.cell 0).trans rfl
   go_upto_region 38 with fail
   clear i0
   refine wp_region_lit ?_
   refine lP mM D.out.s (lC _) rfl (.tmp 3) rfl rfl ?_
   simp only[Act.put,List.setIfInBounds_toArray,List.set_cons_zero,List.set_cons_succ]
   refine lP mN D.out.i rfl rfl (.tmp 4) rfl rfl ?_
   simp only[Act.put,List.setIfInBounds_toArray,List.set_cons_zero,List.set_cons_succ]
   refine lP vI D.out.p rfl rfl (.tmp 5) rfl rfl ?_
   simp only[Act.put,List.setIfInBounds_toArray,List.set_cons_zero,List.set_cons_succ]
   go_wp2_with fail
   refine ME.out.mono ?_
   rintro e w8 ⟨z9,rfl,r9,b8,f9⟩
   have F:=Lib.hid f9
   have R:=Lib.hid r9
   have D:=Lib.hid (D.out.step b8)
   have E:=Lib.hid (E.out.step b8)
   clear b8 r9 f9 ME
   simp only[]
   go_at_K
   iterate 1 go_step
   refine lE (ds:=cst (mT A2 z9)) mM D.out.s (lC _) (lC _) (nZ _) rfl (.tmp 3) (.tmp 221) rfl (by simp[Act.eval,Act.put]) (by simp[Act.eval,Act.put]) ?_
   simp only[Act.put,List.setIfInBounds_toArray,List.set_cons_zero,List.set_cons_succ]
   have R:=Lib.hid (RR.out.past R.out F.out AT.out (by have:=GC.out;omega) (yA.st D.out.s) (w2:=World.setRow w8 g (cst (mT A2 z9))) (by simp[World.setRow]) (fun k hk=>setRow_other _ _ _ _ hk))
   have D:=Lib.hid (show EX w g (mT A2 z9) ⟨33,x,y,n,nn,addr,len⟩ q _ from D.out.row (s':=(mT A2 z9)))
   have E:=Lib.hid (E.out.otherRow (g:=g) (by have:=HG.out;omega) (cst (mT A2 z9)))
   generalize World.setRow _ _ _=w9 at R D E⊢
   go_wp2_with fail
   go_meet
   exact gV.mk (z9) _ (by rw[SB.out];exact D.out) (by rw[EB.out];exact E.out) (by rw[SB.out];exact R.out) F.out GC.out
  by_cases h34:op=34
  ·subst h34
   have SB:=Lib.hid (show stB N A1 34 x y n nn addr len q=xP A1 34 x y (spN A1.msk 34 x y n) q.ki by unfold stB;rw[if_neg hia,if_neg his,if_neg (by decide),if_neg (by decide),if_neg (by decide),if_neg (by decide),if_neg (by decide),if_neg (by decide),if_neg (by decide),if_pos (by decide)])
   have EB:=Lib.hid (show(⟨0,false,(34:Int)==27,((34:Int)==23||(34:Int)==41)&&(q.dw&& !a.hi)⟩:Ef)=⟨0,false,(34:Int)==27,false⟩from rfl)
   obtain⟨A2,hA2⟩:∃A2,xP A1 34 x y (spN A1.msk 34 x y n) q.ki=A2:=⟨_,rfl⟩
   rw[hA2]at SB
   have ME:=Lib.hid (show Calls Tryz.prog 71 #[.agg (cst (mT A1 z)),.agg (lI ⟨34,x,y,n,nn,addr,len⟩),.agg (prc q)] w7 (vA N z A2 w7)from by rw[←hA2];exact dI N A1 z 34 x y n _ nn addr len q w7 R.out O1.out HX.out.1 HX.out.2.1 HX.out.2.2.1 rfl (by decide))
   clear hA2
   have i0:w7.cell? ⟨g+1,0,none⟩=some (.int .i64 34):=(D.out.i.cell 0).trans rfl
   go_upto_region 38 with fail
   clear i0
   refine wp_region_lit ?_
   refine lP mM D.out.s (lC _) rfl (.tmp 3) rfl rfl ?_
   simp only[Act.put,List.setIfInBounds_toArray,List.set_cons_zero,List.set_cons_succ]
   refine lP mN D.out.i rfl rfl (.tmp 4) rfl rfl ?_
   simp only[Act.put,List.setIfInBounds_toArray,List.set_cons_zero,List.set_cons_succ]
   refine lP vI D.out.p rfl rfl (.tmp 5) rfl rfl ?_
   simp only[Act.put,List.setIfInBounds_toArray,List.set_cons_zero,List.set_cons_succ]
   go_wp2_with fail
   refine ME.out.mono ?_
   rintro e w8 ⟨z9,rfl,r9,b8,f9⟩
   have F:=Lib.hid f9
   have R:=Lib.hid r9
   have D:=Lib.hid (D.out.step b8)
   have E:=Lib.hid (E.out.step b8)
   clear b8 r9 f9 ME
   simp only[]
   go_at_K
   iterate 1 go_step
   refine lE (ds:=cst (mT A2 z9)) mM D.out.s (lC _) (lC _) (nZ _) rfl (.tmp 3) (.tmp 221) rfl (by simp[Act.eval,Act.put]) (by simp[Act.eval,Act.put]) ?_
   simp only[Act.put,List.setIfInBounds_toArray,List.set_cons_zero,List.set_cons_succ]
   have R:=Lib.hid (RR.out.past R.out F.out AT.out (by have:=GC.out;omega) (yA.st D.out.s) (w2:=World.setRow w8 g (cst (mT A2 z9))) (by simp[World.setRow]) (fun k hk=>setRow_other _ _ _ _ hk))
   have D:=Lib.hid (show EX w g (mT A2 z9) ⟨34,x,y,n,nn,addr,len⟩ q _ from D.out.row (s':=(mT A2 z9)))
   have E:=Lib.hid (E.out.otherRow (g:=g) (by have:=HG.out;omega) (cst (mT A2 z9)))
   generalize World.setRow _ _ _=w9 at R D E⊢
   go_wp2_with fail
   go_meet
   exact gV.mk (z9) _ (by rw[SB.out];exact D.out) (by rw[EB.out];exact E.out) (by rw[SB.out];exact R.out) F.out GC.out
  by_cases h46:op=46
  ·subst h46
   have SB:=Lib.hid (show stB N A1 46 x y n nn addr len q=xP A1 46 x y (spN A1.msk 46 x y n) q.ki by unfold stB;rw[if_neg hia,if_neg his,if_neg (by decide),if_neg (by decide),if_neg (by decide),if_neg (by decide),if_neg (by decide),if_neg (by decide),if_neg (by decide),if_pos (by decide)])
   have EB:=Lib.hid (show(⟨0,false,(46:Int)==27,((46:Int)==23||(46:Int)==41)&&(q.dw&& !a.hi)⟩:Ef)=⟨0,false,(46:Int)==27,false⟩from rfl)
   obtain⟨A2,hA2⟩:∃A2,xP A1 46 x y (spN A1.msk 46 x y n) q.ki=A2:=⟨_,rfl⟩
   rw[hA2]at SB
   have ME:=Lib.hid (show Calls Tryz.prog 71 #[.agg (cst (mT A1 z)),.agg (lI ⟨46,x,y,n,nn,addr,len⟩),.agg (prc q)] w7 (vA N z A2 w7)from by rw[←hA2];exact dI N A1 z 46 x y n _ nn addr len q w7 R.out O1.out HX.out.1 HX.out.2.1 HX.out.2.2.1 rfl (by decide))
   clear hA2
   have i0:w7.cell? ⟨g+1,0,none⟩=some (.int .i64 46):=(D.out.i.cell 0).trans rfl
   go_upto_region 38 with fail
   clear i0
   refine wp_region_lit ?_
   refine lP mM D.out.s (lC _) rfl (.tmp 3) rfl rfl ?_
   simp only[Act.put,List.setIfInBounds_toArray,List.set_cons_zero,List.set_cons_succ]
   refine lP mN D.out.i rfl rfl (.tmp 4) rfl rfl ?_
   simp only[Act.put,List.setIfInBounds_toArray,List.set_cons_zero,List.set_cons_succ]
   refine lP vI D.out.p rfl rfl (.tmp 5) rfl rfl ?_
   simp only[Act.put,List.setIfInBounds_toArray,List.set_cons_zero,List.set_cons_succ]
   go_wp2_with fail
   refine ME.out.mono ?_
   rintro e w8 ⟨z9,rfl,r9,b8,f9⟩
   have F:=Lib.hid f9
   have R:=Lib.hid r9
   have D:=Lib.hid (D.out.step b8)
   have E:=Lib.hid (E.out.step b8)
   clear b8 r9 f9 ME
   simp only[]
   go_at_K
   iterate 1 go_step
   refine lE (ds:=cst (mT A2 z9)) mM D.out.s (lC _) (lC _) (nZ _) rfl (.tmp 3) (.tmp 221) rfl (by simp[Act.eval,Act.put]) (by simp[Act.eval,Act.put]) ?_
   simp only[Act.put,List.setIfInBounds_toArray,List.set_cons_zero,List.set_cons_succ]
   have R:=Lib.hid (RR.out.past R.out F.out AT.out (by have:=GC.out;omega) (yA.st D.out.s) (w2:=World.setRow w8 g (cst (mT A2 z9))) (by simp[World.setRow]) (fun k hk=>setRow_other _ _ _ _ hk))
   have D:=Lib.hid (show EX w g (mT A2 z9) ⟨46,x,y,n,nn,addr,len⟩ q _ from D.out.row (s':=(mT A2 z9)))
   have E:=Lib.hid (E.out.otherRow (g:=g) (by have:=HG.out;omega) (cst (mT A2 z9)))
   generalize World.setRow _ _ _=w9 at R D E⊢
   go_wp2_with fail
   go_meet
   exact gV.mk (z9) _ (by rw[SB.out];exact D.out) (by rw[EB.out];exact E.out) (by rw[SB.out];exact R.out) F.out GC.out
  by_cases h47:op=47
  ·subst h47
   have SB:=Lib.hid (show stB N A1 47 x y n nn addr len q=xP A1 47 x y (spN A1.msk 47 x y n) q.ki by unfold stB;rw[if_neg hia,if_neg his,if_neg (by decide),if_neg (by decide),if_neg (by decide),if_neg (by decide),if_neg (by decide),if_neg (by decide),if_neg (by decide),if_pos (by decide)])
   have EB:=Lib.hid (show(⟨0,false,(47:Int)==27,((47:Int)==23||(47:Int)==41)&&(q.dw&& !a.hi)⟩:Ef)=⟨0,false,(47:Int)==27,false⟩from rfl)
   obtain⟨A2,hA2⟩:∃A2,xP A1 47 x y (spN A1.msk 47 x y n) q.ki=A2:=⟨_,rfl⟩
   rw[hA2]at SB
   have ME:=Lib.hid (show Calls Tryz.prog 71 #[.agg (cst (mT A1 z)),.agg (lI ⟨47,x,y,n,nn,addr,len⟩),.agg (prc q)] w7 (vA N z A2 w7)from by rw[←hA2];exact dI N A1 z 47 x y n _ nn addr len q w7 R.out O1.out HX.out.1 HX.out.2.1 HX.out.2.2.1 rfl (by decide))
   clear hA2
   have i0:w7.cell? ⟨g+1,0,none⟩=some (.int .i64 47):=(D.out.i.cell 0).trans rfl
   go_upto_region 38 with fail
   clear i0
   refine wp_region_lit ?_
   refine lP mM D.out.s (lC _) rfl (.tmp 3) rfl rfl ?_
   simp only[Act.put,List.setIfInBounds_toArray,List.set_cons_zero,List.set_cons_succ]
   refine lP mN D.out.i rfl rfl (.tmp 4) rfl rfl ?_
   simp only[Act.put,List.setIfInBounds_toArray,List.set_cons_zero,List.set_cons_succ]
   refine lP vI D.out.p rfl rfl (.tmp 5) rfl rfl ?_
   simp only[Act.put,List.setIfInBounds_toArray,List.set_cons_zero,List.set_cons_succ]
   go_wp2_with fail
   refine ME.out.mono ?_
   rintro e w8 ⟨z9,rfl,r9,b8,f9⟩
   have F:=Lib.hid f9
   have R:=Lib.hid r9
   have D:=Lib.hid (D.out.step b8)
   have E:=Lib.hid (E.out.step b8)
   clear b8 r9 f9 ME
   simp only[]
   go_at_K
   iterate 1 go_step
   refine lE (ds:=cst (mT A2 z9)) mM D.out.s (lC _) (lC _) (nZ _) rfl (.tmp 3) (.tmp 221) rfl (by simp[Act.eval,Act.put]) (by simp[Act.eval,Act.put]) ?_
   simp only[Act.put,List.setIfInBounds_toArray,List.set_cons_zero,List.set_cons_succ]
   have R:=Lib.hid (RR.out.past R.out F.out AT.out (by have:=GC.out;omega) (yA.st D.out.s) (w2:=World.setRow w8 g (cst (mT A2 z9))) (by simp[World.setRow]) (fun k hk=>setRow_other _ _ _ _ hk))
   have D:=Lib.hid (show EX w g (mT A2 z9) ⟨47,x,y,n,nn,addr,len⟩ q _ from D.out.row (s':=(mT A2 z9)))
   have E:=Lib.hid (E.out.otherRow (g:=g) (by have:=HG.out;omega) (cst (mT A2 z9)))
   generalize World.setRow _ _ _=w9 at R D E⊢
   go_wp2_with fail
   go_meet
   exact gV.mk (z9) _ (by rw[SB.out];exact D.out) (by rw[EB.out];exact E.out) (by rw[SB.out];exact R.out) F.out GC.out
  by_cases h50:op=50
  ·subst h50
   have SB:=Lib.hid (show stB N A1 50 x y n nn addr len q=xP A1 50 x y (spN A1.msk 50 x y n) q.ki by unfold stB;rw[if_neg hia,if_neg his,if_neg (by decide),if_neg (by decide),if_neg (by decide),if_neg (by decide),if_neg (by decide),if_neg (by decide),if_neg (by decide),if_pos (by decide)])
   have EB:=Lib.hid (show(⟨0,false,(50:Int)==27,((50:Int)==23||(50:Int)==41)&&(q.dw&& !a.hi)⟩:Ef)=⟨0,false,(50:Int)==27,false⟩from rfl)
   obtain⟨A2,hA2⟩:∃A2,xP A1 50 x y (spN A1.msk 50 x y n) q.ki=A2:=⟨_,rfl⟩
   rw[hA2]at SB
   have ME:=Lib.hid (show Calls Tryz.prog 71 #[.agg (cst (mT A1 z)),.agg (lI ⟨50,x,y,n,nn,addr,len⟩),.agg (prc q)] w7 (vA N z A2 w7)from by rw[←hA2];exact dI N A1 z 50 x y n _ nn addr len q w7 R.out O1.out HX.out.1 HX.out.2.1 HX.out.2.2.1 rfl (by decide))
   clear hA2
   have i0:w7.cell? ⟨g+1,0,none⟩=some (.int .i64 50):=(D.out.i.cell 0).trans rfl
   go_upto_region 38 with fail
   clear i0
   refine wp_region_lit ?_
   refine lP mM D.out.s (lC _) rfl (.tmp 3) rfl rfl ?_
   simp only[Act.put,List.setIfInBounds_toArray,List.set_cons_zero,List.set_cons_succ]
   refine lP mN D.out.i rfl rfl (.tmp 4) rfl rfl ?_
   simp only[Act.put,List.setIfInBounds_toArray,List.set_cons_zero,List.set_cons_succ]
   refine lP vI D.out.p rfl rfl (.tmp 5) rfl rfl ?_
   simp only[Act.put,List.setIfInBounds_toArray,List.set_cons_zero,List.set_cons_succ]
   go_wp2_with fail
   refine ME.out.mono ?_
   rintro e w8 ⟨z9,rfl,r9,b8,f9⟩
   have F:=Lib.hid f9
   have R:=Lib.hid r9
   have D:=Lib.hid (D.out.step b8)
   have E:=Lib.hid (E.out.step b8)
   clear b8 r9 f9 ME
   simp only[]
   go_at_K
   iterate 1 go_step
   refine lE (ds:=cst (mT A2 z9)) mM D.out.s (lC _) (lC _) (nZ _) rfl (.tmp 3) (.tmp 221) rfl (by simp[Act.eval,Act.put]) (by simp[Act.eval,Act.put]) ?_
   simp only[Act.put,List.setIfInBounds_toArray,List.set_cons_zero,List.set_cons_succ]
   have R:=Lib.hid (RR.out.past R.out F.out AT.out (by have:=GC.out;omega) (yA.st D.out.s) (w2:=World.setRow w8 g (cst (mT A2 z9))) (by simp[World.setRow]) (fun k hk=>setRow_other _ _ _ _ hk))
   have D:=Lib.hid (show EX w g (mT A2 z9) ⟨50,x,y,n,nn,addr,len⟩ q _ from D.out.row (s':=(mT A2 z9)))
   have E:=Lib.hid (E.out.otherRow (g:=g) (by have:=HG.out;omega) (cst (mT A2 z9)))
   generalize World.setRow _ _ _=w9 at R D E⊢
   go_wp2_with fail
   go_meet
   exact gV.mk (z9) _ (by rw[SB.out];exact D.out) (by rw[EB.out];exact E.out) (by rw[SB.out];exact R.out) F.out GC.out
  have e24:(op==24)=false:=by simpa using h24
  have e25:(op==25)=false:=by simpa using h25
  have e2:(op==2)=false:=by simpa using h2
  have e3:(op==3)=false:=by simpa using h3
  have e4:(op==4)=false:=by simpa using h4
  have e21:(op==21)=false:=by simpa using h21
  have e23:(op==23)=false:=by simpa using h23
  have e41:(op==41)=false:=by simpa using h41
  have e32:(op==32)=false:=by simpa using h32
  have e33:(op==33)=false:=by simpa using h33
  have e34:(op==34)=false:=by simpa using h34
  have e46:(op==46)=false:=by simpa using h46
  have e47:(op==47)=false:=by simpa using h47
  have e50:(op==50)=false:=by simpa using h50
  have SB:=Lib.hid (show stB N A1 op x y n nn addr len q=yP (tI A1 op n) op x nn addr by unfold stB zBQ;rw[if_neg hia,if_neg his,if_neg h24,if_neg h25,if_neg h2,if_neg h3,if_neg h4,if_neg h21,if_neg (fun h=>h.elim h23 h41),if_neg (by simp[h32,h33,h34,h46,h47,h50])])
  have EB:=Lib.hid (show(⟨0,false,op==27,(op==23||op==41)&&(q.dw&& !a.hi)⟩:Ef)=⟨0,false,op==27,false⟩ by rw[e23,e41];rfl)
  have OD:=Lib.hid (zVI O1.out op HX.out.2.2.1)
  obtain⟨A2,hA2⟩:∃A2,tI A1 op n=A2:=⟨_,rfl⟩
  rw[hA2]at SB OD
  obtain⟨A3,hA3⟩:∃A3,yP A2 op x nn addr=A3:=⟨_,rfl⟩
  rw[hA3]at SB
  have DC:=Lib.hid (fun(w':World) (b:Below w7.heap.size w7 w')=>(show Calls Tryz.prog 73 #[.agg (cst (mT A1 z)),.agg (lI ⟨op,x,y,n,nn,addr,len⟩)] w' (vA N z A2 w')from by rw[←hA2];exact zZS N NN.out A1 z op x y n nn addr len w' (R.out.step b) O1.out HX.out.2.2.1))
  have VC:=Lib.hid (fun(z1:Sls) (w':World) (r:RS N w' z1 A2)=>(show Calls Tryz.prog 72 #[.agg (cst (mT A2 z1)),.agg (lI ⟨op,x,y,n,nn,addr,len⟩)] w' (vA N z1 A3 w')from by rw[←hA3];exact zVQ N A2 z1 op x nn y n addr len w' r OD.out HX.out.1 HX.out.2.2.2.1))
  clear hA2 hA3 h24 h25 h2 h3 h4 h21 h23 h41 h32 h33 h34 h46 h47 h50
  have i0:w7.cell? ⟨g+1,0,none⟩=some (.int .i64 op):=(D.out.i.cell 0).trans rfl
  go_upto_region 10 with fail
  clear i0 e24 e25 e2 e3 e4 e21 e23 e41 e32 e33 e34 e46 e47 e50
  have FS:=Lib.hid (fun w' (hw:∃u:mH w7,w'=u.w)=>(show Blk g 43 (cst (mT A1 z)) w' from by obtain⟨u,rfl⟩:=hw;exact D.out.s.step u.below))
  have FI:=Lib.hid (fun w' (hw:∃u:mH w7,w'=u.w)=>(show Blk (g+1) 47 (lI ⟨op,x,y,n,nn,addr,len⟩) w' from by obtain⟨u,rfl⟩:=hw;exact D.out.i.step u.below))
  have FP:=Lib.hid (fun w' (hw:∃u:mH w7,w'=u.w)=>(show Blk (g+1+1) 31 (prc q) w' from by obtain⟨u,rfl⟩:=hw;exact D.out.p.step u.below))
  refine mX (C:=fun w'=>∃u:mH w7,w'=u.w) 5 [([0,1,3],2,false),([],4,false)] [] [] (by kernel_rfl) (by kernel_rfl) ?_ ?_ ⟨⟨w7.drew,(RowKit.Below.refl _ _).drew⟩,rfl⟩ ?_
  ·exact fun _ _ d _ _ h=>by cases d<;>exact h
  ·rintro _ w' ⟨u,rfl⟩ hg
   exact⟨⟨w',u.below.trans (hg.mono u.below.size)⟩,rfl⟩
  intro wd hwd
  have bd:=Lib.hid (show Below w7.heap.size w7 wd by rw[hwd];exact(RowKit.Below.refl _ _).drew)
  clear hwd
  refine vW (by simp only[lA,List.getElem?_toArray,List.getElem?_cons_succ,List.getElem?_cons_zero];rfl) (by simp only[List.getElem?_toArray,List.getElem?_cons_succ,List.getElem?_cons_zero];rfl) ?_
  repeat(first
   |(refine l9 mM FS.out (lC _) ?_ (.tmp 3) ?_ ?_ ?_;(focus rfl);(focus rfl);(focus(simp[Act.eval];done));simp only[Act.put,List.setIfInBounds_toArray,List.set_cons_zero,List.set_cons_succ])
   |(refine l9 mN FI.out rfl ?_ (.tmp 4) ?_ ?_ ?_;(focus rfl);(focus rfl);(focus(simp[Act.eval];done));simp only[Act.put,List.setIfInBounds_toArray,List.set_cons_zero,List.set_cons_succ])
   |go_big_quiet_step (rfl))
  refine wpQuiet_nil ?_
  refine vV rfl ?_
  intro w8 g8 C8 K7 hK
  obtain⟨u8,rfl⟩:=C8
  refine mF (g:=73) (caps:=#[]) (args:=#[.agg (cst (mT A1 z)),.agg (lI ⟨op,x,y,n,nn,addr,len⟩)]) (.func 73) #[.tmp 60,.tmp 61] #[43,47] rfl (enters_of Tryz.func73 (by kernel_rfl) rfl) rfl (by simp[Act.eval]) ?_
  refine(DC.out _ u8.below).mono ?_
  rintro e w9 ⟨z1,rfl,r9,b9,f9⟩
  have B9:=Lib.hid (u8.below.trans (b9.mono u8.below.size))
  have F1:=Lib.hid f9
  have R1:=Lib.hid r9
  have S8:=Lib.hid (show w7.heap.size≤u8.w.heap.size from u8.below.size)
  have GS9:=Lib.hid (show u8.w.heap.size≤w9.heap.size from b9.size)
  clear f9 r9 b9
  refine⟨_,rfl,?_⟩
  refine hK _ _ ⟨⟨w9,B9.out⟩,rfl⟩ ?_
  clear hK K7 g8
  simp only[Act.put,List.setIfInBounds_toArray,List.set_cons_zero,List.set_cons_succ]
  refine vW (by simp only[lA,List.getElem?_toArray,List.getElem?_cons_succ,List.getElem?_cons_zero];rfl) (by simp only[List.getElem?_toArray,List.getElem?_cons_succ,List.getElem?_cons_zero];rfl) ?_
  refine wpQuiet_nil ?_
  refine vV rfl ?_
  intro w10 g10 C10 K7 hK
  obtain⟨u10,rfl⟩:=C10
  refine mF (g:=72) (caps:=#[]) (args:=#[.agg (cst (mT A2 z1)),.agg (lI ⟨op,x,y,n,nn,addr,len⟩)]) (.func 72) #[.tmp 62,.tmp 63] #[43,47] rfl (enters_of Tryz.func72 (by kernel_rfl) rfl) rfl (by simp[Act.eval]) ?_
  refine(VC.out z1 _ (R1.out.step g10)).mono ?_
  rintro e w11 ⟨z9,rfl,r9,b9,f9⟩
  have F2:=Lib.hid f9
  have R2:=Lib.hid r9
  have B11:=Lib.hid (u10.below.trans (b9.mono u10.below.size))
  have F:=Lib.hid (show Fr u8.w z z9 from F1.out.trans F2.out (Nat.le_trans GS9.out g10.size))
  clear f9 r9 b9
  refine⟨_,rfl,?_⟩
  refine hK _ _ ⟨⟨w11,B11.out⟩,rfl⟩ ?_
  clear hK K7
  simp only[Act.put,List.setIfInBounds_toArray,List.set_cons_zero,List.set_cons_succ]
  refine mE (by simp only[lA,List.getElem?_toArray,List.getElem?_cons_succ,List.getElem?_cons_zero];rfl) (by simp only[List.getElem?_toArray,List.getElem?_cons_succ,List.getElem?_cons_zero];rfl) ?_
  refine wpQuiet_nil ?_
  refine mC rfl ?_
  intro w12 g12 C12 K7 hK
  obtain⟨u12,rfl⟩:=C12
  have D:=Lib.hid (D.out.step u12.below)
  have E:=Lib.hid (E.out.step u12.below)
  have R:=Lib.hid (R2.out.step g12)
  refine nH (ds:=cst (mT A3 z9)) mM D.out.s (lC _) (lC _) (nZ _) (.tmp 3) (.tmp 64) rfl (by simp[Act.eval,Act.put]) (by simp[Act.eval,Act.put]) ?_
  have R:=Lib.hid (RR.out.past R.out F.out AT.out (by have:=GC.out;have:=S8.out;omega) (yA.st D.out.s) (w2:=World.setRow u12.w g (cst (mT A3 z9))) (by simp[World.setRow]) (fun k hk=>setRow_other _ _ _ _ hk))
  have D:=Lib.hid (show EX w g (mT A3 z9) ⟨op,x,y,n,nn,addr,len⟩ q _ from D.out.row (s':=(mT A3 z9)))
  have E:=Lib.hid (E.out.otherRow (g:=g) (by have:=HG.out;omega) (cst (mT A3 z9)))
  refine hK _ _ ?_
  clear hK K7 g12 FS FI FP DC VC F1 F2 R1 R2
  simp only[Act.put,List.setIfInBounds_toArray,List.set_cons_zero,List.set_cons_succ]
  simp only[lA]
  refine wpQuiet_nil ?_
  intro w14 g14
  have D:=Lib.hid (D.out.step g14)
  have E:=Lib.hid (E.out.step g14)
  have R:=Lib.hid (R.out.step g14)
  have GC:=Lib.hid (show g+1+1+1+1<u8.w.heap.size by have:=GC.out;have:=S8.out;omega)
  clear g14 bd
  go_wp2_with fail
  go_meet
  exact gV.mk (z9) _ (by rw[SB.out];exact D.out) (by rw[EB.out];exact E.out) (by rw[SB.out];exact R.out) F.out GC.out
 case rest=>
  clear D E R F GC VB HV HW
  obtain⟨z2,wq,dd,ee,rr,ff,gg⟩:=hcut
  have D:=Lib.hid dd
  have E:=Lib.hid ee
  have R:=Lib.hid rr
  have F:=Lib.hid ff
  have GC:=Lib.hid gg
  clear dd ee rr ff gg
  obtain⟨A9,hA9⟩:∃A9,stB N A1 op x y n nn addr len q=A9:=⟨_,rfl⟩
  obtain⟨f9,hf9⟩:∃f9,(⟨0,false,op==27,(op==23||op==41)&&(q.dw&& !a.hi)⟩:Ef)=f9:=⟨_,rfl⟩
  rw[hA9]at ST D R
  rw[hf9]at EE E
  clear hA9 hf9
  go_upto_region 39 with fail
  refine nR (C:=fun w'=>Blk g 43 (cst (mT A9 z2)) w'∧Blk h 54 (efc f9) w') [([0,1],2),([],3)] [] (by kernel_rfl) (by kernel_rfl) (fun _ _ d _ _ h=>by cases d<;>exact h) ⟨D.out.s.drew,E.out.drew⟩ ?_
  intro wd hwd
  have BD:=Lib.hid (show Below wc.heap.size wc wd from by rw[hwd];exact(RowKit.Below.refl _ _).drew)
  have DF:=Lib.hid (D.out.step BD.out)
  have E9:=Lib.hid (E.out.step BD.out)
  have R9:=Lib.hid (R.out.step BD.out)
  clear hwd BD D E R
  refine nD (by simp only[lA,List.getElem?_toArray,List.getElem?_cons_succ,List.getElem?_cons_zero];rfl) (by simp only[lA,List.getElem?_toArray,List.getElem?_cons_succ,List.getElem?_cons_zero];rfl) ?_
  repeat(first
   |(refine l9 mM (fun _ h=>h.1) (lC _) ?_ (.tmp 3) ?_ ?_ ?_;(focus rfl);(focus rfl);(focus(simp[Act.eval];done));simp only[Act.put,List.setIfInBounds_toArray,List.set_cons_zero,List.set_cons_succ])
   |(refine l9 sT (fun _ h=>h.2) rfl ?_ (.tmp 9) ?_ ?_ ?_;(focus rfl);(focus rfl);(focus(simp[Act.eval];done));simp only[Act.put,List.setIfInBounds_toArray,List.set_cons_zero,List.set_cons_succ])
   |go_big_quiet_step (fail))
  refine wpQuiet_nil ?_
  refine nK (by rfl) ?_
  intro K7 hK
  refine nH (ds:=cst (mT A9 z2)) mM DF.out.o (lC _) (lC _) (nZ _) (.tmp 6) (.tmp 222) rfl (by simp[Act.eval,Act.put]) (by simp[Act.eval,Act.put]) ?_
  have DS:=Lib.hid (DF.out.s.otherRow (g:=g+1+1+1) (by omega) (cst (mT A9 z2)))
  have DO:=Lib.hid (DF.out.o.store (cst (mT A9 z2)))
  have DE:=Lib.hid (DF.out.f.otherRow (g:=g+1+1+1) (by omega) (cst (mT A9 z2)))
  have E10:=Lib.hid (E9.out.otherRow (g:=g+1+1+1) (by have:=HG.out;omega) (cst (mT A9 z2)))
  have B10:=Lib.hid (lU DF.out.low (show w.heap.size≤g+1+1+1 by have:=AT.out;omega) (cst (mT A9 z2)))
  have R10:=Lib.hid (RR.out.past R9.out F.out (show w.heap.size≤g+1+1+1 by have:=AT.out;omega) (by have:=GC.out;omega) (yA.st DF.out.o) (w2:=World.setRow wd (g+1+1+1) (cst (mT A9 z2))) (by simp[World.setRow]) (fun k hk=>setRow_other _ _ _ _ hk))
  refine hK _ _ ⟨DS.out,E10.out⟩ ?_
  clear hK K7 R9 DF E9
  simp only[Act.put,List.setIfInBounds_toArray,List.set_cons_zero,List.set_cons_succ]
  generalize World.setRow _ _ _=wm at DS DO DE E10 B10 R10⊢
  refine nD (by simp only[lA,List.getElem?_toArray,List.getElem?_cons_succ,List.getElem?_cons_zero];rfl) (by simp only[lA,List.getElem?_toArray,List.getElem?_cons_succ,List.getElem?_cons_zero];rfl) ?_
  refine wpQuiet_nil ?_
  refine nK (by rfl) ?_
  intro K7 hK
  refine nH (ds:=efc f9) sT DE.out rfl rfl (yT _) (.tmp 7) (.tmp 223) rfl (by simp[Act.eval,Act.put]) (by simp[Act.eval,Act.put]) ?_
  have DS:=Lib.hid (DS.out.otherRow (g:=g+1+1+1+1) (by omega) (efc f9))
  have DO:=Lib.hid (DO.out.otherRow (g:=g+1+1+1+1) (by omega) (efc f9))
  have DE2:=Lib.hid (DE.out.store (efc f9))
  have E11:=Lib.hid (E10.out.otherRow (g:=g+1+1+1+1) (by have:=HG.out;omega) (efc f9))
  have B11:=Lib.hid (lU B10.out (show w.heap.size≤g+1+1+1+1 by have:=AT.out;omega) (efc f9))
  have R11:=Lib.hid (RR.out.past R10.out F.out (show w.heap.size≤g+1+1+1+1 by have:=AT.out;omega) (GC.out) (yA.ef DE.out) (w2:=World.setRow wm (g+1+1+1+1) (efc f9)) (by simp[World.setRow]) (fun k hk=>setRow_other _ _ _ _ hk))
  refine hK _ _ ⟨DS.out,E11.out⟩ ?_
  clear hK K7 R10 DE E10 DS E11 B10
  simp only[Act.put,List.setIfInBounds_toArray,List.set_cons_zero,List.set_cons_succ]
  generalize World.setRow _ _ _=wz at DO DE2 B11 R11⊢
  refine cT (by simp only[lA,List.getElem?_toArray,List.getElem?_cons_succ,List.getElem?_cons_zero];rfl) ?_
  refine wpQuiet_nil ?_
  go_wp2_with fail
  iterate 4 (try go_step)
  exact bodyPost_ret (wS rfl _ _ (g+1+1+1) (g+1+1+1+1) _ _ _ _ _ _ rfl rfl DO.out DE2.out mM (lC _) sT rfl) rfl (YR.mk ST.out.symm EE.out.symm z2 rfl R11.out B11.out (F.out.low (by have h1:=GC.out;have h2:=AT.out;omega)))
end
end Go.Proofs.YtcjldabaekbdlaaGreatDoor
