/- CpuLevelsW. -/
import Derived.Test.YtcjldabaekbdlaaGreatDoorMk10a
set_option maxRecDepth 400000
set_option maxHeartbeats 64000000
set_option linter.unusedVariables false
set_option linter.unusedSimpArgs false
namespace Go.Proofs.YtcjldabaekbdlaaGreatDoor
section
open Go.RowKit Num Dec Cpu
theorem zWK(N:Nat)(hN:N=8192)(C:gS N)(u:US)(R L:List Int)(S:List Nat)(ks:List Ev)(FL:List Int)(x0 x1 x2 x3:Nat)(q:Pr)(k:Nat)(w:World)(H:UW w u R L S ks FL)(h0:x0<256)(h1:x1<256)(h2:x2<256)(h3:x3<256)(hL:uO w)(hk:k<256):
  Calls Tryz.prog 5 #[.agg (usc u),.agg (bc4 x0 x1 x2 x3),.agg (prc q),.int .u8 (k:Int)] w fun e w'=>e=.returned (.bool true)∧Below w.heap.size w w':=by
 have CC:=zW C;have NN:=zW hN;have UU:=zW H;have LL:=zW hL;have HX:=zW (zY h0 (zY h1 (zY h2 h3)));have AW:=zW (fun w h=>oL N hN C w h);obtain⟨r,hr⟩:∃r,decide (uok u)=r:=⟨_,rfl⟩;obtain⟨z,hz⟩:∃z,decide (1≤q.lv∧q.lv≤3)=z:=⟨_,rfl⟩;have RT:=zW (fun w=>hr▸rG u w);have VA:=zW (fun w=>hz▸iR q w);have HR:=zW hr;have HZ:=zW hz;have KK:=zW hk;clear hk C hN H hL h0 h1 h2 h3 hr hz;obtain⟨B,hB⟩:∃B,bc4 x0 x1 x2 x3=B:=⟨_,rfl⟩;obtain⟨P,hP⟩:∃P,prc q=P:=⟨_,rfl⟩;have sB:B.size=4:=by rw[←hB];rfl
 have sP:P.size=8:=by rw[←hP];rfl
 rw[hP]at VA;rw[hB,hP];have EB:=zW hB;have EP:=zW hP;clear hB hP;go_enter Tryz.func5,Tryz.ntmps5;go_upto_region 0 with fail;refine zN ?_;refine mZ rfl _ (.tmp 0) rfl (usc u) rfl ?_;simp only[Act.put,zQ,zZ,zJ];obtain⟨g0,hg0⟩:∃g,w.heap.size=g:=⟨_,rfl⟩;have K1:=zW (Blk.new w 28 (usc u));have b1:=mJ w (.cells (usc u) 28);rw[hg0]at K1⊢;have G1:=zW hg0;clear hg0;generalize World.alloc w _=w1 at K1 b1⊢;refine mZ rfl _ (.tmp 1) rfl (B) rfl ?_;simp only[Act.put,zQ,zZ,zJ];obtain⟨c0,hc0⟩:∃g,w1.heap.size=g:=⟨_,rfl⟩;have K2:=zW (Blk.new w1 29 (B));have b2:=mJ w1 (.cells (B) 29);rw[hc0]at K2⊢;have G2:=zW hc0;clear hc0;generalize World.alloc w1 _=w2 at K2 b2⊢;refine mZ rfl _ (.tmp 2) rfl (P) rfl ?_;simp only[Act.put,zQ,zZ,zJ];obtain⟨q0,hq0⟩:∃g,w2.heap.size=g:=⟨_,rfl⟩;have K3:=zW (Blk.new w2 31 (P));have b3:=mJ w2 (.cells (P) 31);rw[hq0]at K3⊢;have G3:=zW hq0;clear hq0;generalize World.alloc w2 _=w3 at K3 b3⊢;have X:=zW (show L19 g0 c0 q0 u B P w w3 from⟨(K1.out.step b2).step b3,K2.out.step b3,K3.out,(b1.trans (b2.mono b1.size)).trans (b3.mono (zD b1.size b2.size)),jT G1.out,G2.out▸b1.size,G3.out▸zD b1.size b2.size⟩);clear b1 b2 b3 K1 K2 K3 G1 G2 G3;go_upto_region 1 with fail;have LC:=zW (fun x:mH w3=>LL.out.step (X.out.low.trans (x.below.mono X.out.low.size)));have CU:=zW (mR X.out.u);have CQ:=zW (mR X.out.q);cases r<;>cases z
 rotate_left 3
 all_goals
  refine bP ?_
  repeat(first
   |(refine l9 yL CU.out (n8 u) ?_ (.tmp 4) ?_ ?_ ?_;(focus rfl);(focus rfl);(focus(simp[Act.eval];done));simp only[Act.put,zQ,zZ,zJ])
   |(refine l9 vI CQ.out sP ?_ (.tmp 6) ?_ ?_ ?_;(focus rfl);(focus rfl);(focus(simp[Act.eval];done));simp only[Act.put,zQ,zZ,zJ])
   |go_big_quiet_step ((first|(go_at_call 13;exact nM (AW.out _ (LC.out _)))|(go_at_call 14;exact nM (RT.out _))|(go_at_call 15;exact nM (VA.out _)))))
  refine zM ?_
  intro _ hw'
  obtain⟨x,rfl⟩:=hw'
  have b1:=x.below
  generalize x.w=w4 at*
  have X:=zW (X.out.step b1)
  clear b1 LC CU CQ
 rotate_left 1
 all_goals try
  clear HR HZ RT VA
  go_wp2_with fail
  refine(AW.out _ (LL.out.step X.out.low)).mono ?_
  rintro e w5 ⟨rfl,b1⟩
  have X:=zW (X.out.step b1)
  clear b1
  go_wp2
  go_ret
  exact⟨rfl,X.out.low⟩
 have UO:=zW (UU.out.ur (qZ HR.out));have OB:=zW (UU.out.okB (qZ HR.out));have HQ:=zW (qZ HZ.out);have VU:=zW (fun w' (h:Below w.heap.size w w')=>UO.out.step h);clear HR HZ RT VA AW UU;have OF:=zW (fun w' (h:Below w.heap.size w w')=>fL N NN.out u R L S ks FL w' (VU.out w' h));have BD:=zW (fun w' (h:Below w.heap.size w w')=>tO N NN.out CC.out u R L S ks FL w' (VU.out w' h) (LL.out.step h));have RI:=zW (fun base lg b m g v w' (h:Below w.heap.size w w') hC=>tC N NN.out u R L S ks FL base lg b m g v w' (VU.out w' h) hC OB.out.o);have PU:=zW (show(ofA u R L S ks FL).pc=(u.pc:Int)from rfl);have RD:=zW (show(ofA u R L S ks FL).rd=0 from rfl);generalize ofA u R L S ks FL=a at*;have SP:=zW (show cL P from by rw[←EP.out];unfold cL prc;simp[Value.oneCell']);have SG:=zW (zY X.out.u.lt (zY X.out.b.lt X.out.q.lt));go_upto_region 3 with fail;refine zN ?_;refine mL vI X.out.q sP rfl (.tmp 6) rfl rfl ?_;simp only[Act.put,zQ,zZ,zJ];refine nY (ds:=P) vI zXS rfl sP SP.out rfl rfl rfl (.tmp 9) (.tmp 32) rfl zBL zBL ?_;simp only[Act.put,zQ,zZ,zJ];have K9:=zW (Blk.new w4 31 P);have BA:=mJ w4 (.cells P 31);have LQ:=zW X.out.low.size;have X:=zW (X.out.step BA);clear BA;obtain⟨q9,hq9⟩:∃q,w4.heap.size=q:=⟨_,rfl⟩;rw[hq9]at K9 SG LQ⊢;generalize World.alloc _ _=w5 at*;clear hq9;obtain⟨r,hr⟩:∃r:Nat,k%3=r:=⟨_,rfl⟩;have i1:IntKind.i64.wrap (k:Int)=(k:Int):=xM (by have:=KK.out;omega);have i2:Int.tmod (k:Int) 3=(r:Int):=by rw[qT zBY];omega
 obtain⟨l,hl⟩:∃l:Int,1+(r:Int)=l:=⟨_,rfl⟩;have i3:IntKind.i64.wrap (1+(r:Int))=l:=by rw[zU];omega
 have HL:=zW (show 1≤l∧l≤3 by omega);have q90:w5.cell? ⟨q9,0,none⟩=some (.int .i64 q.lv):=(K9.out.cell 0).trans (by rw[←EP.out];rfl);have f90:=K9.out.frozen 0;clear hr hl;go_upto_region 5 with fail;have X:=zW (X.out.set (o:=0) (x:=.int .i64 l) (Nat.ne_of_lt SG.out.1) (Nat.ne_of_lt SG.out.2.1) (Nat.ne_of_lt SG.out.2.2) LQ.out);have K9:=zW ((K9.out.put 0 (.int .i64 l)).eq (show P.setIfInBounds 0 (.int .i64 l)=prc (lvP q l)from by rw[←EP.out];rfl));obtain⟨P2,hP2⟩:∃P,prc (lvP q l)=P:=⟨_,rfl⟩;rw[hP2]at K9;have sP2:P2.size=8:=by rw[←hP2];rfl
 have EP2:=zW hP2;clear q90 f90 i1 i2 i3 hP2;generalize World.setCell _ _ _=w6 at*;have d0:w6.cell? ⟨c0,0,none⟩=some (.int .u8 (x0:Int)):=(X.out.b.cell 0).trans (by rw[←EB.out];rfl);have d1:w6.cell? ⟨c0,1,none⟩=some (.int .u8 (x1:Int)):=(X.out.b.cell 1).trans (by rw[←EB.out];rfl);have d2:w6.cell? ⟨c0,2,none⟩=some (.int .u8 (x2:Int)):=(X.out.b.cell 2).trans (by rw[←EB.out];rfl);have d3:w6.cell? ⟨c0,3,none⟩=some (.int .u8 (x3:Int)):=(X.out.b.cell 3).trans (by rw[←EB.out];rfl);go_wp2_with fail;refine(QM x0 x1 x2 x3 1 w6 HX.out.1 HX.out.2.1 HX.out.2.2.1 HX.out.2.2.2).mono ?_;rintro e w7 ⟨rfl,b7⟩;have X:=zW (X.out.step b7);have K9:=zW (K9.out.step b7);clear b7 d0 d1 d2 d3;obtain⟨op,x,y,n,nn,addr,len,hi,r1,r2,r3,r4,r5,r6,r7⟩:=bC.nat (i:=dec x0 x1 x2 x3 1) ⟨x0,x1,x2,x3,HX.out.1,HX.out.2.1,HX.out.2.2.1,HX.out.2.2.2,rfl⟩ zBH;have DD:=zW (show bC ⟨op,x,y,n,nn,addr,len⟩ 1 from hi▸⟨x0,x1,x2,x3,HX.out.1,HX.out.2.1,HX.out.2.2.1,HX.out.2.2.2,rfl⟩);have RR:=zW (zY r1 (zY r2 (zY r3 (zY r4 (zY r5 (zY r6 r7))))));rw[hi];clear hi r1 r2 r3 r4 r5 r6 r7;have IC0:=zW (show(lI ⟨op,(x:Int),(y:Int),(n:Int),(nn:Int),addr,len⟩)[0]?=some (.int .i64 op)from rfl);have IS:=zW (show(lI ⟨op,(x:Int),(y:Int),(n:Int),(nn:Int),addr,len⟩).size=7 from rfl);have IO:=zW (show cL (lI ⟨op,(x:Int),(y:Int),(n:Int),(nn:Int),addr,len⟩)from zR2);obtain⟨I,hI⟩:∃I,lI ⟨op,(x:Int),(y:Int),(n:Int),(nn:Int),addr,len⟩=I:=⟨_,rfl⟩;rw[hI]at IC0 IS IO⊢;have EI:=zW hI;clear hI;simp only[];go_at_K
 iterate 1 go_step
 refine nY (ds:=I) mN iH rfl IS.out IO.out rfl rfl rfl (.tmp 10) (.tmp 46) rfl zBL zBL ?_;simp only[Act.put,zQ,zZ,zJ];have K10:=zW (Blk.new w7 47 (I));have BA:=mJ w7 (.cells (I) 47);have X:=zW (X.out.step BA);have K9:=zW (K9.out.step BA);clear BA;obtain⟨i10,hi10⟩:∃q,w7.heap.size=q:=⟨_,rfl⟩;rw[hi10]at K10⊢;generalize World.alloc _ _=w8 at*;clear hi10;go_upto_region 6 with fail;refine zN ?_;repeat(first|(refine mL yL X.out.u (n8 _) rfl (.tmp 4) rfl rfl ?_;simp only[Act.put,zQ,zZ,zJ])|go_step)
 refine(BD.out w8 X.out.low).mono ?_;rintro e w9 ⟨b,m,g,v,rfl,rc,b9⟩;have L8:=zW X.out.low.size;have LB:=zW (LL.out.step X.out.low);have X:=zW (X.out.step b9);have K9:=zW (K9.out.step b9);have K10:=zW (K10.out.step b9);have Y:=zW (show CpB 0 b m g v a w8 w9 from⟨rc,b9⟩);clear rc b9;go_upto_region 7 with fail;refine zN ?_;repeat(first|(refine mL yL X.out.u (n8 _) rfl (.tmp 4) rfl rfl ?_;simp only[Act.put,zQ,zZ,zJ])|go_step)
 refine(BD.out w9 X.out.low).mono ?_;rintro e w10 ⟨b2,m2,g2,v2,rfl,rc,bb⟩;have L89:=zW Y.out.low.size;have LC:=zW (LL.out.step X.out.low);have L9:=zW X.out.low.size;have DJ:=zW (fun j (h:yR b m g v j)=>(Y.out.rc.lt j h).2);have X:=zW (X.out.step bb);have K9:=zW (K9.out.step bb);have K10:=zW (K10.out.step bb);have Y:=zW (Y.out.step bb);have Z:=zW (show CpB 0 b2 m2 g2 v2 a w8 w10 from⟨⟨rc.st,rc.mem,(by obtain⟨n,xs,o,r⟩:=rc.log;exact⟨n,xs,cV o L89.out,r⟩),rc.rnd.mono L89.out,rc.res,zD L89.out rc.bb,zD L89.out rc.bm⟩,Y.out.low⟩);have DZ:=zW (fun j (h:yR b2 m2 g2 v2 j)=>(rc.lt j h).1);clear rc bb;go_upto_region 8 with fail;refine zN ?_;repeat(first|(refine mL yL X.out.u (n8 _) rfl (.tmp 4) rfl rfl ?_;simp only[Act.put,zQ,zZ,zJ])|go_step)
 refine(RI.out _ 0 b m g v w10 X.out.low Y.out.rc).mono ?_;rintro e w11 ⟨rfl,bb⟩;have X:=zW (X.out.step bb);have K9:=zW (K9.out.step bb);have K10:=zW (K10.out.step bb);have Y:=zW (Y.out.step bb);have Z:=zW (Z.out.step bb);clear bb;simp only[];go_at_K
 repeat(first|(refine mL yL X.out.u (n8 _) rfl (.tmp 4) rfl rfl ?_;simp only[Act.put,zQ,zZ,zJ])|go_step)
 refine(RI.out _ 0 b2 m2 g2 v2 w11 X.out.low Z.out.rc).mono ?_;rintro e w12 ⟨rfl,bb⟩;have X:=zW (X.out.step bb);have K9:=zW (K9.out.step bb);have K10:=zW (K10.out.step bb);have Y:=zW (Y.out.step bb);have Z:=zW (Z.out.step bb);clear bb;have k0:w12.cell? ⟨i10,0,none⟩=some (.int .i64 op):=(K10.out.cell 0).trans IC0.out;by_cases h0:op=0
 ·subst h0;have LX:=zW X.out.low;clear X K9 K10 Y Z CC OF BD RI OB UO VU;go_wp2;go_ret;exact⟨rfl,LX.out⟩
 go_upto_region 10 with fail;have h1:=zW h0;clear h0 k0;refine zN ?_;repeat(first|(refine mL yL X.out.u (n8 _) rfl (.tmp 4) rfl rfl ?_;simp only[Act.put,zQ,zZ,zJ])|go_step)
 refine(OF.out w12 X.out.low).mono ?_;rintro e w13 ⟨z0,rfl,rz,bb,nz⟩;have OY:=zW (LW nz UO.out fun k hk=>⟨zD L8.out (Y.out.rc.lt k hk).1,(Y.out.rc.lt k hk).2⟩);have OZ:=zW (LW nz UO.out fun k hk=>⟨zD L8.out (Z.out.rc.lt k hk).1,(Z.out.rc.lt k hk).2⟩);clear nz;have X:=zW (X.out.step bb);have K9:=zW (K9.out.step bb);have K10:=zW (K10.out.step bb);have Y:=zW (Y.out.step bb);have Z:=zW (Z.out.step bb);have RZ:=zW rz;clear bb rz;simp only[];go_at_K
 iterate 1 go_step
 refine nY (ds:=cst (mT a z0)) mM xI (lC _) (lC _) (nZ _) rfl rfl rfl (.tmp 13) (.tmp 70) rfl zBL zBL ?_;simp only[Act.put,zQ,zZ,zJ];have S13:=zW (Blk.new w13 43 (cst (mT a z0)));have BA:=mJ w13 (.cells (cst (mT a z0)) 43);have X:=zW (X.out.step BA);have K9:=zW (K9.out.step BA);have K10:=zW (K10.out.step BA);have Y:=zW (Y.out.step BA);have Z:=zW (Z.out.step BA);have RZ:=zW (RZ.out.step BA);clear BA;obtain⟨s13,hs13⟩:∃q,w13.heap.size=q:=⟨_,rfl⟩;rw[hs13]at S13⊢;generalize World.alloc _ _=w14 at*;clear hs13;obtain⟨ad,c,eM,rm⟩:=RZ.out.M;have HM:=zW OB.out.o.M;have p0:=OB.out.o.pc.1;have p1:=OB.out.o.pc.2;have u19:w14.cell? ⟨g0,19,none⟩=some (.int .u16 a.pc):=((X.out.u.cell 19).trans (bI u 1)).trans (by rw[PU.out];rfl);have m19:w14.cell? ⟨s13,19,none⟩=some (.slice (some ad) 65536 c):=(S13.out.cell 19).trans (by rw[show(cst (mT a z0))[19]?=some (.slice z0.M.A z0.M.n z0.M.c)from nW _ 3|>.trans rfl,eM]);obtain⟨j1,hj1⟩:∃j1:Nat,(a.pc+2)%65536=(j1:Int):=⟨((a.pc+2)%65536).toNat,by omega⟩;obtain⟨j2,hj2⟩:∃j2:Nat,(a.pc+3)%65536=(j2:Int):=⟨((a.pc+3)%65536).toNat,by omega⟩;have g1:j1<a.M.length:=by rw[HM.out];omega
 have g2:j2<a.M.length:=by rw[HM.out];omega
 have e1:=rm.2 j1 g1;have e2:=rm.2 j2 g2;have y1:byC a.M ((a.pc+2)%65536) 0=(a.M[j1]).toNat:=by
  unfold byC;rw[show(((a.pc+2)%65536+((0:Nat):Int))%65536).toNat=j1 by omega,qJ,zP g1];rfl
 have y2:byC a.M ((a.pc+2)%65536) 1=(a.M[j2]).toNat:=by
  unfold byC;rw[show(((a.pc+2)%65536+((1:Nat):Int))%65536).toNat=j2 by omega,qJ,zP g2];rfl
 have b1:=OB.out.o.B j1 g1;have b2':=OB.out.o.B j2 g2;have Y1:=zW y1;have Y2:=zW y2;clear y1 y2;obtain⟨m1,hm1⟩:∃m,a.M[j1]=m:=⟨_,rfl⟩;obtain⟨m2',hm2⟩:∃m,a.M[j2]=m:=⟨_,rfl⟩;rw[hm1]at e1 b1 Y1;rw[hm2]at e2 b2' Y2;obtain⟨p,hp⟩:∃p,a.pc=p:=⟨_,rfl⟩;have HP:=zW hp;rw[hp]at u19 p0 p1 hj1 hj2;have w1:IntKind.i64.wrap p=p:=by rw[zU];omega
 obtain⟨P2',hP2⟩:∃D0,p+2=D0:=⟨_,rfl⟩;have w2:IntKind.i64.wrap (p+2)=P2':=by rw[zU];omega
 have w3:Int.tmod P2' 65536=(j1:Int):=by rw[qT zBY];omega
 obtain⟨P3,hP3⟩:∃D0,P2'+1=D0:=⟨_,rfl⟩;have w4':IntKind.i64.wrap (P2'+1)=P3:=by rw[zU];omega
 have w5':Int.tmod P3 65536=(j2:Int):=by rw[qT zBY];omega
 obtain⟨NM,hNM⟩:∃n:Nat,65536=n:=⟨_,rfl⟩;rw[hNM]at m19;have l1:(j1:Int)<(NM:Int):=zBY;have l2:(j2:Int)<(NM:Int):=zBY;have l3:(0:Int)≤(j1:Int):=zBY;have l4:(0:Int)≤(j2:Int):=zBY;clear eM hNM;clear g1 g2 hm1 hm2 hp hj1 hj2 hP2 hP3 p0 p1;by_cases hF:m1=240∧m2'=0
 ·obtain⟨rfl,rfl⟩:=hF;have LX:=zW X.out.low;clear X K9 K10 Y Z CC OF BD RI OB UO VU S13 RZ;go_wp2;go_ret;exact⟨rfl,LX.out⟩
 have h48:=lv_one DD.out h1.out;have SE:=zW (stA_lv N a op x y n nn addr len q l (zQE DD.out zBH ⟨h48,h1.out⟩) (by rw[Y1.out,Y2.out];omega));have hq1:=DD.out.up zBH HQ.out h1.out;have hq2:=DD.out.up zBH HL.out h1.out;have EX:=zW (fun b m g v w0' w' (h:CpB 0 b m g v a w0' w') (hl:uO w0')=>h.exec CC.out hl OB.out zBH op x y n nn addr len q hq1 RR.out.1 RR.out.2.1 RR.out.2.2.1 RR.out.2.2.2.1 RR.out.2.2.2.2.1 RR.out.2.2.2.2.2.1 RR.out.2.2.2.2.2.2 HQ.out);have EY:=zW (fun b m g v w0' w' (h:CpB 0 b m g v a w0' w') (hl:uO w0')=>h.exec CC.out hl OB.out zBH op x y n nn addr len (lvP q l) hq2 RR.out.1 RR.out.2.1 RR.out.2.2.1 RR.out.2.2.2.1 RR.out.2.2.2.2.1 RR.out.2.2.2.2.2.1 RR.out.2.2.2.2.2.2 HL.out);have RX:=zW (fun z w' (h:RS N w' z a)=>dO N NN.out a z op x y n nn addr len q w' h OB.out.o RR.out.2.1 RR.out.2.2.1 RR.out.2.2.2.1 RR.out.2.2.2.2.1 RR.out.2.2.2.2.2.1 RR.out.2.2.2.2.2.2);have OB2:=zW (ZY N OB.out (show a.rd<1000000000 by rw[RD.out];decide) op x y n nn addr len q RR.out.2.1 RR.out.2.2.1 RR.out.2.2.2.1 RR.out.2.2.2.2.1 RR.out.2.2.2.2.2.1);rw[efA_lv,SE.out,EI.out,EP2.out]at EY;rw[EI.out,EP.out]at EX RX;clear SE h48 hq1 hq2 Y1 Y2 DD RR HP OF BD RI IC0 h1 SP;generalize stA N a op x y n nn addr len q=a2 at*;generalize efA a op x y n q=ef at*;have hn:m1≠240∨(m1=240∧m2'≠0):=zBY;clear hF b1 b2';rcases hn with n1|⟨rfl,n2⟩
 all_goals
  go_upto_region 14 with fail
  clear u19 m19 e1 e2 w1 w2 w3 w4' w5' l1 l2 l3 l4
  refine zN ?_
  repeat(first|(refine mL mN K10.out IS.out rfl (.tmp 10) rfl rfl ?_;simp only[Act.put,zQ,zZ,zJ])|(refine mL vI X.out.q sP rfl (.tmp 6) rfl rfl ?_;simp only[Act.put,zQ,zZ,zJ])|go_step)
  refine(EX.out b m g v w8 w14 Y.out LB.out).mono ?_
  rintro e w15 ⟨rfl,v1,yy,kk,hv⟩
  have DV:=zW (show∀j,yR b m g v1 j→¬yR b2 m2 g2 v2 j from fun j hj c=>by
   have hz:=DZ.out j c;have old:yR b m g v j→False:=fun h=>by have:=DJ.out j h;omega
   rcases hj with e|e|e|e
   ·exact old (.inl e)
   ·exact old (.inr (.inl e))
   ·exact old (.inr (.inr (.inl e)))
   ·rcases hv with e1|⟨k',e1,hk⟩
    ·exact old (.inr (.inr (.inr (e1▸e))))
    ·rw[e1]at e;cases e
     have:=(Z.out.rc.lt _ c).2
     omega)
  have X:=zW (X.out.kept Y.out L8.out kk)
  have K9:=zW (Y.out.blk K9.out ⟨by decide,by decide,by decide,by decide⟩ kk)
  have K10:=zW (Y.out.blk K10.out ⟨by decide,by decide,by decide,by decide⟩ kk)
  have S13:=zW (Y.out.blk S13.out ⟨by decide,by decide,by decide,by decide⟩ kk)
  have RZ:=zW (Y.out.rc.ref RZ.out OY.out kk)
  have Z:=zW (Y.out.other Z.out kk (fun j hj c=>by have h1:=DJ.out j c;have h2:=DZ.out j hj;omega) (zH _))
  have Y:=zW yy
  clear kk yy hv
  simp only[]
  go_at_K
  iterate 1 go_step
  refine nY (ds:=efc ef) fJ gH rfl rfl (yT ef) rfl rfl rfl (.tmp 15) (.tmp 95) rfl zBL zBL ?_
  simp only[Act.put,zQ,zZ,zJ]
  have E15:=zW (Blk.new w15 51 (efc ef))
  have BA:=mJ w15 (.cells (efc ef) 51)
  have X:=zW (X.out.step BA)
  have Y:=zW (Y.out.step BA)
  have Z:=zW (Z.out.step BA)
  have K9:=zW (K9.out.step BA)
  have K10:=zW (K10.out.step BA)
  have S13:=zW (S13.out.step BA)
  have RZ:=zW (RZ.out.step BA)
  clear BA
  obtain⟨e15,he15⟩:∃q,w15.heap.size=q:=⟨_,rfl⟩
  rw[he15]at E15⊢
  generalize World.alloc _ _=w16 at*
  clear he15
  go_upto_region 15 with fail
  refine zN ?_
  repeat(first|(refine mL mN K10.out IS.out rfl (.tmp 10) rfl rfl ?_;simp only[Act.put,zQ,zZ,zJ])|(refine mL vI K9.out sP2 rfl (.tmp 9) rfl rfl ?_;simp only[Act.put,zQ,zZ,zJ])|go_step)
  refine(EY.out b2 m2 g2 v2 w8 w16 Z.out LB.out).mono ?_
  rintro e w17 ⟨rfl,v3,yy,kk,_⟩
  have X:=zW (X.out.kept Z.out L8.out kk)
  have K10:=zW (Z.out.blk K10.out ⟨by decide,by decide,by decide,by decide⟩ kk)
  have S13:=zW (Z.out.blk S13.out ⟨by decide,by decide,by decide,by decide⟩ kk)
  have E15:=zW (Z.out.blk E15.out ⟨by decide,by decide,by decide,by decide⟩ kk)
  have RZ:=zW (Z.out.rc.ref RZ.out OZ.out kk)
  have Y:=zW (Z.out.other Y.out kk DV.out (zH _))
  have Z:=zW yy
  clear kk yy K9 DV
  simp only[]
  go_at_K
  iterate 1 go_step
  refine nY (ds:=efc ef) fJ gH rfl rfl (yT ef) rfl rfl rfl (.tmp 16) (.tmp 99) rfl zBL zBL ?_
  simp only[Act.put,zQ,zZ,zJ]
  have E16:=zW (Blk.new w17 51 (efc ef))
  have BA:=mJ w17 (.cells (efc ef) 51)
  have X:=zW (X.out.step BA)
  have Y:=zW (Y.out.step BA)
  have Z:=zW (Z.out.step BA)
  have K10:=zW (K10.out.step BA)
  have S13:=zW (S13.out.step BA)
  have RZ:=zW (RZ.out.step BA)
  have E15:=zW (E15.out.step BA)
  clear BA
  obtain⟨e16,he16⟩:∃q,w17.heap.size=q:=⟨_,rfl⟩
  rw[he16]at E16⊢
  generalize World.alloc _ _=w18 at*
  clear he16
  go_upto_region 16 with fail
  refine zN ?_
  repeat(first|(refine mL mM S13.out (lC _) rfl (.tmp 13) rfl rfl ?_;simp only[Act.put,zQ,zZ,zJ])|(refine mL mN K10.out IS.out rfl (.tmp 10) rfl rfl ?_;simp only[Act.put,zQ,zZ,zJ])|(refine mL vI X.out.q sP rfl (.tmp 6) rfl rfl ?_;simp only[Act.put,zQ,zZ,zJ])|go_step)
  refine(RX.out z0 w18 RZ.out).mono ?_
  rintro e w19 ⟨z1,rfl,rz,bb,_⟩
  have X:=zW (X.out.step bb)
  have Y:=zW (Y.out.step bb)
  have Z:=zW (Z.out.step bb)
  have E15:=zW (E15.out.step bb)
  have E16:=zW (E16.out.step bb)
  have RZ:=zW rz
  clear bb rz S13 K10 OY OZ
  simp only[]
  go_at_K
  iterate 10 go_step
  refine qL rfl fun K hK=>nF xI rfl (hK _ _ ?_)
  clear hK K
  simp only[Act.put,zQ,zZ,zJ]
  have S17:=zW (Blk.new w19 43 (cst vP))
  have BA:=mJ w19 (.cells (cst vP) 43)
  have Os17:=zW (RZ.out.low.sub (O':=fun k=>k=w19.heap.size) fun k hk=>jT (show k=w19.heap.size from hk).symm)
  have HXs17:=zW X.out.low.size
  have HYs17:=zW Y.out.low.size
  have X:=zW (X.out.step BA)
  have Y:=zW (Y.out.step BA)
  have Z:=zW (Z.out.step BA)
  have E15:=zW (E15.out.step BA)
  have E16:=zW (E16.out.step BA)
  have RZ:=zW (RZ.out.step BA)
  clear BA
  obtain⟨s17,hs17⟩:∃q,w19.heap.size=q:=⟨_,rfl⟩
  rw[hs17]at S17 Os17 HXs17 HYs17⊢
  generalize World.alloc _ _=w20 at*
  clear hs17
  refine qL rfl fun K hK=>nF oS rfl (hK _ _ ?_)
  clear hK K
  simp only[Act.put,zQ,zZ,zJ]
  have F18:=zW (Blk.new w20 54 (efc ⟨0,false,false,false⟩))
  have BA:=mJ w20 (.cells (efc ⟨0,false,false,false⟩) 54)
  have Of18:=zW (RZ.out.low.sub (O':=fun k=>k=w20.heap.size) fun k hk=>jT (show k=w20.heap.size from hk).symm)
  have HXf18:=zW X.out.low.size
  have HYf18:=zW Y.out.low.size
  have X:=zW (X.out.step BA)
  have Y:=zW (Y.out.step BA)
  have Z:=zW (Z.out.step BA)
  have E15:=zW (E15.out.step BA)
  have E16:=zW (E16.out.step BA)
  have RZ:=zW (RZ.out.step BA)
  have S17:=zW (S17.out.step BA)
  clear BA
  obtain⟨f18,hf18⟩:∃q,w20.heap.size=q:=⟨_,rfl⟩
  rw[hf18]at F18 Of18 HXf18 HYf18⊢
  generalize World.alloc _ _=w21 at*
  clear hf18
  refine lE (ds:=cst (mT a2 z1)) mM S17.out (lC _) (lC _) (nZ _) rfl (.tmp 17) (.tmp 105) rfl zBL zBL ?_
  simp only[Act.put,zQ,zZ,zJ]
  have X:=zW (X.out.away (ds:=cst (mT a2 z1)) S17.out ⟨by decide,by decide,by decide⟩ HXs17.out)
  have Y:=zW (Y.out.away (ds:=cst (mT a2 z1)) S17.out ⟨by decide,by decide,by decide,by decide,by decide⟩ HYs17.out)
  have Z:=zW (Z.out.away (ds:=cst (mT a2 z1)) S17.out ⟨by decide,by decide,by decide,by decide,by decide⟩ HYs17.out)
  have RZ:=zW (RZ.out.st (ds:=cst (mT a2 z1)) Os17.out S17.out)
  have E15:=zW (E15.out.otherRow (xY E15.out S17.out zBH) (cst (mT a2 z1)))
  have E16:=zW (E16.out.otherRow (xY E16.out S17.out zBH) (cst (mT a2 z1)))
  have F18:=zW (F18.out.otherRow (xY F18.out S17.out zBH) (cst (mT a2 z1)))
  have S17:=zW (S17.out.store (cst (mT a2 z1)))
  generalize World.setRow _ _ _=w22 at*
  refine lE (ds:=efc ef) sT F18.out rfl rfl (yT ef) rfl (.tmp 18) (.tmp 106) rfl zBL zBL ?_
  simp only[Act.put,zQ,zZ,zJ]
  have X:=zW (X.out.away (ds:=efc ef) F18.out ⟨by decide,by decide,by decide⟩ HXf18.out)
  have Y:=zW (Y.out.away (ds:=efc ef) F18.out ⟨by decide,by decide,by decide,by decide,by decide⟩ HYf18.out)
  have Z:=zW (Z.out.away (ds:=efc ef) F18.out ⟨by decide,by decide,by decide,by decide,by decide⟩ HYf18.out)
  have RZ:=zW (RZ.out.ef (ds:=efc ef) Of18.out F18.out)
  have E15:=zW (E15.out.otherRow (xY E15.out F18.out zBH) (efc ef))
  have E16:=zW (E16.out.otherRow (xY E16.out F18.out zBH) (efc ef))
  have S17:=zW (S17.out.otherRow (xY S17.out F18.out zBH) (efc ef))
  have F18:=zW (F18.out.store (efc ef))
  generalize World.setRow _ _ _=w23 at*
  go_upto_region 17 with fail
  obtain⟨ec,eh,ew,ed⟩:=ef
  have c15_0:w23.cell? ⟨e15,0,none⟩=some (.int .i64 ec):=(E15.out.cell 0).trans rfl
  have c15_1:w23.cell? ⟨e15,1,none⟩=some (.bool eh):=(E15.out.cell 1).trans rfl
  have c15_2:w23.cell? ⟨e15,2,none⟩=some (.bool ew):=(E15.out.cell 2).trans rfl
  have c15_3:w23.cell? ⟨e15,3,none⟩=some (.bool ed):=(E15.out.cell 3).trans rfl
  have c16_0:w23.cell? ⟨e16,0,none⟩=some (.int .i64 ec):=(E16.out.cell 0).trans rfl
  have c16_1:w23.cell? ⟨e16,1,none⟩=some (.bool eh):=(E16.out.cell 1).trans rfl
  have c16_2:w23.cell? ⟨e16,2,none⟩=some (.bool ew):=(E16.out.cell 2).trans rfl
  have c16_3:w23.cell? ⟨e16,3,none⟩=some (.bool ed):=(E16.out.cell 3).trans rfl
  refine zN ?_
  repeat(first|(refine mL mM S17.out (lC _) rfl (.tmp 17) rfl rfl ?_;simp only[Act.put,zQ,zZ,zJ])|go_step)
  refine(wT N NN.out a2 z1 _ b m g v1 w23 Y.out.rc.st Y.out.rc.mem Y.out.rc.rnd RZ.out OB2.out.o).mono ?_
  rintro e w24 ⟨rfl,bb⟩
  have X:=zW (X.out.step bb)
  have Z:=zW (Z.out.step bb)
  have RZ:=zW (RZ.out.step bb)
  have S17:=zW (S17.out.step bb)
  clear bb
  simp only[]
  go_at_K
  repeat(first|(refine mL mM S17.out (lC _) rfl (.tmp 17) rfl rfl ?_;simp only[Act.put,zQ,zZ,zJ])|go_step)
  refine(wT N NN.out a2 z1 _ b2 m2 g2 v3 w24 Z.out.rc.st Z.out.rc.mem Z.out.rc.rnd RZ.out OB2.out.o).mono ?_
  rintro e w25 ⟨rfl,bb⟩
  have X:=zW (X.out.step bb)
  clear bb
  go_wp2
  go_ret
  exact⟨rfl,X.out.low⟩
end
end Go.Proofs.YtcjldabaekbdlaaGreatDoor
