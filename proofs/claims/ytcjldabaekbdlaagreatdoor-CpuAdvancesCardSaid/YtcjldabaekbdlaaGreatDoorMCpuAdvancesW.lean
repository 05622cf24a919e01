/- CpuAdvancesW. -/
import Derived.Test.YtcjldabaekbdlaaGreatDoorMk10a
set_option maxRecDepth 400000
set_option maxHeartbeats 64000000
set_option linter.unusedVariables false
set_option linter.unusedSimpArgs false
namespace Go.Proofs.YtcjldabaekbdlaaGreatDoor
section
open Go.RowKit Num Dec Cpu
theorem U9(N:Nat)(hN:N=8192)(C:gS N)(u:US)(R L:List Int)(S:List Nat)(ks:List Ev)(FL:List Int)(x0 x1 x2 x3:Nat)(q:Pr)(w:World)(H:UW w u R L S ks FL)(h0:x0<256)(h1:x1<256)(h2:x2<256)(h3:x3<256)(hL:uO w):
  Calls Tryz.prog 7 #[.agg (usc u),.agg (bc4 x0 x1 x2 x3),.agg (prc q)] w fun e w'=>e=.returned (.bool true)∧Below w.heap.size w w':=by
 have CC:=zW C;have NN:=zW hN;have UU:=zW H;have LL:=zW hL;have HX:=zW (zY h0 (zY h1 (zY h2 h3)));have AW:=zW (fun w h=>oL N hN C w h);obtain⟨r,hr⟩:∃r,decide (uok u)=r:=⟨_,rfl⟩;obtain⟨z,hz⟩:∃z,decide (1≤q.lv∧q.lv≤3)=z:=⟨_,rfl⟩;have RT:=zW (fun w=>hr▸rG u w);have VA:=zW (fun w=>hz▸iR q w);have HR:=zW hr;have HZ:=zW hz;clear C hN H hL h0 h1 h2 h3 hr hz;obtain⟨B,hB⟩:∃B,bc4 x0 x1 x2 x3=B:=⟨_,rfl⟩;obtain⟨P,hP⟩:∃P,prc q=P:=⟨_,rfl⟩;have sB:B.size=4:=by rw[←hB];rfl
 have sP:P.size=8:=by rw[←hP];rfl
 rw[hP]at VA;rw[hB,hP];have EB:=zW hB;have EP:=zW hP;clear hB hP;go_enter Tryz.func7,Tryz.ntmps7;go_upto_region 0 with fail;refine zN ?_;refine mZ rfl _ (.tmp 0) rfl (usc u) rfl ?_;simp only[Act.put,zQ,zZ,zJ];obtain⟨g0,hg0⟩:∃g,w.heap.size=g:=⟨_,rfl⟩;have K1:=zW (Blk.new w 28 (usc u));have b1:=mJ w (.cells (usc u) 28);rw[hg0]at K1⊢;have G1:=zW hg0;clear hg0;generalize World.alloc w _=w1 at K1 b1⊢;refine mZ rfl _ (.tmp 1) rfl (B) rfl ?_;simp only[Act.put,zQ,zZ,zJ];obtain⟨c0,hc0⟩:∃g,w1.heap.size=g:=⟨_,rfl⟩;have K2:=zW (Blk.new w1 29 (B));have b2:=mJ w1 (.cells (B) 29);rw[hc0]at K2⊢;have G2:=zW hc0;clear hc0;generalize World.alloc w1 _=w2 at K2 b2⊢;refine mZ rfl _ (.tmp 2) rfl (P) rfl ?_;simp only[Act.put,zQ,zZ,zJ];obtain⟨q0,hq0⟩:∃g,w2.heap.size=g:=⟨_,rfl⟩;have K3:=zW (Blk.new w2 31 (P));have b3:=mJ w2 (.cells (P) 31);rw[hq0]at K3⊢;have G3:=zW hq0;clear hq0;generalize World.alloc w2 _=w3 at K3 b3⊢;have X:=zW (show L19 g0 c0 q0 u B P w w3 from⟨(K1.out.step b2).step b3,K2.out.step b3,K3.out,(b1.trans (b2.mono b1.size)).trans (b3.mono (zD b1.size b2.size)),jT G1.out,G2.out▸b1.size,G3.out▸zD b1.size b2.size⟩);clear b1 b2 b3 K1 K2 K3 G1 G2 G3;go_upto_region 1 with fail;have LC:=zW (fun x:mH w3=>LL.out.step (X.out.low.trans (x.below.mono X.out.low.size)));have CU:=zW (mR X.out.u);have CQ:=zW (mR X.out.q);cases r<;>cases z
 rotate_left 3
 all_goals
  refine bP ?_
  repeat(first
   |(refine l9 yL CU.out (n8 u) ?_ (.tmp 3) ?_ ?_ ?_;(focus rfl);(focus rfl);(focus(simp[Act.eval];done));simp only[Act.put,zQ,zZ,zJ])
   |(refine l9 vI CQ.out sP ?_ (.tmp 5) ?_ ?_ ?_;(focus rfl);(focus rfl);(focus(simp[Act.eval];done));simp only[Act.put,zQ,zZ,zJ])
   |go_big_quiet_step ((first|(go_at_call 13;exact nM (AW.out _ (LC.out _)))|(go_at_call 14;exact nM (RT.out _))|(go_at_call 15;exact nM (VA.out _)))))
  refine zM ?_
  intro _ hw'
  obtain⟨x,rfl⟩:=hw'
  have b1:=x.below
  generalize x.w=w4 at*
  have X:=zW (X.out.step b1)
  clear b1 LC CU CQ
 rotate_left 1
 all_goals try
  clear HR HZ RT VA
  go_wp2_with fail
  refine(AW.out _ (LL.out.step X.out.low)).mono ?_
  rintro e w5 ⟨rfl,b1⟩
  have X:=zW (X.out.step b1)
  clear b1
  go_wp2
  go_ret
  exact⟨rfl,X.out.low⟩
 have UO:=zW (UU.out.ur (qZ HR.out));have OB:=zW (UU.out.okB (qZ HR.out));have HQ:=zW (qZ HZ.out);have VU:=zW (fun w' (h:Below w.heap.size w w')=>UO.out.step h);clear HR HZ RT VA AW UU;have OF:=zW (fun w' (h:Below w.heap.size w w')=>fL N NN.out u R L S ks FL w' (VU.out w' h));have BD:=zW (fun w' (h:Below w.heap.size w w')=>tO N NN.out CC.out u R L S ks FL w' (VU.out w' h) (LL.out.step h));have RI:=zW (fun base lg b m g v w' (h:Below w.heap.size w w') hC=>tC N NN.out u R L S ks FL base lg b m g v w' (VU.out w' h) hC OB.out.o);have PU:=zW (show(ofA u R L S ks FL).pc=(u.pc:Int)from rfl);have RD:=zW (show(ofA u R L S ks FL).rd=0 from rfl);generalize ofA u R L S ks FL=a at*;go_upto_region 3 with fail;refine zN ?_;refine mL yL X.out.u (n8 _) rfl (.tmp 3) rfl rfl ?_;simp only[Act.put,zQ,zZ,zJ];go_wp2_with fail;refine(BD.out w4 X.out.low).mono ?_;rintro e w5 ⟨b,m,g,v,rfl,rc,b5⟩;have LE:=zW X.out.low.size;have LB:=zW (LL.out.step (X.out.low));have SZ:=zW (zY X.out.u.lt (zY X.out.b.lt X.out.q.lt));have X:=zW (X.out.step b5);have Y:=zW (show CpB 0 b m g v a w4 w5 from⟨rc,b5⟩);clear rc b5;go_upto_region 4 with fail;refine zN ?_;iterate 3 go_step
 refine mL yL X.out.u (n8 _) rfl (.tmp 3) rfl rfl ?_;simp only[Act.put,zQ,zZ,zJ];go_wp2_with fail;refine(RI.out _ 0 b m g v w5 X.out.low Y.out.rc).mono ?_;rintro e w6 ⟨rfl,b6⟩;have X:=zW (X.out.step b6);have Y:=zW (Y.out.step b6);clear b6;obtain⟨op,x,y,n,nn,addr,len,hi,r1,r2,r3,r4,r5,r6,r7⟩:=bC.nat (i:=dec x0 x1 x2 x3 q.lv) ⟨x0,x1,x2,x3,HX.out.1,HX.out.2.1,HX.out.2.2.1,HX.out.2.2.2,rfl⟩ HQ.out;have hd:bC ⟨op,x,y,n,nn,addr,len⟩ q.lv:=hi▸⟨x0,x1,x2,x3,HX.out.1,HX.out.2.1,HX.out.2.2.1,HX.out.2.2.2,rfl⟩;have EX:=zW (fun b m g lg v w0' w' (ho:lg≤900) (h:CpB lg b m g v a w0' w') (hl:uO w0')=>h.exec CC.out hl OB.out ho op x y n nn addr len q hd r1 r2 r3 r4 r5 r6 r7 HQ.out);have RX:=zW (fun z w' (h:RS N w' z a)=>dO N NN.out a z op x y n nn addr len q w' h OB.out.o r2 r3 r4 r5 r6 r7);have DE:=zW (fun w'=>tS x0 x1 x2 x3 q w' HX.out.1 HX.out.2.1 HX.out.2.2.1 HX.out.2.2.2);have OB2:=zW (ZY N OB.out (show a.rd<1000000000 by rw[RD.out];decide) op x y n nn addr len q r2 r3 r4 r5 r6);have FE:=zW (V5 N a op x y n nn addr len q);have AD:=zW (adv19 N a op x y n nn addr len q OB.out.o.pc OB.out.o.i.2 r7 (fun hs=>zQE hd HQ.out (by unfold aH at hs;omega)));have IC0:=zW (show(lI ⟨op,(x:Int),(y:Int),(n:Int),(nn:Int),addr,len⟩)[0]?=some (.int .i64 op)from rfl);have IC6:=zW (show(lI ⟨op,(x:Int),(y:Int),(n:Int),(nn:Int),addr,len⟩)[6]?=some (.int .i64 len)from rfl);have IS:=zW (show(lI ⟨op,(x:Int),(y:Int),(n:Int),(nn:Int),addr,len⟩).size=7 from rfl);have IO:=zW (show cL (lI ⟨op,(x:Int),(y:Int),(n:Int),(nn:Int),addr,len⟩)from zR2);have RL:=zW r7;rw[hi,show(Value.agg #[.int .u8 (x0:Int),.int .u8 (x1:Int),.int .u8 (x2:Int),.int .u8 (x3:Int)])=.agg B from by rw[←EB.out];rfl]at DE;rw[EP.out]at DE EX RX;generalize lI ⟨op,(x:Int),(y:Int),(n:Int),(nn:Int),addr,len⟩=I at DE EX RX IC0 IC6 IS IO⊢;generalize stA N a op x y n nn addr len q=a2 at*;generalize efA a op x y n q=ef at*;clear hi hd;go_upto_region 6 with fail;refine zN ?_;repeat(first|(refine mL aD X.out.b sB rfl (.tmp 4) rfl rfl ?_;simp only[Act.put,zQ,zZ,zJ])|(refine mL vI X.out.q sP rfl (.tmp 5) rfl rfl ?_;simp only[Act.put,zQ,zZ,zJ])|go_step)
 refine(DE.out w6).mono ?_
 rintro e w7 ⟨rfl,b7⟩;have X:=zW (X.out.step b7);have Y:=zW (Y.out.step b7);clear b7;simp only[];go_at_K
 iterate 1 go_step
 refine nY (ds:=I) mN iH rfl IS.out IO.out rfl rfl rfl (.tmp 8) (.tmp 32) rfl zBL zBL ?_;simp only[Act.put,zQ,zZ,zJ];have K8:=zW (Blk.new w7 47 (I));have BA:=mJ w7 (.cells (I) 47);have X:=zW (X.out.step BA);have Y:=zW (Y.out.step BA);clear BA;obtain⟨i8,hi8⟩:∃q,w7.heap.size=q:=⟨_,rfl⟩;rw[hi8]at K8⊢;generalize World.alloc _ _=w8 at*;clear hi8;go_upto_region 7 with fail;refine zN ?_;repeat(first|(refine mL mN K8.out IS.out rfl (.tmp 8) rfl rfl ?_;simp only[Act.put,zQ,zZ,zJ])|(refine mL vI X.out.q sP rfl (.tmp 5) rfl rfl ?_;simp only[Act.put,zQ,zZ,zJ])|go_step)
 refine(EX.out b m g 0 v w4 w8 zBH Y.out LB.out).mono ?_
 rintro e w9 ⟨rfl,v',yy,kk,_⟩;have X:=zW (X.out.kept Y.out LE.out kk);have K8:=zW (Y.out.blk K8.out ⟨by decide,by decide,by decide,by decide⟩ kk);have Y:=zW yy;clear kk yy;simp only[];go_at_K
 iterate 1 go_step
 refine nY (ds:=efc ef) fJ gH rfl rfl (yT ef) rfl rfl rfl (.tmp 9) (.tmp 36) rfl zBL zBL ?_;simp only[Act.put,zQ,zZ,zJ];have E9:=zW (Blk.new w9 51 (efc ef));have BA:=mJ w9 (.cells (efc ef) 51);have X:=zW (X.out.step BA);have Y:=zW (Y.out.step BA);have K8:=zW (K8.out.step BA);clear BA;obtain⟨e9,he9⟩:∃q,w9.heap.size=q:=⟨_,rfl⟩;rw[he9]at E9⊢;generalize World.alloc _ _=wx at*;clear he9;obtain⟨ec,eh,ew,ed⟩:=ef;have E9:=zW (show Blk e9 51 #[.int .i64 ec,.bool eh,.bool ew,.bool ed] wx from E9.out);have p0:=OB.out.o.pc.1;have p1:=OB.out.o.pc.2;have r0:=OB2.out.o.pc.1;have r1':=OB2.out.o.pc.2;have s17:wx.cell? ⟨b,17,none⟩=some (.int .i64 a2.pc):=(Y.out.rc.st.cell 17).trans (nJ _ m g zBY);have u19:wx.cell? ⟨g0,19,none⟩=some (.int .u16 a.pc):=((X.out.u.cell 19).trans (bI u 1)).trans (by rw[PU.out];rfl);have AD:=zW AD.out;obtain⟨p,hp⟩:∃p,a.pc=p:=⟨_,rfl⟩;obtain⟨p',hp'⟩:∃p,a2.pc=p:=⟨_,rfl⟩;rw[hp]at u19 p0 p1;rw[hp']at s17 r0 r1';rw[hp,hp']at AD;have k17:=mH.cell s17 Y.out.rc.st.lt;have k19:=mH.cell u19 X.out.u.lt;clear hp hp' s17 u19 CC OF BD RI EX RX DE OB OB2 FE UO VU;have w1:IntKind.i64.wrap p=p:=by rw[zU];omega
 obtain⟨D0,hD⟩:∃D0,p'-p=D0:=⟨_,rfl⟩;have w2:IntKind.i64.wrap (p'-p)=D0:=by rw[zU,←hD];omega
 obtain⟨D1,hE⟩:∃D1,D0+65536=D1:=⟨_,rfl⟩;have w3:IntKind.i64.wrap (D0+65536)=D1:=by rw[zU,←hE];omega
 obtain⟨D,hA⟩:∃D,adv p p'=D:=⟨_,rfl⟩;rw[hA]at AD;have z1:D0<0→D1=D:=fun h=>by rw[←hA,←hE];unfold adv;rw[hD,zG h]
 have z0:¬D0<0→D0=D:=fun h=>by rw[←hA];unfold adv;rw[hD,zL h]
 clear hD hE hA p0 p1 r0 r1';go_upto_region 8 with fail;refine m8 zBM zBM ?_;repeat(go_big_quiet_step (fail))
 refine zM ?_;intro _ hw';obtain⟨x',rfl⟩:=hw';have b1:=x'.below;generalize x'.w=wy at*;have LX:=zW (X.out.low.trans (b1.mono X.out.low.size));have X:=zW (X.out.step b1);have E9:=zW (E9.out.step b1);have K8:=zW (K8.out.step b1);have c_0:wy.cell? ⟨e9,0,none⟩=some (.int .i64 ec):=(E9.out.cell 0).trans rfl;have c_1:wy.cell? ⟨e9,1,none⟩=some (.bool eh):=(E9.out.cell 1).trans rfl;have c_2:wy.cell? ⟨e9,2,none⟩=some (.bool ew):=(E9.out.cell 2).trans rfl;have c_3:wy.cell? ⟨e9,3,none⟩=some (.bool ed):=(E9.out.cell 3).trans rfl;have i0:wy.cell? ⟨i8,0,none⟩=some (.int .i64 op):=(K8.out.cell 0).trans IC0.out;have i6:wy.cell? ⟨i8,6,none⟩=some (.int .i64 len):=(K8.out.cell 6).trans IC6.out;have q0':wy.cell? ⟨q0,0,none⟩=some (.int .i64 q.lv):=(X.out.q.cell 0).trans (by rw[←EP.out];rfl);clear X Y K8 E9 k17 k19 b1 w1 w2;go_upto_region 9 with fail;by_cases hd:D0<0
 ·have e:=z1 hd;clear z1 z0;exact zDJ
 ·have e:=z0 hd;clear z1 z0 w3;exact zDJ
end
end Go.Proofs.YtcjldabaekbdlaaGreatDoor
