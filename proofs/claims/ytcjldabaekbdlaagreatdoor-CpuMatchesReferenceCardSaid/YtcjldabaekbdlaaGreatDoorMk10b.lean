/- CpuMatchesW. -/
import Derived.Test.YtcjldabaekbdlaaGreatDoorMk10a
set_option maxRecDepth 400000
set_option maxHeartbeats 64000000
set_option linter.unusedVariables false
set_option linter.unusedSimpArgs false
namespace Go.Proofs.YtcjldabaekbdlaaGreatDoor
section
open Go.RowKit Num Dec Cpu
theorem zZ9(N:Nat)(hN:N=8192)(C:gS N)(u:US)(R L:List Int)(S:List Nat)(ks:List Ev)(FL:List Int)(X0:Nat→Nat→Nat)(q:Pr)(w:World)(H:UW w u R L S ks FL)(h0:∀i j,X0 i j<256)(hL:uO w):
  Calls Tryz.prog 3 #[.agg (usc u),.agg (bq X0 0),.agg (bq X0 1),.agg (bq X0 2),.agg (prc q)] w fun e w'=>e=.returned (.bool true)∧Below w.heap.size w w':=by
 have CC:=zW C;have NN:=zW hN;have UU:=zW H;have LL:=zW hL;have HX:=zW h0;have AW:=zW (fun w h=>oL N hN C w h);obtain⟨r,hr⟩:∃r,decide (uok u)=r:=⟨_,rfl⟩;obtain⟨z,hz⟩:∃z,decide (1≤q.lv∧q.lv≤3)=z:=⟨_,rfl⟩;have RT:=zW (fun w=>hr▸rG u w);have VA:=zW (fun w=>hz▸iR q w);have HR:=zW hr;have HZ:=zW hz;clear C hN H hL h0 hr hz;obtain⟨B,hB⟩:∃B,bq X0=B:=⟨_,rfl⟩;obtain⟨P,hP⟩:∃P,prc q=P:=⟨_,rfl⟩;have sB:∀i,(B i).size=4:=fun i=>by rw[←hB];rfl
 have sP:P.size=8:=by rw[←hP];rfl
 rw[hP]at VA;rw[hB,hP];have EB:=zW hB;have EP:=zW hP;clear hB hP;go_enter Tryz.func3,Tryz.ntmps3;go_upto_region 0 with fail;refine zN ?_;refine mZ rfl _ (.tmp 0) rfl (usc u) rfl ?_;simp only[Act.put,zQ,zZ,zJ];obtain⟨g0,hg0⟩:∃g,w.heap.size=g:=⟨_,rfl⟩;have K1:=zW (Blk.new w 28 (usc u));have b1:=mJ w (.cells (usc u) 28);rw[hg0]at K1⊢;have G1:=zW hg0;clear hg0;generalize World.alloc w _=wa at K1 b1⊢;refine mZ rfl _ (.tmp 1) rfl (B 0) rfl ?_;simp only[Act.put,zQ,zZ,zJ];obtain⟨c0,hc0⟩:∃g,wa.heap.size=g:=⟨_,rfl⟩;have K2:=zW (Blk.new wa 29 (B 0));have b2:=mJ wa (.cells (B 0) 29);rw[hc0]at K2⊢;have G2:=zW hc0;clear hc0;generalize World.alloc wa _=wb at K2 b2⊢;refine mZ rfl _ (.tmp 2) rfl (B 1) rfl ?_;simp only[Act.put,zQ,zZ,zJ];obtain⟨c1,hc1⟩:∃g,wb.heap.size=g:=⟨_,rfl⟩;have K3:=zW (Blk.new wb 29 (B 1));have b3:=mJ wb (.cells (B 1) 29);rw[hc1]at K3⊢;have G3:=zW hc1;clear hc1;generalize World.alloc wb _=wc at K3 b3⊢;refine mZ rfl _ (.tmp 3) rfl (B 2) rfl ?_;simp only[Act.put,zQ,zZ,zJ];obtain⟨c2,hc2⟩:∃g,wc.heap.size=g:=⟨_,rfl⟩;have K4:=zW (Blk.new wc 29 (B 2));have b4:=mJ wc (.cells (B 2) 29);rw[hc2]at K4⊢;have G4:=zW hc2;clear hc2;generalize World.alloc wc _=wd at K4 b4⊢;refine mZ rfl _ (.tmp 4) rfl (P) rfl ?_;simp only[Act.put,zQ,zZ,zJ];obtain⟨q0,hq0⟩:∃g,wd.heap.size=g:=⟨_,rfl⟩;have K5:=zW (Blk.new wd 31 (P));have b5:=mJ wd (.cells (P) 31);rw[hq0]at K5⊢;have G5:=zW hq0;clear hq0;generalize World.alloc wd _=w3 at K5 b5⊢;have s2:=zD b1.size b2.size;have s3:=zD s2 b3.size;have s4:=zD s3 b4.size;have X:=zW (show L19 g0 c0 q0 u (B 0) P w w3 from⟨(((K1.out.step b2).step b3).step b4).step b5,((K2.out.step b3).step b4).step b5,K5.out,(((b1.trans (b2.mono b1.size)).trans (b3.mono s2)).trans (b4.mono s3)).trans (b5.mono s4),jT G1.out,G2.out▸b1.size,G5.out▸s4⟩);have KC1:=zW ((K3.out.step b4).step b5);have KC2:=zW (K4.out.step b5);clear b1 b2 b3 b4 b5 K1 K2 K3 K4 K5 G1 G2 G3 G4 G5 s2 s3 s4;go_upto_region 1 with fail;have LC:=zW (fun x:mH w3=>LL.out.step (X.out.low.trans (x.below.mono X.out.low.size)));have CU:=zW (mR X.out.u);have CQ:=zW (mR X.out.q);cases r<;>cases z
 rotate_left 3
 all_goals
  refine bP ?_
  repeat(first
   |(refine l9 yL CU.out (n8 u) ?_ (.tmp 5) ?_ ?_ ?_;(focus rfl);(focus rfl);(focus(simp[Act.eval];done));simp only[Act.put,zQ,zZ,zJ])
   |(refine l9 vI CQ.out sP ?_ (.tmp 9) ?_ ?_ ?_;(focus rfl);(focus rfl);(focus(simp[Act.eval];done));simp only[Act.put,zQ,zZ,zJ])
   |go_big_quiet_step ((first|(go_at_call 13;exact nM (AW.out _ (LC.out _)))|(go_at_call 14;exact nM (RT.out _))|(go_at_call 15;exact nM (VA.out _)))))
  refine zM ?_
  intro _ hw'
  obtain⟨x,rfl⟩:=hw'
  have b1:=x.below
  generalize x.w=w4 at*
  have X:=zW (X.out.step b1)
  have KC1:=zW (KC1.out.step b1)
  have KC2:=zW (KC2.out.step b1)
  clear b1 LC CU CQ
 rotate_left 1
 all_goals try
  clear HR HZ RT VA KC1 KC2
  go_wp2_with fail
  refine(AW.out _ (LL.out.step X.out.low)).mono ?_
  rintro e w5 ⟨rfl,b1⟩
  have X:=zW (X.out.step b1)
  clear b1
  go_wp2
  go_ret
  exact⟨rfl,X.out.low⟩
 have UO:=zW (UU.out.ur (qZ HR.out));have OB:=zW (UU.out.okB (qZ HR.out));have HQ:=zW (qZ HZ.out);have VU:=zW (fun w' (h:Below w.heap.size w w')=>UO.out.step h);clear HR HZ RT VA AW UU;have OF:=zW (fun w' (h:Below w.heap.size w w')=>fL N NN.out u R L S ks FL w' (VU.out w' h));have BD:=zW (fun w' (h:Below w.heap.size w w')=>tO N NN.out CC.out u R L S ks FL w' (VU.out w' h) (LL.out.step h));have RI:=zW (fun base lg b m g v w' (h:Below w.heap.size w w') hC=>tC N NN.out u R L S ks FL base lg b m g v w' (VU.out w' h) hC OB.out.o);have PU:=zW (show(ofA u R L S ks FL).pc=(u.pc:Int)from rfl);have RD:=zW (show(ofA u R L S ks FL).rd=0 from rfl);generalize ofA u R L S ks FL=a at*;go_upto_region 3 with fail;refine zN ?_;refine mL yL X.out.u (n8 _) rfl (.tmp 5) rfl rfl ?_;simp only[Act.put,zQ,zZ,zJ];go_wp2_with fail;refine(BD.out w4 X.out.low).mono ?_;rintro e w5 ⟨b,m,g,v,rfl,rc,b5⟩;have LE:=zW X.out.low.size;have LB:=zW (LL.out.step (X.out.low));have SZ:=zW (zY X.out.u.lt (zY X.out.b.lt X.out.q.lt));have X:=zW (X.out.step b5);have KC1:=zW (KC1.out.step b5);have KC2:=zW (KC2.out.step b5);have Y:=zW (show CpB 0 b m g v a w4 w5 from⟨rc,b5⟩);clear rc b5;go_upto_region 4 with fail;refine zN ?_;iterate 3 go_step
 refine mL yL X.out.u (n8 _) rfl (.tmp 5) rfl rfl ?_;simp only[Act.put,zQ,zZ,zJ];go_wp2_with fail;refine(RI.out _ 0 b m g v w5 X.out.low Y.out.rc).mono ?_;rintro e w6 ⟨rfl,b6⟩;have X:=zW (X.out.step b6);have KC1:=zW (KC1.out.step b6);have KC2:=zW (KC2.out.step b6);have Y:=zW (Y.out.step b6);clear b6;go_upto_region 6 with fail;refine zN ?_;repeat(first|(refine mL yL X.out.u (n8 _) rfl (.tmp 5) rfl rfl ?_;simp only[Act.put,zQ,zZ,zJ])|go_step)
 refine(OF.out w6 X.out.low).mono ?_;rintro e w7 ⟨z0,rfl,rz,b7,nz⟩;have OY:=zW (LW nz UO.out fun k hk=>⟨zD LE.out (Y.out.rc.lt k hk).1,(Y.out.rc.lt k hk).2⟩);have RZ:=zW rz;have X:=zW (X.out.step b7);have Y:=zW (Y.out.step b7);have KC1:=zW (KC1.out.step b7);have KC2:=zW (KC2.out.step b7);clear b7 rz nz;have Os12:=zW (RZ.out.low.sub (O':=fun k=>k=w7.heap.size) fun k hk=>jT (show k=w7.heap.size from hk).symm);have HXs12:=zW X.out.low.size;have HYs12:=zW Y.out.low.size;simp only[];go_at_K
 iterate 1 go_step
 refine nY (ds:=cst (mT a z0)) mM xI (lC _) (lC _) (nZ _) rfl rfl rfl (.tmp 12) (.tmp 39) rfl zBL zBL ?_;simp only[Act.put,zQ,zZ,zJ];have S12:=zW (Blk.new w7 43 (cst (mT a z0)));have BA:=mJ w7 (.cells (cst (mT a z0)) 43);have X:=zW (X.out.step BA);have Y:=zW (Y.out.step BA);have KC1:=zW (KC1.out.step BA);have KC2:=zW (KC2.out.step BA);have RZ:=zW (RZ.out.step BA);clear BA;obtain⟨s12,hs12⟩:∃q,w7.heap.size=q:=⟨_,rfl⟩;rw[hs12]at S12 Os12 HXs12 HYs12⊢;generalize World.alloc _ _=w8 at*;clear hs12;clear OF BD RI VU UO;go_upto_region 7 with fail;refine zN ?_;refine mL aD X.out.b (sB 0) rfl (.tmp 6) rfl rfl ?_;simp only[Act.put,zQ,zZ,zJ];refine mL aD KC1.out (sB 1) rfl (.tmp 7) rfl rfl ?_;simp only[Act.put,zQ,zZ,zJ];refine mL aD KC2.out (sB 2) rfl (.tmp 8) rfl rfl ?_;simp only[Act.put,zQ,zZ,zJ];refine GS X0 (.tmp 40) (.tmp 41) (.tmp 42) rfl rfl (by rw[EB.out];rfl) (by rw[EB.out];rfl) (by rw[EB.out];rfl) ?_;simp only[Act.put,zQ,zZ,zJ];have KL:=zW (Blk.new w8 29 (l3q X0));have BA:=mJ w8 (.cells (l3q X0) 29);have HXl:=zW X.out.low.size;have X:=zW (X.out.step BA);have Y:=zW (Y.out.step BA);have RZ:=zW (RZ.out.step BA);have S12:=zW (S12.out.step BA);clear BA KC1 KC2;obtain⟨l,hl⟩:∃q,w8.heap.size=q:=⟨_,rfl⟩;rw[hl]at KL HXl⊢;generalize World.alloc _ _=w9 at*;clear hl;have sL:(l3q X0).size=12:=rfl;have pL:=zW (fun k hk=>(zWY X0 k hk).trans (congrFun EB.out k));generalize l3q X0=LQ at*;go_wp2_with fail;go_loopw [14,15,16,17,18] (fun v14 v15 v16 v17 v18 wr=>∃(k:Nat) (a:AS) (v:Value) (z:Sls),k≤3∧v14=.int .i64 (k:Int)∧L19 g0 c0 q0 u (B 0) P w wr∧CpB (16*k) b m g v a w4 wr∧Blk l 29 LQ wr∧Blk s12 43 (cst (mT a z)) wr∧RS N wr z a∧sE (fun j=>j=s12) z∧sE (yR b m g v) z∧OkB a∧a.rd≤k) (fun v14 _ _ _ _ _=>3-(intOf v14).toNat)
 case atStart=>exact⟨0,a,v,z0,qE _,rfl,X.out,Y.out,KL.out,S12.out,RZ.out,Os12.out,OY.out,OB.out,jT RD.out⟩
 case round=>
  clear OB RD PU X Y S12 RZ Os12 OY KL
  obtain⟨k,a,v,z,hk,rfl,x0,y0,l0,t0,r0,o0,p0,ob,rd⟩:=hrel
  have X:=zW x0
  have Y:=zW y0
  have KL:=zW l0
  have S12:=zW t0
  have RZ:=zW r0
  have Os12:=zW o0
  have OY:=zW p0
  have OB:=zW ob
  have RD:=zW rd
  clear x0 y0 l0 t0 r0 o0 p0 ob rd
  by_cases hlt:k<3
  ·obtain⟨op,x,y,n,nn,addr,len,hi,r1,r2,r3,r4,r5,r6,r7⟩:=bC.nat (i:=dec (X0 k 0) (X0 k 1) (X0 k 2) (X0 k 3) q.lv) ⟨X0 k 0,X0 k 1,X0 k 2,X0 k 3,HX.out k 0,HX.out k 1,HX.out k 2,HX.out k 3,rfl⟩ HQ.out
   have hd:bC ⟨op,x,y,n,nn,addr,len⟩ q.lv:=hi▸⟨X0 k 0,X0 k 1,X0 k 2,X0 k 3,HX.out k 0,HX.out k 1,HX.out k 2,HX.out k 3,rfl⟩
   have EX:=zW (fun b m g lg v w0' w' (ho:lg≤900) (h:CpB lg b m g v a w0' w') (hl:uO w0')=>h.exec CC.out hl OB.out ho op x y n nn addr len q hd r1 r2 r3 r4 r5 r6 r7 HQ.out)
   have RX:=zW (fun z w' (h:RS N w' z a)=>dO N NN.out a z op x y n nn addr len q w' h OB.out.o r2 r3 r4 r5 r6 r7)
   have DE:=zW (fun w'=>tS (X0 k 0) (X0 k 1) (X0 k 2) (X0 k 3) q w' (HX.out k 0) (HX.out k 1) (HX.out k 2) (HX.out k 3))
   have OB2:=zW (ZY N OB.out (show a.rd<1000000000 by have:=RD.out;omega) op x y n nn addr len q r2 r3 r4 r5 r6)
   have RD2:=zW (zD (rd_st N a op x y n nn addr len q) (Nat.succ_le_succ RD.out))
   have IS:=zW (show(lI ⟨op,(x:Int),(y:Int),(n:Int),(nn:Int),addr,len⟩).size=7 from rfl)
   have IO:=zW (show cL (lI ⟨op,(x:Int),(y:Int),(n:Int),(nn:Int),addr,len⟩)from zR2)
   rw[hi,show(Value.agg #[.int .u8 (X0 k 0:Int),.int .u8 (X0 k 1:Int),.int .u8 (X0 k 2:Int),.int .u8 (X0 k 3:Int)])=.agg (B k)from by rw[←EB.out];rfl]at DE
   rw[EP.out]at DE EX RX
   generalize lI ⟨op,(x:Int),(y:Int),(n:Int),(nn:Int),addr,len⟩=I at DE EX RX IS IO⊢
   generalize stA N a op x y n nn addr len q=a2 at*
   generalize efA a op x y n q=ef at*
   clear hi hd r1 r2 r3 r4 r5 r6 r7
   have hk0:(0:Int)≤(k:Int):=zBY
   have hk3:(k:Int)<3:=zBY
   have pK:=pL.out k hlt
   go_upto_region 11 with fail
   refine bF (fun A a' w'=>∃i15,a'=((((((A.put (some 48) (.slice (some ⟨l,0,none⟩) 3 3)).put (some 49) (.int .i64 (k:Int))).put (some 50) (.pointer (some ⟨l,k*4,none⟩))).put (some 51) (.agg (B k))).put (some 52) (.agg P)).put (some 53) (.agg I)).put (some 15) (.pointer (some ⟨i15,0,none⟩))∧Below wr.heap.size wr w'∧Blk i15 47 I w') ?_ ?_
   ·have L6:=zW (zH wr.heap.size)
    have QL:=zW (fun w' (h:∃u:xS wr.heap.size wr,w'=u.w)=>show Blk l 29 LQ w' from(by obtain⟨u,rfl⟩:=h;exact KL.out.step u.below))
    have QQ:=zW (fun w' (h:∃u:xS wr.heap.size wr,w'=u.w)=>show Blk q0 31 P w' from(by obtain⟨u,rfl⟩:=h;exact X.out.q.step u.below))
    refine xC (C:=fun w'=>∃u:xS wr.heap.size wr,w'=u.w) (.branch [0,1,2,3,4] [5,6] (fun c=>if c=5 then .branch [] [6] (fun c=> .branch [] [7] (fun _=> .last []))else .branch [] [5] (fun c=> .branch [] [7] (fun _=> .last [])))) zBM zBM (fun _ _ d _ _ h=>by cases h.1) ⟨⟨wr.drew,(zB _ _).drew⟩,rfl⟩ ?_
    intro wd hwd
    have CB:=zW (show Below wr.heap.size wr wd by rw[hwd];exact(zB _ _).drew)
    clear hwd
    refine cI zBN ?_
    repeat(first
     |(refine mG (o:=k*4) aD QL.out (by rw[sL];omega) rfl (.tmp 50) rfl zBL ?_;simp only[Act.put,zQ,zZ,zJ];rw[pK])
     |(refine l9 vI QQ.out sP ?_ (.tmp 9) ?_ ?_ ?_;(focus rfl);(focus rfl);(focus(simp[Act.eval,Act.put];done));simp only[Act.put,zQ,zZ,zJ])
     |go_big_quiet_step (fail))
    refine zM ?_
    intro c hc
    simp only[List.mem_cons,j6,or_false]at hc
    rcases hc with rfl|rfl
    ·refine nP zBG zBB ?_
     intro K7 hK
     refine mF (g:=19) (caps:=#[]) (args:=#[.agg (B k),.agg P]) (.func 19) #[.tmp 51,.tmp 52] _ rfl (enters_of Tryz.func19 zBM rfl) rfl zBL ?_
     refine(DE.out wd).mono ?_
     rintro e wd_5 ⟨rfl,bb⟩
     have CB:=zW (CB.out.trans (bb.mono (zD L6.out CB.out.size)))
     clear bb
     refine⟨_,rfl,?_⟩
     refine hK _ _ ⟨⟨wd_5,CB.out⟩,rfl⟩ ?_
     clear hK K7
     simp only[Act.put,zQ,zZ,zJ]
     refine cI zBN ?_
     refine zM ?_
     intro c hc
     simp only[List.mem_cons,j6,or_false]at hc
     obtain rfl:=hc
     refine nP zBG zBB ?_
     intro K7 hK
     refine nF iH rfl ?_
     have bb:=mJ wd_5 (.cells (wQ) 47)
     have I15:=zW (Blk.new wd_5 47 (wQ))
     have BI15:=zW (show wr.heap.size≤wd_5.heap.size from CB.out.size)
     have CB:=zW (CB.out.trans (bb.mono (zD L6.out CB.out.size)))
     obtain⟨i15,hi15⟩:∃q,wd_5.heap.size=q:=⟨_,rfl⟩
     rw[hi15]at I15 BI15⊢
     generalize World.alloc _ _=wd_5_6 at*
     clear bb hi15
     refine hK _ _ ⟨⟨wd_5_6,CB.out⟩,rfl⟩ ?_
     clear hK K7
     simp only[Act.put,zQ,zZ,zJ]
     refine cI zBN ?_
     refine zM ?_
     intro c hc
     obtain rfl:c=7:=by simpa using hc
     refine nP zBG zBB ?_
     intro K7 hK
     refine nH (ds:=I) mN I15.out rfl IS.out IO.out (.tmp 15) (.tmp 53) rfl zBL zBL ?_
     have CB:=zW (lU CB.out BI15.out I)
     have I15:=zW (I15.out.store I)
     refine hK _ _ ⟨⟨_,CB.out⟩,rfl⟩ ?_
     clear hK K7
     refine wA zBN ?_
     refine zM ?_
     exact⟨rfl,i15,rfl,CB.out,I15.out⟩
    ·refine nP zBG zBB ?_
     intro K7 hK
     refine nF iH rfl ?_
     have bb:=mJ wd (.cells (wQ) 47)
     have I15:=zW (Blk.new wd 47 (wQ))
     have BI15:=zW (show wr.heap.size≤wd.heap.size from CB.out.size)
     have CB:=zW (CB.out.trans (bb.mono (zD L6.out CB.out.size)))
     obtain⟨i15,hi15⟩:∃q,wd.heap.size=q:=⟨_,rfl⟩
     rw[hi15]at I15 BI15⊢
     generalize World.alloc _ _=wd_6 at*
     clear bb hi15
     refine hK _ _ ⟨⟨wd_6,CB.out⟩,rfl⟩ ?_
     clear hK K7
     simp only[Act.put,zQ,zZ,zJ]
     refine cI zBN ?_
     refine zM ?_
     intro c hc
     simp only[List.mem_cons,j6,or_false]at hc
     obtain rfl:=hc
     refine nP zBG zBB ?_
     intro K7 hK
     refine mF (g:=19) (caps:=#[]) (args:=#[.agg (B k),.agg P]) (.func 19) #[.tmp 51,.tmp 52] _ rfl (enters_of Tryz.func19 zBM rfl) rfl zBL ?_
     refine(DE.out wd_6).mono ?_
     rintro e wd_6_5 ⟨rfl,bb⟩
     have I15:=zW (I15.out.step bb)
     have CB:=zW (CB.out.trans (bb.mono (zD L6.out CB.out.size)))
     clear bb
     refine⟨_,rfl,?_⟩
     refine hK _ _ ⟨⟨wd_6_5,CB.out⟩,rfl⟩ ?_
     clear hK K7
     simp only[Act.put,zQ,zZ,zJ]
     refine cI zBN ?_
     refine zM ?_
     intro c hc
     obtain rfl:c=7:=by simpa using hc
     refine nP zBG zBB ?_
     intro K7 hK
     refine nH (ds:=I) mN I15.out rfl IS.out IO.out (.tmp 15) (.tmp 53) rfl zBL zBL ?_
     have CB:=zW (lU CB.out BI15.out I)
     have I15:=zW (I15.out.store I)
     refine hK _ _ ⟨⟨_,CB.out⟩,rfl⟩ ?_
     clear hK K7
     refine wA zBN ?_
     refine zM ?_
     exact⟨rfl,i15,rfl,CB.out,I15.out⟩
   rintro _ w11 ⟨i15,rfl,bb,h15⟩
   have I15:=zW h15
   have X:=zW (X.out.step bb)
   have Y:=zW (Y.out.step bb)
   have KL:=zW (KL.out.step bb)
   have S12:=zW (S12.out.step bb)
   have RZ:=zW (RZ.out.step bb)
   clear bb h15
   simp only[Act.put,zQ,zZ,zJ]
   go_upto_region 12 with fail
   refine zN ?_
   repeat(first|(refine mL mN I15.out IS.out rfl (.tmp 15) rfl rfl ?_;simp only[Act.put,zQ,zZ,zJ])|(refine mL vI X.out.q sP rfl (.tmp 9) rfl rfl ?_;simp only[Act.put,zQ,zZ,zJ])|go_step)
   refine(EX.out b m g (16*k) v w4 w11 zBY Y.out LB.out).mono ?_
   rintro e w12 ⟨rfl,v',yy,kk,hv⟩
   have X:=zW (X.out.kept Y.out LE.out kk)
   have KL:=zW (Y.out.blk KL.out ⟨by decide,by decide,by decide,by decide⟩ kk)
   have I15:=zW (Y.out.blk I15.out ⟨by decide,by decide,by decide,by decide⟩ kk)
   have S12:=zW (Y.out.blk S12.out ⟨by decide,by decide,by decide,by decide⟩ kk)
   have OY2:=zW (OY.out.grown RZ.out hv)
   have RZ:=zW (Y.out.rc.ref RZ.out OY.out kk)
   have Y:=zW yy
   have OY:=zW OY2.out
   clear kk yy hv OY2
   simp only[]
   go_at_K
   iterate 1 go_step
   refine nY (ds:=efc ef) fJ gH rfl rfl (yT ef) rfl rfl rfl (.tmp 16) (.tmp 57) rfl zBL zBL ?_
   simp only[Act.put,zQ,zZ,zJ]
   have E16:=zW (Blk.new w12 51 (efc ef))
   have BA:=mJ w12 (.cells (efc ef) 51)
   have X:=zW (X.out.step BA)
   have Y:=zW (Y.out.step BA)
   have KL:=zW (KL.out.step BA)
   have I15:=zW (I15.out.step BA)
   have S12:=zW (S12.out.step BA)
   have RZ:=zW (RZ.out.step BA)
   clear BA
   obtain⟨e16,he16⟩:∃q,w12.heap.size=q:=⟨_,rfl⟩
   rw[he16]at E16⊢
   generalize World.alloc _ _=w13 at*
   clear he16
   go_upto_region 13 with fail
   refine zN ?_
   repeat(first|(refine mL mM S12.out (lC _) rfl (.tmp 12) rfl rfl ?_;simp only[Act.put,zQ,zZ,zJ])|(refine mL mN I15.out IS.out rfl (.tmp 15) rfl rfl ?_;simp only[Act.put,zQ,zZ,zJ])|(refine mL vI X.out.q sP rfl (.tmp 9) rfl rfl ?_;simp only[Act.put,zQ,zZ,zJ])|go_step)
   refine(RX.out z w13 RZ.out).mono ?_
   rintro e w14 ⟨z1,rfl,rz,bb,fz⟩
   have Os12:=zW (Os12.out.fr fz (fun j hj=>(show j=s12 from hj)▸S12.out.lt) ((sN RZ.out).trans (sN rz).symm))
   have OY:=zW (OY.out.fr fz (fun j hj=>(Y.out.rc.lt j hj).2) ((sN RZ.out).trans (sN rz).symm))
   have X:=zW (X.out.step bb)
   have Y:=zW (Y.out.step bb)
   have KL:=zW (KL.out.step bb)
   have S12:=zW (S12.out.step bb)
   have E16:=zW (E16.out.step bb)
   have RZ:=zW rz
   clear bb rz fz I15
   simp only[]
   go_at_K
   iterate 10 go_step
   refine qL rfl fun K hK=>nF xI rfl (hK _ _ ?_)
   clear hK K
   simp only[Act.put,zQ,zZ,zJ]
   have S17:=zW (Blk.new w14 43 (cst vP))
   have BA:=mJ w14 (.cells (cst vP) 43)
   have B17:=zW (zH w14.heap.size)
   obtain⟨s17,hs17⟩:∃q,w14.heap.size=q:=⟨_,rfl⟩
   have N17:=zW hs17
   rw[hs17]at S17⊢
   generalize World.alloc _ _=w15 at*
   clear hs17
   refine qL rfl fun K hK=>nF oS rfl (hK _ _ ?_)
   clear hK K
   simp only[Act.put,zQ,zZ,zJ]
   have F18:=zW (Blk.new w15 54 (efc ⟨0,false,false,false⟩))
   have BB:=mJ w15 (.cells (efc ⟨0,false,false,false⟩) 54)
   have S17:=zW (S17.out.step BB)
   obtain⟨f18,hf18⟩:∃q,w15.heap.size=q:=⟨_,rfl⟩
   have N18:=zW hf18
   rw[hf18]at F18⊢
   generalize World.alloc _ _=w16 at*
   clear hf18
   have CB:=zW (BA.trans (BB.mono BA.size))
   refine lE (ds:=cst (mT a2 z1)) mM S17.out (lC _) (lC _) (nZ _) rfl (.tmp 17) (.tmp 63) rfl zBL zBL ?_
   simp only[Act.put,zQ,zZ,zJ]
   have F18:=zW (F18.out.otherRow (xY F18.out S17.out zBH) (cst (mT a2 z1)))
   have S17:=zW (S17.out.store (cst (mT a2 z1)))
   have CB:=zW (lU CB.out (jT N17.out) (cst (mT a2 z1)))
   generalize World.setRow _ _ _=w17 at*
   refine lE (ds:=efc ef) sT F18.out rfl rfl (yT ef) rfl (.tmp 18) (.tmp 64) rfl zBL zBL ?_
   simp only[Act.put,zQ,zZ,zJ]
   have S17:=zW (S17.out.otherRow (xY S17.out F18.out zBH) (efc ef))
   have F18:=zW (F18.out.store (efc ef))
   have CB:=zW (lU CB.out (N18.out▸BA.size) (efc ef))
   generalize World.setRow _ _ _=w18 at*
   have bb:=CB.out
   have X:=zW (X.out.step bb)
   have Y:=zW (Y.out.step bb)
   have KL:=zW (KL.out.step bb)
   have S12:=zW (S12.out.step bb)
   have E16:=zW (E16.out.step bb)
   have RZ:=zW (RZ.out.step bb)
   clear bb CB BA BB B17 N17 N18
   go_upto_region 14 with fail
   refine zN ?_
   refine mL mM S17.out (lC _) rfl (.tmp 17) rfl rfl ?_
   simp only[Act.put,zQ,zZ,zJ]
   refine lE (ds:=cst (mT a2 z1)) mM S12.out (lC _) (lC _) (nZ _) rfl (.tmp 12) (.tmp 65) rfl zBL zBL ?_
   simp only[Act.put,zQ,zZ,zJ]
   have X:=zW (X.out.away (ds:=cst (mT a2 z1)) S12.out ⟨by decide,by decide,by decide⟩ HXs12.out)
   have Y:=zW (Y.out.away (ds:=cst (mT a2 z1)) S12.out ⟨by decide,by decide,by decide,by decide,by decide⟩ HYs12.out)
   have RZ:=zW (RZ.out.st (ds:=cst (mT a2 z1)) Os12.out S12.out)
   have KL:=zW (KL.out.otherRow (xY KL.out S12.out zBH) (cst (mT a2 z1)))
   have E16:=zW (E16.out.otherRow (xY E16.out S12.out zBH) (cst (mT a2 z1)))
   have F18:=zW (F18.out.otherRow (xY F18.out S12.out zBH) (cst (mT a2 z1)))
   have S12:=zW (S12.out.store (cst (mT a2 z1)))
   generalize World.setRow _ _ _=w19 at*
   clear S17
   obtain⟨ec,eh,ew,ed⟩:=ef
   have E16:=zW (show Blk e16 51 #[.int .i64 ec,.bool eh,.bool ew,.bool ed] w19 from E16.out)
   have F18:=zW (show Blk f18 54 #[.int .i64 ec,.bool eh,.bool ew,.bool ed] w19 from F18.out)
   have c_0:w19.cell? ⟨e16,0,none⟩=some (.int .i64 ec):=(E16.out.cell 0).trans rfl
   have c_1:w19.cell? ⟨e16,1,none⟩=some (.bool eh):=(E16.out.cell 1).trans rfl
   have c_2:w19.cell? ⟨e16,2,none⟩=some (.bool ew):=(E16.out.cell 2).trans rfl
   have c_3:w19.cell? ⟨e16,3,none⟩=some (.bool ed):=(E16.out.cell 3).trans rfl
   have d_0:w19.cell? ⟨f18,0,none⟩=some (.int .i64 ec):=(F18.out.cell 0).trans rfl
   have d_1:w19.cell? ⟨f18,1,none⟩=some (.bool eh):=(F18.out.cell 1).trans rfl
   have d_2:w19.cell? ⟨f18,2,none⟩=some (.bool ew):=(F18.out.cell 2).trans rfl
   have d_3:w19.cell? ⟨f18,3,none⟩=some (.bool ed):=(F18.out.cell 3).trans rfl
   have kc_0:=mH.cell c_0 E16.out.lt
   have kc_1:=mH.cell c_1 E16.out.lt
   have kc_2:=mH.cell c_2 E16.out.lt
   have kc_3:=mH.cell c_3 E16.out.lt
   have kd_0:=mH.cell d_0 F18.out.lt
   have kd_1:=mH.cell d_1 F18.out.lt
   have kd_2:=mH.cell d_2 F18.out.lt
   have kd_3:=mH.cell d_3 F18.out.lt
   have EA:=zW (fun w=>(show Calls Tryz.prog 22 #[.agg #[.int .i64 ec,.bool eh,.bool ew,.bool ed]] w fun e w'=>e=.returned (.agg #[.int .i64 ec,.bool eh,.bool ew,.bool ed])∧Below w.heap.size w w' from oJ ⟨ec,eh,ew,ed⟩ w))
   clear c_0 c_1 c_2 c_3 d_0 d_1 d_2 d_3
   go_upto_region 15 with fail
   refine m8 zBM zBM ?_
   repeat(go_big_quiet_step ((go_at_call 22;exact nM (EA.out _))))
   refine zM ?_
   intro _ hw'
   obtain⟨x',rfl⟩:=hw'
   have b1:=x'.below
   generalize x'.w=w20 at*
   have X:=zW (X.out.step b1)
   have Y:=zW (Y.out.step b1)
   have KL:=zW (KL.out.step b1)
   have S12:=zW (S12.out.step b1)
   have RZ:=zW (RZ.out.step b1)
   clear b1 kc_0 kc_1 kc_2 kc_3 kd_0 kd_1 kd_2 kd_3 E16 F18
   go_wp2
   exact⟨⟨k+1,a2,v',z1,hlt,rfl,X.out,Y.out,KL.out,S12.out,RZ.out,Os12.out,OY.out,OB2.out,RD2.out⟩,by simp[intOf];omega⟩
  ·have hk3:¬(k:Int)<3:=zBY
   go_upto_region 17 with fail
   refine zN ?_
   repeat(first|(refine mL mM S12.out (lC _) rfl (.tmp 12) rfl rfl ?_;simp only[Act.put,zQ,zZ,zJ])|go_step)
   refine(wT N NN.out a z _ b m g v wr Y.out.rc.st Y.out.rc.mem Y.out.rc.rnd RZ.out OB.out.o).mono ?_
   rintro e wb ⟨rfl,bb⟩
   have X:=zW (X.out.step bb)
   clear bb
   go_wp2
   go_ret
   exact⟨rfl,X.out.low⟩
end
end Go.Proofs.YtcjldabaekbdlaaGreatDoor
