/- CpuClonesW. -/
import Derived.Test.YtcjldabaekbdlaaGreatDoorMk10a
set_option maxRecDepth 400000
set_option maxHeartbeats 64000000
set_option linter.unusedVariables false
set_option linter.unusedSimpArgs false
namespace Go.Proofs.YtcjldabaekbdlaaGreatDoor
section
open Go.RowKit Num Dec Cpu
theorem zYQ(N:Nat)(hN:N=8192)(C:gS N)(u:US)(R L:List Int)(S:List Nat)(ks:List Ev)(FL:List Int)(x0 x1 x2 x3:Nat)(q:Pr)(w:World)(H:UW w u R L S ks FL)(h0:x0<256)(h1:x1<256)(h2:x2<256)(h3:x3<256)(hL:uO w):
  Calls Tryz.prog 6 #[.agg (usc u),.agg (bc4 x0 x1 x2 x3),.agg (prc q)] w fun e w'=>e=.returned (.bool true)∧Below w.heap.size w w':=by
 have CC:=zW C;have NN:=zW hN;have UU:=zW H;have LL:=zW hL;have HX:=zW (zY h0 (zY h1 (zY h2 h3)));have AW:=zW (fun w h=>oL N hN C w h);obtain⟨r,hr⟩:∃r,decide (uok u)=r:=⟨_,rfl⟩;obtain⟨z,hz⟩:∃z,decide (1≤q.lv∧q.lv≤3)=z:=⟨_,rfl⟩;have RT:=zW (fun w=>hr▸rG u w);have VA:=zW (fun w=>hz▸iR q w);have HR:=zW hr;have HZ:=zW hz;clear C hN H hL h0 h1 h2 h3 hr hz;obtain⟨B,hB⟩:∃B,bc4 x0 x1 x2 x3=B:=⟨_,rfl⟩;obtain⟨P,hP⟩:∃P,prc q=P:=⟨_,rfl⟩;have sB:B.size=4:=by rw[←hB];rfl
 have sP:P.size=8:=by rw[←hP];rfl
 rw[hP]at VA;rw[hB,hP];have EB:=zW hB;have EP:=zW hP;clear hB hP;go_enter Tryz.func6,Tryz.ntmps6;go_upto_region 0 with fail;refine zN ?_;refine mZ rfl _ (.tmp 0) rfl (usc u) rfl ?_;simp only[Act.put,zQ,zZ,zJ];obtain⟨g0,hg0⟩:∃g,w.heap.size=g:=⟨_,rfl⟩;have K1:=zW (Blk.new w 28 (usc u));have b1:=mJ w (.cells (usc u) 28);rw[hg0]at K1⊢;have G1:=zW hg0;clear hg0;generalize World.alloc w _=w1 at K1 b1⊢;refine mZ rfl _ (.tmp 1) rfl (B) rfl ?_;simp only[Act.put,zQ,zZ,zJ];obtain⟨c0,hc0⟩:∃g,w1.heap.size=g:=⟨_,rfl⟩;have K2:=zW (Blk.new w1 29 (B));have b2:=mJ w1 (.cells (B) 29);rw[hc0]at K2⊢;have G2:=zW hc0;clear hc0;generalize World.alloc w1 _=w2 at K2 b2⊢;refine mZ rfl _ (.tmp 2) rfl (P) rfl ?_;simp only[Act.put,zQ,zZ,zJ];obtain⟨q0,hq0⟩:∃g,w2.heap.size=g:=⟨_,rfl⟩;have K3:=zW (Blk.new w2 31 (P));have b3:=mJ w2 (.cells (P) 31);rw[hq0]at K3⊢;have G3:=zW hq0;clear hq0;generalize World.alloc w2 _=w3 at K3 b3⊢;have X:=zW (show L19 g0 c0 q0 u B P w w3 from⟨(K1.out.step b2).step b3,K2.out.step b3,K3.out,(b1.trans (b2.mono b1.size)).trans (b3.mono (zD b1.size b2.size)),jT G1.out,G2.out▸b1.size,G3.out▸zD b1.size b2.size⟩);clear b1 b2 b3 K1 K2 K3 G1 G2 G3;go_upto_region 1 with fail;have LC:=zW (fun x:mH w3=>LL.out.step (X.out.low.trans (x.below.mono X.out.low.size)));have CU:=zW (mR X.out.u);have CQ:=zW (mR X.out.q);cases r<;>cases z
 rotate_left 3
 all_goals
  refine bP ?_
  repeat(first
   |(refine l9 yL CU.out (n8 u) ?_ (.tmp 3) ?_ ?_ ?_;(focus rfl);(focus rfl);(focus(simp[Act.eval];done));simp only[Act.put,zQ,zZ,zJ])
   |(refine l9 vI CQ.out sP ?_ (.tmp 5) ?_ ?_ ?_;(focus rfl);(focus rfl);(focus(simp[Act.eval];done));simp only[Act.put,zQ,zZ,zJ])
   |go_big_quiet_step ((first|(go_at_call 13;exact nM (AW.out _ (LC.out _)))|(go_at_call 14;exact nM (RT.out _))|(go_at_call 15;exact nM (VA.out _)))))
  refine zM ?_
  intro _ hw'
  obtain⟨x,rfl⟩:=hw'
  have b1:=x.below
  generalize x.w=w4 at*
  have X:=zW (X.out.step b1)
  clear b1 LC CU CQ
 rotate_left 1
 all_goals try
  clear HR HZ RT VA
  go_wp2_with fail
  refine(AW.out _ (LL.out.step X.out.low)).mono ?_
  rintro e w5 ⟨rfl,b1⟩
  have X:=zW (X.out.step b1)
  clear b1
  go_wp2
  go_ret
  exact⟨rfl,X.out.low⟩
 have UO:=zW (UU.out.ur (qZ HR.out));have OB:=zW (UU.out.okB (qZ HR.out));have HQ:=zW (qZ HZ.out);have VU:=zW (fun w' (h:Below w.heap.size w w')=>UO.out.step h);clear HR HZ RT VA AW UU;have OF:=zW (fun w' (h:Below w.heap.size w w')=>fL N NN.out u R L S ks FL w' (VU.out w' h));have BD:=zW (fun w' (h:Below w.heap.size w w')=>tO N NN.out CC.out u R L S ks FL w' (VU.out w' h) (LL.out.step h));have RI:=zW (fun base lg b m g v w' (h:Below w.heap.size w w') hC=>tC N NN.out u R L S ks FL base lg b m g v w' (VU.out w' h) hC OB.out.o);have PU:=zW (show(ofA u R L S ks FL).pc=(u.pc:Int)from rfl);have RD:=zW (show(ofA u R L S ks FL).rd=0 from rfl);generalize ofA u R L S ks FL=a at*;go_upto_region 3 with fail;refine zN ?_;refine mL yL X.out.u (n8 _) rfl (.tmp 3) rfl rfl ?_;simp only[Act.put,zQ,zZ,zJ];go_wp2_with fail;refine(BD.out w4 X.out.low).mono ?_;rintro e w5 ⟨b,m,g,v,rfl,rc,b5⟩;have LE:=zW X.out.low.size;have LB:=zW (LL.out.step (X.out.low));have SZ:=zW (zY X.out.u.lt (zY X.out.b.lt X.out.q.lt));have X:=zW (X.out.step b5);have Y:=zW (show CpB 0 b m g v a w4 w5 from⟨rc,b5⟩);clear rc b5;go_upto_region 4 with fail;refine zN ?_;iterate 3 go_step
 refine mL yL X.out.u (n8 _) rfl (.tmp 3) rfl rfl ?_;simp only[Act.put,zQ,zZ,zJ];go_wp2_with fail;refine(RI.out _ 0 b m g v w5 X.out.low Y.out.rc).mono ?_;rintro e w6 ⟨rfl,b6⟩;have X:=zW (X.out.step b6);have Y:=zW (Y.out.step b6);clear b6;go_wp2_with fail;refine(CC.out.clone _ 0 b m g v a w6 (LL.out.step X.out.low) Y.out.rc OB.out).mono ?_;rintro e w7 ⟨b2,m2,g2,v2,rfl,rc2,b7⟩;have LZ:=zW X.out.low.size;have L46:=zW Y.out.low.size;have DJ:=zW (fun j (h:yR b m g v j)=>(Y.out.rc.lt j h).2);have LC2:=zW (LL.out.step X.out.low);have X:=zW (X.out.step b7);have Y:=zW (Y.out.step b7);have Z:=zW (show CpB 0 b2 m2 g2 v2 a w6 w7 from⟨rc2,b7⟩);clear rc2 b7;go_upto_region 7 with fail;refine zN ?_;repeat(first|(refine mL yL X.out.u (n8 _) rfl (.tmp 3) rfl rfl ?_;simp only[Act.put,zQ,zZ,zJ])|go_step)
 refine(RI.out _ 0 b2 m2 g2 v2 w7 X.out.low Z.out.rc).mono ?_;rintro e w8 ⟨rfl,b8⟩;have X:=zW (X.out.step b8);have Y:=zW (Y.out.step b8);have Z:=zW (Z.out.step b8);clear b8;obtain⟨op,x,y,n,nn,addr,len,hi,r1,r2,r3,r4,r5,r6,r7⟩:=bC.nat (i:=dec x0 x1 x2 x3 q.lv) ⟨x0,x1,x2,x3,HX.out.1,HX.out.2.1,HX.out.2.2.1,HX.out.2.2.2,rfl⟩ HQ.out;have hd:bC ⟨op,x,y,n,nn,addr,len⟩ q.lv:=hi▸⟨x0,x1,x2,x3,HX.out.1,HX.out.2.1,HX.out.2.2.1,HX.out.2.2.2,rfl⟩;have EX:=zW (fun b m g lg v w0' w' (ho:lg≤900) (h:CpB lg b m g v a w0' w') (hl:uO w0')=>h.exec CC.out hl OB.out ho op x y n nn addr len q hd r1 r2 r3 r4 r5 r6 r7 HQ.out);have RX:=zW (fun z w' (h:RS N w' z a)=>dO N NN.out a z op x y n nn addr len q w' h OB.out.o r2 r3 r4 r5 r6 r7);have DE:=zW (fun w'=>tS x0 x1 x2 x3 q w' HX.out.1 HX.out.2.1 HX.out.2.2.1 HX.out.2.2.2);have OB2:=zW (ZY N OB.out (show a.rd<1000000000 by rw[RD.out];decide) op x y n nn addr len q r2 r3 r4 r5 r6);have FE:=zW (V5 N a op x y n nn addr len q);rw[hi,show(Value.agg #[.int .u8 (x0:Int),.int .u8 (x1:Int),.int .u8 (x2:Int),.int .u8 (x3:Int)])=.agg B from by rw[←EB.out];rfl]at DE;rw[EP.out]at DE EX RX;generalize lI ⟨op,(x:Int),(y:Int),(n:Int),(nn:Int),addr,len⟩=I at DE EX RX⊢;generalize stA N a op x y n nn addr len q=a2 at*;generalize efA a op x y n q=ef at*;clear hi hd;go_upto_region 9 with fail;refine bF (fun A a' w'=>∃v',a'=(((((A.put (some 36) (.pointer (some ⟨b2,0,none⟩))).put (some 37) (.agg B)).put (some 38) (.agg P)).put (some 39) (.agg I)).put (some 40) (.agg P)).put (some 41) (.agg (efc ef))∧L19 g0 c0 q0 u B P w w'∧CpB 0 b m g v a w4 w'∧CpB 16 b2 m2 g2 v' a2 w6 w') ?_ ?_
 ·have L6:=zW (show w4.heap.size≤w8.heap.size from Y.out.low.size);have QU:=zW (fun w' (h:∃u:xS w4.heap.size w8,w'=u.w)=>show Blk g0 28 (usc u) w' from zRL);have QB:=zW (fun w' (h:∃u:xS w4.heap.size w8,w'=u.w)=>show Blk c0 29 B w' from zRW);have QQ:=zW (fun w' (h:∃u:xS w4.heap.size w8,w'=u.w)=>show Blk q0 31 P w' from zRY);refine xC (C:=fun w'=>∃u:xS w4.heap.size w8,w'=u.w) (.branch [0,1,2,4] [3] (fun c=> .branch [] [5] (fun c=> .last []))) zBM zBM (fun _ _ d _ _ h=>by cases h.1) ⟨⟨w8.drew,(zB _ _).drew⟩,rfl⟩ ?_;intro wn hwd;have bb:=show Below w8.heap.size w8 wn by rw[hwd];exact(zB _ _).drew
  have CB:=zW (bb.mono L6.out);have X:=zW (X.out.step bb);have Y:=zW (Y.out.step bb);have Z:=zW (Z.out.step bb);clear hwd bb;repeat' (first
   |exact fun _ h=>absurd h j6
   |with_reducible refine List.forall_mem_cons.2 ⟨?_,?_⟩
   |with_reducible show cO _ _ _ _ 3 _ _ _
    refine nP zBG zBB ?_
    intro K7 hK
    refine mF (g:=19) (caps:=#[]) (args:=#[.agg B,.agg P]) (.func 19) #[.tmp 37,.tmp 38] _ rfl (enters_of Tryz.func19 zBM rfl) rfl zBL ?_
    refine(DE.out wn).mono ?_
    rintro e wn ⟨rfl,bb⟩
    try have X:=zW (X.out.step bb)
    try have Y:=zW (Y.out.step bb)
    try have Z:=zW (Z.out.step bb)
    have CB:=zW (CB.out.trans (bb.mono (zD L6.out CB.out.size)))
    clear bb
    refine⟨_,rfl,?_⟩
    refine hK _ _ ⟨⟨wn,CB.out⟩,rfl⟩ ?_
    clear hK K7
    simp only[Act.put,zQ,zZ,zJ]
   |with_reducible show cO _ _ _ _ 5 _ _ _
    refine nP zBG zBB ?_
    intro K7 hK
    refine mF (g:=20) (caps:=#[]) (args:=#[.pointer (some ⟨b2,0,none⟩),.agg I,.agg P]) (.func 20) #[.tmp 36,.tmp 39,.tmp 40] _ rfl (enters_of Tryz.func20 zBM rfl) rfl zBL ?_
    refine(EX.out b2 m2 g2 0 v2 w6 wn zBH Z.out LC2.out).mono ?_
    rintro e wn ⟨rfl,v',yy,kk,_⟩
    have CB:=zW (CB.out.trans (kk.below Y.out.low.size fun j hj=>zD L46.out (Z.out.rc.lt j hj).1))
    try have X:=zW (X.out.kept Z.out LZ.out kk)
    try have Y:=zW (Z.out.other Y.out kk (fun j hj c=>absurd (DJ.out j hj) (by have:=(Z.out.rc.lt j c).1;omega)) L46.out)
    have Z:=zW yy
    clear kk yy
    refine⟨_,rfl,?_⟩
    refine hK _ _ ⟨⟨wn,CB.out⟩,rfl⟩ ?_
    clear hK K7
    simp only[Act.put,zQ,zZ,zJ]
   |with_reducible show uX _ _ _ _ _ _ _
    refine wA zBN ?_
    refine zM ?_
    exact⟨rfl,v',rfl,X.out,Y.out,Z.out⟩
   |with_reducible show uX _ _ _ _ _ _ _
    refine cI zBN ?_
    repeat(first
     |(refine l9 yL QU.out (n8 u) ?_ (.tmp 3) ?_ ?_ ?_;(focus rfl);(focus rfl);(focus(simp[Act.eval,Act.put];done));simp only[Act.put,zQ,zZ,zJ])
     |(refine l9 aD QB.out sB ?_ (.tmp 4) ?_ ?_ ?_;(focus rfl);(focus rfl);(focus(simp[Act.eval,Act.put];done));simp only[Act.put,zQ,zZ,zJ])
     |(refine l9 vI QQ.out sP ?_ (.tmp 5) ?_ ?_ ?_;(focus rfl);(focus rfl);(focus(simp[Act.eval,Act.put];done));simp only[Act.put,zQ,zZ,zJ])
     |go_big_quiet_step (rfl))
    refine zM ?_)
 rintro _ w9 ⟨v',rfl,x9,y9,z9⟩;have X:=zW x9;have Y:=zW y9;have Z:=zW z9;clear x9 y9 z9;simp only[Act.put,zQ,zZ,zJ];go_upto_region 10 with fail;refine bF (fun A a' w'=>∃s9 f10 z0 z1,a'=(((((((((((A.put (some 43) (.agg (usc u))).put (some 44) (.agg (cst (mT a z0)))).put (some 45) (.agg B)).put (some 46) (.agg P)).put (some 47) (.agg I)).put (some 48) (.agg P)).put (some 49) (.tuple #[.agg (cst (mT a2 z1)),.agg (efc ef)])).put (some 42) (.tuple #[.agg (cst (mT a2 z1)),.agg (efc ef)])).put (some 50) (.agg (cst (mT a2 z1)))).put (some 51) (.agg (efc ef))).put (some 9) (.pointer (some ⟨s9,0,none⟩))).put (some 10) (.pointer (some ⟨f10,0,none⟩))∧L19 g0 c0 q0 u B P w w'∧CpB 0 b m g v a w4 w'∧CpB 16 b2 m2 g2 v' a2 w6 w'∧RS N w' z1 a2∧Blk s9 43 (cst (mT a2 z1)) w'∧Blk f10 54 (efc ef) w') ?_ ?_
 ·have L6:=zW (show w4.heap.size≤w9.heap.size from Y.out.low.size);have L9:=zW Z.out.low.size;have QU:=zW (fun w' (h:∃u:xS w4.heap.size w9,w'=u.w)=>show Blk g0 28 (usc u) w' from zRL);have QB:=zW (fun w' (h:∃u:xS w4.heap.size w9,w'=u.w)=>show Blk c0 29 B w' from zRW);have QQ:=zW (fun w' (h:∃u:xS w4.heap.size w9,w'=u.w)=>show Blk q0 31 P w' from zRY);refine xC (C:=fun w'=>∃u:xS w4.heap.size w9,w'=u.w) (.branch [0,2,3,5] [1,10,11] (fun c=>if c=1 then .branch [] [4,10,11] (fun c=>if c=4 then .branch [] [6,10,11] (fun c=>if c=6 then .branch [7,8,9] [10,11] (fun c=>if c=10 then .branch [] [11] (fun c=> .branch [] [12] (fun _=> .branch [] [13] (fun _=> .last [])))else .branch [] [10] (fun c=> .branch [] [12] (fun _=> .branch [] [13] (fun _=> .last []))))else if c=10 then .branch [] [6,11] (fun c=>if c=6 then .branch [7,8,9] [11] (fun c=> .branch [] [12] (fun _=> .branch [] [13] (fun _=> .last [])))else .branch [] [6] (fun c=> .branch [7,8,9] [12] (fun _=> .branch [] [13] (fun _=> .last []))))else .branch [] [6,10] (fun c=>if c=6 then .branch [7,8,9] [10] (fun c=> .branch [] [12] (fun _=> .branch [] [13] (fun _=> .last [])))else .branch [] [6] (fun c=> .branch [7,8,9] [12] (fun _=> .branch [] [13] (fun _=> .last [])))))else if c=10 then .branch [] [4,11] (fun c=>if c=4 then .branch [] [6,11] (fun c=>if c=6 then .branch [7,8,9] [11] (fun c=> .branch [] [12] (fun _=> .branch [] [13] (fun _=> .last [])))else .branch [] [6] (fun c=> .branch [7,8,9] [12] (fun _=> .branch [] [13] (fun _=> .last []))))else .branch [] [4] (fun c=> .branch [] [6] (fun c=> .branch [7,8,9] [12] (fun _=> .branch [] [13] (fun _=> .last [])))))else .branch [] [4,10] (fun c=>if c=4 then .branch [] [6,10] (fun c=>if c=6 then .branch [7,8,9] [10] (fun c=> .branch [] [12] (fun _=> .branch [] [13] (fun _=> .last [])))else .branch [] [6] (fun c=> .branch [7,8,9] [12] (fun _=> .branch [] [13] (fun _=> .last []))))else .branch [] [4] (fun c=> .branch [] [6] (fun c=> .branch [7,8,9] [12] (fun _=> .branch [] [13] (fun _=> .last []))))))else if c=10 then .branch [] [1,11] (fun c=>if c=1 then .branch [] [4,11] (fun c=>if c=4 then .branch [] [6,11] (fun c=>if c=6 then .branch [7,8,9] [11] (fun c=> .branch [] [12] (fun _=> .branch [] [13] (fun _=> .last [])))else .branch [] [6] (fun c=> .branch [7,8,9] [12] (fun _=> .branch [] [13] (fun _=> .last []))))else .branch [] [4] (fun c=> .branch [] [6] (fun c=> .branch [7,8,9] [12] (fun _=> .branch [] [13] (fun _=> .last [])))))else .branch [] [1] (fun c=> .branch [] [4] (fun c=> .branch [] [6] (fun c=> .branch [7,8,9] [12] (fun _=> .branch [] [13] (fun _=> .last []))))))else .branch [] [1,10] (fun c=>if c=1 then .branch [] [4,10] (fun c=>if c=4 then .branch [] [6,10] (fun c=>if c=6 then .branch [7,8,9] [10] (fun c=> .branch [] [12] (fun _=> .branch [] [13] (fun _=> .last [])))else .branch [] [6] (fun c=> .branch [7,8,9] [12] (fun _=> .branch [] [13] (fun _=> .last []))))else .branch [] [4] (fun c=> .branch [] [6] (fun c=> .branch [7,8,9] [12] (fun _=> .branch [] [13] (fun _=> .last [])))))else .branch [] [1] (fun c=> .branch [] [4] (fun c=> .branch [] [6] (fun c=> .branch [7,8,9] [12] (fun _=> .branch [] [13] (fun _=> .last [])))))))) zBM zBM (fun _ _ d _ _ h=>by cases h.1) ⟨⟨w9.drew,(zB _ _).drew⟩,rfl⟩ ?_;intro wn hwd;have bb:=show Below w9.heap.size w9 wn by rw[hwd];exact(zB _ _).drew
  have CB:=zW (bb.mono L6.out);have X:=zW (X.out.step bb);have Y:=zW (Y.out.step bb);have Z:=zW (Z.out.step bb);clear hwd bb;repeat' (first
   |exact fun _ h=>absurd h j6
   |with_reducible refine List.forall_mem_cons.2 ⟨?_,?_⟩
   |with_reducible show cO _ _ _ _ 1 _ _ _
    refine nP zBG zBB ?_
    intro K7 hK
    refine mF (g:=18) (caps:=#[]) (args:=#[.agg (usc u)]) (.func 18) #[.tmp 43] _ rfl (enters_of Tryz.func18 zBM rfl) rfl zBL ?_
    refine(OF.out wn X.out.low).mono ?_
    rintro e wn ⟨z0,rfl,rz,bb,nz⟩
    try have Os9:=zW (iA nz UO.out (zD LE.out (zD L6.out BS9.out)) S9.out.lt)
    try have Of10:=zW (iA nz UO.out (zD LE.out (zD L6.out BF10.out)) F10.out.lt)
    have RZ:=zW rz
    clear rz nz
    try have X:=zW (X.out.step bb)
    try have Y:=zW (Y.out.step bb)
    try have Z:=zW (Z.out.step bb)
    try have S9:=zW (S9.out.step bb)
    try have F10:=zW (F10.out.step bb)
    have CB:=zW (CB.out.trans (bb.mono (zD L6.out CB.out.size)))
    clear bb
    refine⟨_,rfl,?_⟩
    refine hK _ _ ⟨⟨wn,CB.out⟩,rfl⟩ ?_
    clear hK K7
    simp only[Act.put,zQ,zZ,zJ]
   |with_reducible show cO _ _ _ _ 4 _ _ _
    refine nP zBG zBB ?_
    intro K7 hK
    refine mF (g:=19) (caps:=#[]) (args:=#[.agg B,.agg P]) (.func 19) #[.tmp 45,.tmp 46] _ rfl (enters_of Tryz.func19 zBM rfl) rfl zBL ?_
    refine(DE.out wn).mono ?_
    rintro e wn ⟨rfl,bb⟩
    try have X:=zW (X.out.step bb)
    try have Y:=zW (Y.out.step bb)
    try have Z:=zW (Z.out.step bb)
    try have RZ:=zW (RZ.out.step bb)
    try have S9:=zW (S9.out.step bb)
    try have F10:=zW (F10.out.step bb)
    have CB:=zW (CB.out.trans (bb.mono (zD L6.out CB.out.size)))
    clear bb
    refine⟨_,rfl,?_⟩
    refine hK _ _ ⟨⟨wn,CB.out⟩,rfl⟩ ?_
    clear hK K7
    simp only[Act.put,zQ,zZ,zJ]
   |with_reducible show cO _ _ _ _ 6 _ _ _
    refine nP zBG zBB ?_
    intro K7 hK
    refine mF (g:=21) (caps:=#[]) (args:=#[.agg (cst (mT a z0)),.agg I,.agg P]) (.func 21) #[.tmp 44,.tmp 47,.tmp 48] _ rfl (enters_of Tryz.func21 zBM rfl) rfl zBL ?_
    refine(RX.out z0 wn RZ.out).mono ?_
    rintro e wn ⟨z1,rfl,rz,bb,fz⟩
    try have Os9:=zW (Os9.out.fr fz (fun k hk=>(show k=s9 from hk)▸S9.out.lt) ((sN RZ.out).trans (sN rz).symm))
    try have Of10:=zW (Of10.out.fr fz (fun k hk=>(show k=f10 from hk)▸F10.out.lt) ((sN RZ.out).trans (sN rz).symm))
    clear RZ
    try have X:=zW (X.out.step bb)
    try have Y:=zW (Y.out.step bb)
    try have Z:=zW (Z.out.step bb)
    try have S9:=zW (S9.out.step bb)
    try have F10:=zW (F10.out.step bb)
    have CB:=zW (CB.out.trans (bb.mono (zD L6.out CB.out.size)))
    clear bb
    have RZ:=zW rz
    clear rz fz
    refine⟨_,rfl,?_⟩
    refine hK _ _ ⟨⟨wn,CB.out⟩,rfl⟩ ?_
    clear hK K7
    simp only[Act.put,zQ,zZ,zJ]
   |with_reducible show cO _ _ _ _ 10 _ _ _
    refine nP zBG zBB ?_
    intro K7 hK
    refine nF xI rfl ?_
    try have Os9:=zW (RZ.out.low.sub (O':=fun k=>k=wn.heap.size) fun k hk=>jT (show k=wn.heap.size from hk).symm)
    have bb:=mJ wn (.cells (cst vP) 43)
    have S9:=zW (Blk.new wn 43 (cst vP))
    have BS9:=zW (show w9.heap.size≤wn.heap.size from CB.out.size)
    try have X:=zW (X.out.step bb)
    try have Y:=zW (Y.out.step bb)
    try have Z:=zW (Z.out.step bb)
    try have RZ:=zW (RZ.out.step bb)
    try have F10:=zW (F10.out.step bb)
    have CB:=zW (CB.out.trans (bb.mono (zD L6.out CB.out.size)))
    obtain⟨s9,hs9⟩:∃q,wn.heap.size=q:=⟨_,rfl⟩
    rw[hs9]at S9 BS9⊢
    try rw[hs9]at Os9
    generalize World.alloc _ _=wn at*
    clear bb hs9
    refine hK _ _ ⟨⟨wn,CB.out⟩,rfl⟩ ?_
    clear hK K7
    simp only[Act.put,zQ,zZ,zJ]
   |with_reducible show cO _ _ _ _ 11 _ _ _
    refine nP zBG zBB ?_
    intro K7 hK
    refine nF oS rfl ?_
    try have Of10:=zW (RZ.out.low.sub (O':=fun k=>k=wn.heap.size) fun k hk=>jT (show k=wn.heap.size from hk).symm)
    have bb:=mJ wn (.cells (efc ⟨0,false,false,false⟩) 54)
    have F10:=zW (Blk.new wn 54 (efc ⟨0,false,false,false⟩))
    have BF10:=zW (show w9.heap.size≤wn.heap.size from CB.out.size)
    try have X:=zW (X.out.step bb)
    try have Y:=zW (Y.out.step bb)
    try have Z:=zW (Z.out.step bb)
    try have RZ:=zW (RZ.out.step bb)
    try have S9:=zW (S9.out.step bb)
    have CB:=zW (CB.out.trans (bb.mono (zD L6.out CB.out.size)))
    obtain⟨f10,hf10⟩:∃q,wn.heap.size=q:=⟨_,rfl⟩
    rw[hf10]at F10 BF10⊢
    try rw[hf10]at Of10
    generalize World.alloc _ _=wn at*
    clear bb hf10
    refine hK _ _ ⟨⟨wn,CB.out⟩,rfl⟩ ?_
    clear hK K7
    simp only[Act.put,zQ,zZ,zJ]
   |with_reducible show cO _ _ _ _ 12 _ _ _
    refine nP zBG zBB ?_
    intro K7 hK
    refine nH (ds:=cst (mT a2 z1)) mM S9.out (lC _) (lC _) (nZ _) (.tmp 9) (.tmp 50) rfl zBL zBL ?_
    have X:=zW (X.out.away (ds:=cst (mT a2 z1)) S9.out ⟨by decide,by decide,by decide⟩ (zD LE.out (zD L6.out BS9.out)))
    have Y:=zW (Y.out.away (ds:=cst (mT a2 z1)) S9.out ⟨by decide,by decide,by decide,by decide,by decide⟩ (zD L6.out BS9.out))
    have Z:=zW (Z.out.away (ds:=cst (mT a2 z1)) S9.out ⟨by decide,by decide,by decide,by decide,by decide⟩ (zD L9.out BS9.out))
    have CB:=zW (lU CB.out (zD L6.out BS9.out) (cst (mT a2 z1)))
    have RZ:=zW (RZ.out.st (ds:=cst (mT a2 z1)) Os9.out S9.out)
    have F10:=zW (F10.out.otherRow (xY F10.out S9.out zBH) (cst (mT a2 z1)))
    have S9:=zW (S9.out.store (cst (mT a2 z1)))
    refine hK _ _ ⟨⟨_,CB.out⟩,rfl⟩ ?_
    clear hK K7
   |with_reducible show cO _ _ _ _ 13 _ _ _
    refine nP zBG zBB ?_
    intro K7 hK
    refine nH (ds:=efc ef) sT F10.out rfl rfl (yT ef) (.tmp 10) (.tmp 51) rfl zBL zBL ?_
    have X:=zW (X.out.away (ds:=efc ef) F10.out ⟨by decide,by decide,by decide⟩ (zD LE.out (zD L6.out BF10.out)))
    have Y:=zW (Y.out.away (ds:=efc ef) F10.out ⟨by decide,by decide,by decide,by decide,by decide⟩ (zD L6.out BF10.out))
    have Z:=zW (Z.out.away (ds:=efc ef) F10.out ⟨by decide,by decide,by decide,by decide,by decide⟩ (zD L9.out BF10.out))
    have CB:=zW (lU CB.out (zD L6.out BF10.out) (efc ef))
    have RZ:=zW (RZ.out.ef (ds:=efc ef) Of10.out F10.out)
    have S9:=zW (S9.out.otherRow (xY S9.out F10.out zBH) (efc ef))
    have F10:=zW (F10.out.store (efc ef))
    refine hK _ _ ⟨⟨_,CB.out⟩,rfl⟩ ?_
    clear hK K7
   |with_reducible show uX _ _ _ _ _ _ _
    refine wA zBN ?_
    refine zM ?_
    exact⟨rfl,s9,f10,z0,z1,rfl,X.out,Y.out,Z.out,RZ.out,S9.out,F10.out⟩
   |with_reducible show uX _ _ _ _ _ _ _
    refine cI zBN ?_
    repeat(first
     |(refine l9 yL QU.out (n8 u) ?_ (.tmp 3) ?_ ?_ ?_;(focus rfl);(focus rfl);(focus(simp[Act.eval,Act.put];done));simp only[Act.put,zQ,zZ,zJ])
     |(refine l9 aD QB.out sB ?_ (.tmp 4) ?_ ?_ ?_;(focus rfl);(focus rfl);(focus(simp[Act.eval,Act.put];done));simp only[Act.put,zQ,zZ,zJ])
     |(refine l9 vI QQ.out sP ?_ (.tmp 5) ?_ ?_ ?_;(focus rfl);(focus rfl);(focus(simp[Act.eval,Act.put];done));simp only[Act.put,zQ,zZ,zJ])
     |go_big_quiet_step (rfl))
    refine zM ?_)
 rintro _ wx ⟨s9,f10,z0,z1,rfl,x8,yY,yZ,r8,s8,f8⟩;have X:=zW x8;have Y:=zW yY;have Z:=zW yZ;have RZ:=zW r8;have S9:=zW s8;have F10:=zW f8;clear x8 yY yZ r8 s8 f8;simp only[Act.put,zQ,zZ,zJ];go_upto_region 11 with fail;refine zN ?_;repeat(first|(refine mL yL X.out.u (n8 _) rfl (.tmp 3) rfl rfl ?_;simp only[Act.put,zQ,zZ,zJ])|go_step)
 refine(OF.out wx X.out.low).mono ?_;rintro e wa ⟨z2,rfl,r2,ba,_⟩;have R2:=zW r2;have X:=zW (X.out.step ba);have Y:=zW (Y.out.step ba);have Z:=zW (Z.out.step ba);have RZ:=zW (RZ.out.step ba);have S9:=zW (S9.out.step ba);clear ba r2;go_wp2_with fail;refine(wT N NN.out a z2 _ b m g v wa Y.out.rc.st Y.out.rc.mem Y.out.rc.rnd R2.out OB.out.o).mono ?_;rintro e wb ⟨rfl,bb⟩;have X:=zW (X.out.step bb);have Z:=zW (Z.out.step bb);have RZ:=zW (RZ.out.step bb);have S9:=zW (S9.out.step bb);clear bb;simp only[];go_at_K
 repeat(first|(refine mL mM S9.out (lC _) rfl (.tmp 9) rfl rfl ?_;simp only[Act.put,zQ,zZ,zJ])|go_step)
 refine(wT N NN.out a2 z1 _ b2 m2 g2 v' wb Z.out.rc.st Z.out.rc.mem Z.out.rc.rnd RZ.out OB2.out.o).mono ?_;rintro e wc ⟨rfl,bb⟩;have X:=zW (X.out.step bb);clear bb;go_wp2;go_ret;exact⟨rfl,X.out.low⟩
end
end Go.Proofs.YtcjldabaekbdlaaGreatDoor
