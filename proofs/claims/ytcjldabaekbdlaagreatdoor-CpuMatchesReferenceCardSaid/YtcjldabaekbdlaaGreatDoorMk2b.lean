/- ScrDraw, ScrDo, ScrLawD, ScrOne, DecLaw, DecRef, DecRef2. -/
import Derived.Test.YtcjldabaekbdlaaGreatDoorMk2a
set_option maxRecDepth 400000
set_option maxHeartbeats 64000000
set_option linter.unusedVariables false
set_option linter.unusedSimpArgs false
namespace Go.Proofs.YtcjldabaekbdlaaGreatDoor
section
open Go.RowKit Go.Shelf Num
theorem zLO(S:Sc)(x y:Nat)(clip:Bool)(A:Option Addr)(t c:Nat)(w:World):∃w1,w1=((((((w.alloc (.cells (lO S) 72)).alloc (.cells #[.int .i64 (x:Int)] 3)).alloc (.cells #[.int .i64 (y:Int)] 3)).alloc (.cells #[.bool clip] 4)).alloc (.cells #[.slice A t c] 22)).alloc (.cells (lO (m6 false 0)) 72))∧SB w.heap.size S w1∧Boxed w1 (w.heap.size+1) 3 (.int .i64 (x:Int))∧Boxed w1 (w.heap.size+2) 3 (.int .i64 (y:Int))∧Boxed w1 (w.heap.size+3) 4 (.bool clip)∧Boxed w1 (w.heap.size+4) 22 (.slice A t c)∧SB (w.heap.size+5) (m6 false 0) w1∧Below w.heap.size w w1∧w1.heap.size=w.heap.size+6:=by
 refine⟨_,rfl,?_,?_,?_,?_,?_,?_,?_,by simp⟩
 ·exact(((((SB.new w S).alloc _).alloc _).alloc _).alloc _).alloc _
 ·have h:=(((((kX (w.alloc (.cells (lO S) 72)) 3 (.int .i64 (x:Int))).alloc (.cells #[.int .i64 (y:Int)] 3)).alloc (.cells #[.bool clip] 4)).alloc (.cells #[.slice A t c] 22)).alloc (.cells (lO (m6 false 0)) 72));simpa using h
 ·have h:=((((kX ((w.alloc (.cells (lO S) 72)).alloc (.cells #[.int .i64 (x:Int)] 3)) 3 (.int .i64 (y:Int))).alloc (.cells #[.bool clip] 4)).alloc (.cells #[.slice A t c] 22)).alloc (.cells (lO (m6 false 0)) 72));simpa using h
 ·have h:=(((kX (((w.alloc (.cells (lO S) 72)).alloc (.cells #[.int .i64 (x:Int)] 3)).alloc (.cells #[.int .i64 (y:Int)] 3)) 4 (.bool clip)).alloc (.cells #[.slice A t c] 22)).alloc (.cells (lO (m6 false 0)) 72));simpa using h
 ·have h:=((kX ((((w.alloc (.cells (lO S) 72)).alloc (.cells #[.int .i64 (x:Int)] 3)).alloc (.cells #[.int .i64 (y:Int)] 3)).alloc (.cells #[.bool clip] 4)) 22 (.slice A t c)).alloc (.cells (lO (m6 false 0)) 72));simpa using h
 ·have h:=SB.new (((((w.alloc (.cells (lO S) 72)).alloc (.cells #[.int .i64 (x:Int)] 3)).alloc (.cells #[.int .i64 (y:Int)] 3)).alloc (.cells #[.bool clip] 4)).alloc (.cells #[.slice A t c] 22)) (m6 false 0);simpa using h
 ·exact((((((zB _ w).alloc (zH _) _).alloc zBT _).alloc zBS _).alloc zBS _).alloc zBS _).alloc zBS _
theorem zWC(r z m h k:Nat)(w1:World)(hk:w1.heap.size=k):∃w2,w2=(((((w1.alloc (.cells #[.int .i64 (r:Int)] 3)).alloc (.cells #[.int .i64 (z:Int)] 3)).alloc (.cells #[.int .i64 (m:Int)] 3)).alloc (.cells #[.int .i64 (h:Int)] 3)).alloc (.cells #[.bool false] 4))∧Boxed w2 k 3 (.int .i64 (r:Int))∧Boxed w2 (k+1) 3 (.int .i64 (z:Int))∧Boxed w2 (k+2) 3 (.int .i64 (m:Int))∧Boxed w2 (k+3) 3 (.int .i64 (h:Int))∧Boxed w2 (k+4) 4 (.bool false)∧Below w1.heap.size w1 w2∧w2.heap.size=k+5:=by
 subst hk;refine⟨_,rfl,?_,?_,?_,?_,?_,?_,by simp⟩
 ·have h:=(((((kX w1 3 (.int .i64 (r:Int))).alloc (.cells #[.int .i64 (z:Int)] 3)).alloc (.cells #[.int .i64 (m:Int)] 3)).alloc (.cells #[.int .i64 (h:Int)] 3)).alloc (.cells #[.bool false] 4));simpa using h
 ·have h:=((((kX (w1.alloc (.cells #[.int .i64 (r:Int)] 3)) 3 (.int .i64 (z:Int))).alloc (.cells #[.int .i64 (m:Int)] 3)).alloc (.cells #[.int .i64 (h:Int)] 3)).alloc (.cells #[.bool false] 4));simpa using h
 ·have h:=(((kX ((w1.alloc (.cells #[.int .i64 (r:Int)] 3)).alloc (.cells #[.int .i64 (z:Int)] 3)) 3 (.int .i64 (m:Int))).alloc (.cells #[.int .i64 (h:Int)] 3)).alloc (.cells #[.bool false] 4));simpa using h
 ·have h:=((kX (((w1.alloc (.cells #[.int .i64 (r:Int)] 3)).alloc (.cells #[.int .i64 (z:Int)] 3)).alloc (.cells #[.int .i64 (m:Int)] 3)) 3 (.int .i64 (h:Int))).alloc (.cells #[.bool false] 4));simpa using h
 ·have h:=(kX ((((w1.alloc (.cells #[.int .i64 (r:Int)] 3)).alloc (.cells #[.int .i64 (z:Int)] 3)).alloc (.cells #[.int .i64 (m:Int)] 3)).alloc (.cells #[.int .i64 (h:Int)] 3)) 4 (.bool false));simpa using h
 ·exact(((((zB _ w1).alloc (zH _) _).alloc zBT _).alloc zBS _).alloc zBS _).alloc zBS _
structure DrW(b1 b2:Nat)(Z:Sc)(cv:Bool) where
 w:World
 s:SB b1 Z w
 c:Boxed w b2 4 (.bool cv)
theorem rC{w w':World}{b n:Nat}{t:TypeId}{v:Value}(h:Boxed w b t v)(hb:Below n w w')(hn:b<n):Boxed w' b t v:=(hb.block b hn).trans h
theorem DrG.below{D:DrD}{s0 n:Nat}{ps:List Pl}{w w':World}(G:DrG D s0 ps w)(hb:Below n w w')(hs:s0+10<n)(hg:0<D.N*(D.r*D.z)→D.g<n):DrG D s0 ps w':=by
 obtain⟨A,c,d1,d2,d3,d4⟩:=G.data;have b:=G.b;refine⟨⟨rC b.rows hb zBY,rC b.size hb zBY,rC b.x hb zBY,rC b.y hb zBY,rC b.wd hb zBY,rC b.ht hb zBY,rC b.clip hb zBY,b.s.below hb zBY⟩,⟨A,c,rC d1 hb zBY,d2,d3,fun hn=>?_⟩,rC G.coll hb zBY⟩;obtain⟨h1,h2,h3⟩:=d4 hn;have hp:0<D.N*(D.r*D.z):=zS hn (Nat.mul_le_mul_right _ (Nat.sub_le _ _));have hgn:=hg hp;exact⟨h1,zS h2 hb.size,fun j hj=>(hb.cell (p:=⟨D.g,_,none⟩) hgn).trans (h3 j hj)⟩
theorem zJR(D:DrD)(ok:zGA D)(M n:Nat)(big:Bool)(hM:D.S.M=(M:Int))(M1:M≤10000)(hN:D.N=(cK M 4).length)(hr:(if big then 16 else n)=D.r)(hzz:(if big then 2 else 1)=D.z)(A:Option Addr)(t c:Nat)(ht:D.N*(D.r*D.z)=t)(hc:t≤c)(c1:c≤1000)(w:World)(hD:wO D.g D.o D.F t A w):
  Calls Tryz.prog 203 #[.agg (lO D.S),.int .i64 (D.x:Int),.int .i64 (D.y:Int),.int .i64 (n:Int),.bool big,.bool D.clip,.slice A t c] w fun e w'=>
   e=.returned (.tuple #[.agg (lO (wC (fun i p=>bT p (D.sp (cK M i).length)) M D.S)),.bool (D.coll 0 ((cK M 4).map fun i=>D.S.P i.val))])∧Below w.heap.size w w':=by
 have hz:=wH;obtain⟨Z,hZ⟩:∃Z,wC (fun i p=>bT p (D.sp (cK M i).length)) M D.S=Z:=⟨_,rfl⟩;obtain⟨cv,hcv⟩:∃cv,D.coll 0 ((cK M 4).map fun i=>D.S.P i.val)=cv:=⟨_,rfl⟩;rw[hZ,hcv];have RC:=zW ((a8 (fun k p=>bT p (D.sp k)) D.S M).trans (by rw[hZ]));have PC:=zW (show D.coll 0 (rF (fun k p=>bT p (D.sp k)) 0 D.S (cK M 4))=cv by rw[IP _ _ _ _ zBY,hcv]);have CH:=zW fun(s0:Nat) (w:World) (l1:s0+10<w.heap.size) (lg:0<D.N*(D.r*D.z)→D.g<w.heap.size) (H:DrG D s0 [] w)=>iK M (g:=234) (caps:=#[.pointer (some ⟨s0+6,0,none⟩),.pointer (some ⟨s0+7,0,none⟩),.pointer (some ⟨s0+4,0,none⟩),.pointer (some ⟨s0+1,0,none⟩),.pointer (some ⟨s0+8,0,none⟩),.pointer (some ⟨s0+2,0,none⟩),.pointer (some ⟨s0+9,0,none⟩),.pointer (some ⟨s0,0,none⟩),.pointer (some ⟨s0+3,0,none⟩),.pointer (some ⟨s0+10,0,none⟩)]) (enters_of Tryz.func234 zBM rfl) (fun k p=>bT p (D.sp k)) (DrT s0) (fun ps W=>DrG D s0 ps W∧∀j,j<w.heap.size→j<W.heap.size) w (fun k h=>by rcases h with h|h<;>omega)
  (fun _ W W' G b=>⟨G.1.below b l1 lg,fun j hj=>zS (G.2 j hj) b.size⟩)
  (fun ps p W hn G _=>(zJT D ok s0 ps (by rw[hN];exact hn) p W G.1).mono fun e W' h=>⟨h.1,⟨h.2.1,fun j hj=>zS (G.2 j hj) h.2.2.size⟩,h.2.2⟩) D.S hM M1 ⟨H,fun j hj=>hj⟩
 clear hZ hcv;obtain⟨w1,hw1,S0,X0,Y0,C0,D0,R0,B0,Z0⟩:=zLO D.S D.x D.y D.clip A t c w;have L1:=zW (zY S0 (zY X0 (zY Y0 (zY C0 (zY D0 (zY R0 (zY B0 Z0)))))));have HW:=zW hw1;obtain⟨r,hrr⟩:∃r,D.r=r:=⟨_,rfl⟩;obtain⟨z,hz2⟩:∃z,D.z=z:=⟨_,rfl⟩;obtain⟨x,hx⟩:∃x,D.x=x:=⟨_,rfl⟩;obtain⟨y,hy⟩:∃y,D.y=y:=⟨_,rfl⟩;obtain⟨m,hm⟩:∃m,D.m=m:=⟨_,rfl⟩;obtain⟨h,hh⟩:∃h,D.h=h:=⟨_,rfl⟩;obtain⟨hi,hhi⟩:∃hi,D.S.hi=hi:=⟨_,rfl⟩;obtain⟨cl,hcl⟩:∃cl,D.clip=cl:=⟨_,rfl⟩;have VV:=zW (zY hrr (zY hz2 (zY hx (zY hy (zY hm (zY hh (zY hhi hcl)))))));have SH:=zW fun w=>NU n big w;rw[hr,hzz,hrr,hz2]at SH;have res:=ok.res;rw[hm,hh,hhi]at res;have SZ:=zW fun w=>KQ res w;have TT:=zW (zY hN (zY ht (zY hc (zY c1 hD))));rw[hx,hy,hcl];rw[hx,hy,hcl]at hw1;clear hrr hz2 hx hy hm hh hcl hr hzz res S0 X0 Y0 C0 D0 R0 B0 Z0 hN ht hc c1 hD hM ok;go_enter Tryz.func203,Tryz.ntmps203;go_wp2_with fail;rw[←hw1];clear hz hw1;simp only[qS,Nat.reduceAdd];refine(SH.out _).mono ?_;rintro e w' ⟨rfl,rfl⟩;have k512:=L1.out.1.hires;rw[hhi]at k512;have l0:=L1.out.1.lt;have Z0:=L1.out.2.2.2.2.2.2.2;go_wp2_with fail;simp only[qS,Nat.reduceAdd];refine(SZ.out _).mono ?_;rintro e w' ⟨rfl,rfl⟩;go_upto_region 4 with fail;simp only[qS,Nat.reduceAdd];obtain⟨w2,hw2,r2,z2,m2,h2,f2,b2,n2⟩:=zWC r z m h (w.heap.size+6) w1 Z0;rw[←hw2];clear hw2 k512 l0;have G2:=zW (show DrG D w.heap.size [] w2 from by
  obtain⟨l1,l2,l3,l4,l5,l6,l7,l8⟩:=L1.out;obtain⟨v1,v2,v3,v4,v5,v6,v7,v8⟩:=VV.out;obtain⟨t1,t2,t3,t4,t5⟩:=TT.out;refine⟨⟨by rw[v1];exact r2,by rw[v2];exact z2,vR l2 b2,vR l3 b2,by rw[v5];exact m2,by rw[v6];exact h2,vR l4 b2,l1.step b2⟩,⟨A,c,?_,?_,t4,?_⟩,f2⟩
  ·simp only[kQ,Nat.sub_zero];rw[t2];exact vR l5 b2
  ·simp only[kQ,Nat.sub_zero];omega
  ·simp only[kQ,Nat.sub_zero,Nat.zero_mul,qB,Nat.add_zero];rw[t2];exact(t5.step l7).step b2)
 have S2:=zW (L1.out.1.step b2)
 have R2:=zW (L1.out.2.2.2.2.2.1.step b2);have B2:=zW (L1.out.2.2.2.2.2.2.1.trans (b2.mono L1.out.2.2.2.2.2.2.1.size));have lg:=zW (show 0<D.N*(D.r*D.z)→D.g<w2.heap.size from fun h0=>by
  have:=(TT.out.2.2.2.2 (by rw[←TT.out.2.1];exact h0)).2.1;omega)
 clear r2 z2 m2 h2 f2 b2;refine zN ?_;refine lP yQ S2.out (mV _) rfl (.tmp 7) rfl zBR ?_;simp only[Act.put,zQ,zZ,zJ];iterate 3 go_step
 refine qL rfl fun K hK=>?_;refine mF (g:=229) (caps:=#[]) (args:=#[.agg (lO D.S),.func (.func 234) #[] #[.pointer (some ⟨w.heap.size+6,0,none⟩),.pointer (some ⟨w.heap.size+7,0,none⟩),.pointer (some ⟨w.heap.size+4,0,none⟩),.pointer (some ⟨w.heap.size+1,0,none⟩),.pointer (some ⟨w.heap.size+8,0,none⟩),.pointer (some ⟨w.heap.size+2,0,none⟩),.pointer (some ⟨w.heap.size+9,0,none⟩),.pointer (some ⟨w.heap.size,0,none⟩),.pointer (some ⟨w.heap.size+3,0,none⟩),.pointer (some ⟨w.heap.size+10,0,none⟩)]]) (.func 229) #[.tmp 34,.tmp 35] #[72,322] rfl (enters_of Tryz.func229 zBM rfl) rfl zBR ?_;refine(CH.out w.heap.size w2 (by rw[n2];omega) lg.out G2.out).mono ?_;rintro e w3 ⟨rfl,⟨g3,-⟩,b3⟩;have R3:=zW (show SB (w.heap.size+5) (m6 false 0) w3 from Blk.but R2.out b3 (by unfold DrT;omega));have B3:=zW (show Below w.heap.size w w3 from B2.out.trans (b3.below zBY (fun k hk=>by rcases hk with h|h<;>omega)));have C3:=zW (show Boxed w3 (w.heap.size+10) 4 (.bool cv)from by have h:=g3.coll;rw[PC.out]at h;exact h);refine⟨_,rfl,hK _ _ ?_⟩;clear hK K b3 g3 G2 S2 R2 B2 lg;rw[RC.out];simp only[Act.put,zQ,zZ,zJ];have n3:w.heap.size+10<w3.heap.size:=C3.out.lt;refine nY (ds:=lO Z) yQ YD (mV _) (mV _) (vE _) rfl rfl rfl (.tmp 21) (.tmp 36) rfl zBL zBL ?_;simp only[Act.put,zQ,zZ,zJ];have V4:=zW (SB.new w3 Z);have R4:=zW (R3.out.alloc (.cells (lO Z) 72));have B4:=zW (B3.out.alloc B3.out.size (.cells (lO Z) 72));have C4:=zW (C3.out.alloc (.cells (lO Z) 72));generalize w3.alloc (.cells (lO Z) 72)=w4 at*;clear R3 B3 C3;go_upto_region 5 with fail;have kc:∀u:DrW w3.heap.size (w.heap.size+10) Z cv,u.w.cell? ⟨w.heap.size+10,0,none⟩=some (.bool cv):=fun u=>u.c.cell;have kp:=zW (fun(w':World) (hw:∃u:DrW w3.heap.size (w.heap.size+10) Z cv,w'=u.w)=>show Blk w3.heap.size 72 (lO Z) w' by obtain⟨u,rfl⟩:=hw;exact u.s);refine nR (C:=fun w'=>∃u:DrW w3.heap.size (w.heap.size+10) Z cv,w'=u.w) [([0,1],2)] [3] zBM zBM (fun _ _ d _ _ h=>by cases d<;>exact h) ⟨⟨w4.drew,V4.out.drew,C4.out⟩,rfl⟩ ?_;intro wd hwd;have bd:=zW (show Below w4.heap.size w4 wd by rw[hwd];exact(zB _ _).drew);clear hwd;refine nD zBN zBG ?_;refine l9 yQ kp.out (mV _) rfl (.tmp 21) rfl zBR ?_;simp only[Act.put,zQ,zZ,zJ];repeat(go_big_quiet_step (rfl))
 refine zM ?_;refine nK zBB ?_;intro K hK;refine nH (ds:=lO Z) yQ (R4.out.step bd.out) (mV _) (mV _) (vE _) (.tmp 14) (.tmp 37) rfl zBL zBL ?_;have R6:=zW ((R4.out.step bd.out).store Z);have B6:=zW (yW (B4.out.trans (bd.out.mono B4.out.size)) (by omega:w.heap.size≤w.heap.size+5) (lO Z));have D6:∃u:DrW w3.heap.size (w.heap.size+10) Z cv,wd.setRow (w.heap.size+5) (lO Z)=u.w:=⟨⟨_,(V4.out.step bd.out).otherRow zBY _,rE (vR C4.out bd.out) zBY _⟩,rfl⟩;generalize wd.setRow (w.heap.size+5) (lO Z)=w6 at*;refine hK _ _ D6 ?_;clear hK K D6 V4 R4 B4 C4 kp kc bd;simp only[Act.put,zQ,zZ,zJ];refine cT zBN ?_;repeat(go_big_quiet_step (rfl))
 refine zM ?_;iterate 3 go_step
 exact zT (tY rfl _ _ (w.heap.size+5) _ _ _ _ (.bool cv) rfl rfl R6.out Tryz.underlying72 rfl zTH) rfl ⟨rfl,B6.out⟩
structure Stp where
 k:Int
 m:Int
 hires:Bool
 x:Int
 y:Int
 n:Int
 big:Bool
 clip:Bool
 A:Option Addr
 len:Nat
 cap:Nat
def InI(x:Int):Prop:= -9223372036854775808≤x∧x≤9223372036854775807
structure zY9(q:Stp)(L:List Nat)(w:World):Prop where
 k:InI q.k
 m:InI q.m
 x:InI q.x
 y:InI q.y
 n:InI q.n
 rd:Rd8 w q.A L
 len:L.length=q.len
 max:q.len≤maxLen
 le:∀b∈L,b≤255
theorem zY9.step{x:Stp}{L:List Nat}{w w':World}(h:zY9 x L w)(hb:Below w.heap.size w w'):zY9 x L w':=⟨h.k,h.m,h.x,h.y,h.n,h.rd.step hb,h.len,h.max,h.le⟩
def wid(hires:Bool):Nat:=if hires then 128 else 64
def hei(hires:Bool):Nat:=if hires then 64 else 32
theorem res_of(hires:Bool):Res hires (wid hires) (hei hires):=by
 cases hires
 ·exact .inr ⟨rfl,rfl,rfl⟩
 ·exact .inl ⟨rfl,rfl,rfl⟩
def mkD(F:Nat→Nat)(S:Sc)(M n:Nat)(big clip:Bool)(x y g o:Nat):DrD:=
 ⟨g,o,F,(cK M 4).length,if big then 16 else n,if big then 2 else 1,x,y,wid S.hi,hei S.hi,clip,S⟩
theorem mkD_ok(F:Nat→Nat)(hF:∀j,F j≤255)(S:Sc)(M n:Nat)(hn:n≤16)(big clip:Bool)(x y g o:Nat)(hx:x≤1000)(hy:y≤1000):zGA (mkD F S M n big clip x y g o):=
 ⟨by unfold mkD;simp only;split<;>omega,by unfold mkD;simp only;cases big<;>simp,hF,by unfold mkD;exact NI M 4,hx,hy,res_of S.hi⟩
def drS(D:DrD)(M:Nat):Sc:=wC (fun i p=>bT p (D.sp (cK M i).length)) M D.S
def coS(D:DrD)(M:Nat):Bool:=D.coll 0 ((cK M 4).map fun i=>D.S.P i.val)
theorem EO(F:Nat→Nat)(S:Sc)(M n:Nat)(big clip:Bool)(x y g o g' o':Nat):∀(ps:List Pl) (k:Nat),(mkD F S M n big clip x y g o).coll k ps=(mkD F S M n big clip x y g' o').coll k ps
 |[],k=>rfl
 |p::ps,k=>by rw[DrD.coll,DrD.coll,EO F S M n big clip x y g o g' o' ps];rfl
theorem zHU(F:Nat→Nat)(S:Sc)(M n:Nat)(big clip:Bool)(x y g o g' o':Nat):coS (mkD F S M n big clip x y g o) M=coS (mkD F S M n big clip x y g' o') M:=EO _ _ _ _ _ _ _ _ _ _ _ _ _ _
theorem GX(M n:Nat)(big:Bool)(hn:n≤32):xJ M n big 4≤128:=JG M n big hn 4
def drZ(F:Nat→Nat)(S:Sc)(M n:Nat)(big clip:Bool)(x y:Nat):Sc:=drS (mkD F S M n big clip x y 0 0) M
def coZ(F:Nat→Nat)(S:Sc)(M n:Nat)(big clip:Bool)(x y:Nat):Bool:=coS (mkD F S M n big clip x y 0 0) M
theorem drawM(S:Sc)(M n:Nat)(hM:S.M=(M:Int))(M1:M≤15)(n1:n≤15)(big clip:Bool)(x y:Nat)(x1:x≤255)(y1:y≤255)(F:Nat→Nat)(hF:∀j,F j≤255)(g o nd:Nat)(A:Option Addr)(c:Nat)(hnd:xJ M n big 4=nd)(hc:nd≤c)(c1:c≤1000)(w:World)(hD:wO g o F nd A w):
  Calls Tryz.prog 203 #[.agg (lO S),.int .i64 (x:Int),.int .i64 (y:Int),.int .i64 (n:Int),.bool big,.bool clip,.slice A nd c] w fun e w'=>
   e=.returned (.tuple #[.agg (lO (drZ F S M n big clip x y)),.bool (coZ F S M n big clip x y)])∧Below w.heap.size w w':=by
 have hl:(cK M 4).length*((if big then 16 else n)*(if big then 2 else 1))=nd:=by rw[←hnd,LH M n big 4 zBY,ZV]
 have h:=zJR (mkD F S M n big clip x y g o) (mkD_ok _ hF S M n zBY big clip x y g o zBY zBY) M n big hM zBY rfl rfl rfl A nd c hl hc c1 w hD;refine h.mono fun e w' ⟨he,hb⟩=>⟨he.trans ?_,hb⟩;have e2:=zHU F S M n big clip x y g o 0 0;unfold coS at e2;unfold drZ coZ drS coS;rw[e2];rfl
theorem drZ_hi(F:Nat→Nat)(S:Sc)(M n:Nat)(big clip:Bool)(x y:Nat):(drZ F S M n big clip x y).hi=S.hi:=rfl
def spZ(F:Nat→Nat)(S:Sc)(M n:Nat)(big clip:Bool)(x y k:Nat):Pl:=(mkD F S M n big clip x y 0 0).sp k
theorem drZ_P(F:Nat→Nat)(S:Sc)(M n:Nat)(big clip:Bool)(x y i:Nat):(drZ F S M n big clip x y).P i=if onB M i then bT (S.P i) (spZ F S M n big clip x y (cK M i).length)else S.P i:=rfl
end
section
open Go.RowKit Num
section
variable (F:Nat→Nat) (S:Sc) (m n:Nat) (big clip:Bool) (x y:Nat)
def uTo(j:Nat):Nat→Pl:=fun i=>if i<j∧onB m i=true then bT (S.P i) (spZ F S m n big clip x y (cK m i).length)else S.P i
def zYC(j:Nat):Bool:=(mkD F S m n big clip x y 0 0).coll 0 ((cK m j).map fun i=>S.P i.val)
theorem zZI:(∀i,i<4→S.P i=uTo F S m n big clip x y 0 i)∧zYC F S m n big clip x y 0=false:=by
 constructor
 ·intro i hi;unfold uTo;rw[zL zBY]
 ·unfold zYC;rw[tX];rfl
end
theorem XM(m n:Nat)(big:Bool){k k':Nat}(h:k≤k'):xJ m n big k≤xJ m n big k':=by
 induction k' with
 |zero=>rw[show k=0 by omega];exact zH _
 |succ i ih=>
  rcases kH i k with e|e
  ·rw[show k=i+1 by omega];exact zH _
  ·exact zD (ih e) (by rw[xJ];omega)
theorem ZL(m n:Nat)(big:Bool)(j:Nat)(hon:onB m j=true):xJ m n big (j+1)=xJ m n big j+per n big:=by rw[xJ,zG hon]
theorem zZ1(m n:Nat)(big:Bool)(j:Nat)(hoff:onB m j=false):xJ m n big (j+1)=xJ m n big j:=by rw[xJ,hoff];simp
structure Dat(g n:Nat)(F:Nat→Nat)(w:World):Prop where
 lt:g<w.heap.size
 at_:∀j,j<n→w.cell? ⟨g,j,none⟩=some (.int .u8 (F j:Int))
theorem Dat.step{g n:Nat}{F:Nat→Nat}{w w':World}(h:Dat g n F w)(hb:Below w.heap.size w w'):Dat g n F w':=⟨zS h.lt hb.size,fun j hj=>(hb.cell (p:=⟨g,j,none⟩) h.lt).trans (h.at_ j hj)⟩
theorem Dat.otherRow{g n:Nat}{F:Nat→Nat}{w:World}(h:Dat g n F w){b:Nat}(hb:g≠b)(cs:Array Value):Dat g n F (w.setRow b cs):=
 ⟨by have:=h.lt;simpa [World.setRow]using this,fun j hj=>by
  have e:=zA w b g cs hb;have:=h.at_ j hj;unfold World.cell? at*;simp only at*;rw[e];exact this⟩
theorem Dat.all{g n:Nat}{F:Nat→Nat}{w:World}(h:Dat g n F w):wO g 0 F n (some ⟨g,0,none⟩) w:=fun _=>⟨rfl,h.lt,fun j hj=>by rw[qB];exact h.at_ j hj⟩
def cutA(g n fr:Nat):Option Addr:=if n=fr then some ⟨g,0,none⟩else some ⟨g,fr,none⟩
theorem Dat.cut{g n:Nat}{F:Nat→Nat}{w:World}(h:Dat g n F w){fr k:Nat}(hk:fr+k≤n):wO g fr (fun j=>F (fr+j)) k (cutA g n fr) w:=fun h0=>by
 unfold cutA;rw[zL zBY];exact⟨rfl,h.lt,fun j hj=>h.at_ _ zBY⟩
end
section
namespace Dec
theorem decNo{b0 b1 b2 b3:Nat}{l:Int}(h:ok b0 b1 l=false):dec b0 b1 b2 b3 l=⟨0,0,0,0,0,0,skl b0 b1 l⟩:=by
 unfold dec;rw[h];rfl
theorem zW3{b0 b1 b2 b3:Nat}{l:Int}(h:ok b0 b1 l=true){r:Rl}(hr:top (b0*256+b1)=r):dec b0 b1 b2 b3 l=⟨r.op,pX r.pk (dx b0:Nat),pY r.pk (b1/16:Nat),pN r.pk (dx b0:Nat) (b1%16:Nat),pNN r.pk (b1:Nat),pA r.pk (dx b0*256+b1:Nat) (b2*256+b3:Nat),skl b0 b1 l⟩:=by
 unfold dec;rw[h,hr];rfl
theorem zVC{b0 b1:Nat}{l:Int}(h:ok b0 b1 l=true):(top (b0*256+b1)).op≠0:=by
 unfold ok at h;intro e;rw[e]at h;cases h
theorem zVA{b0 b1:Nat}{l:Int}(h:ok b0 b1 l=true):((top (b0*256+b1)).level:Int)≤l∧l≤3:=by
 have k:=eK (b0*256+b1);have ho:=zVC h;unfold ok at h;generalize top (b0*256+b1)=r at*;obtain⟨_,_,_,_,_,_,_,hr,hf⟩:=k;rw[qK]at h;have h2:=h.2;unfold alw at h2;by_cases hc:r.op=43∨r.op=44
 ·rw[show(r.op==43||r.op==44)=true by simpa using hc]at h2;have h3:=qZ (show UI l (dx b0:Nat)=true from h2);have:=(hf hc).2;omega
 ·rw[show(r.op==43||r.op==44)=false by simpa using hc]at h2;rw[show(bif false then UI l (dx b0:Nat)else(decide ((r.level:Int)≤l)&&decide (l≤3)))=(decide ((r.level:Int)≤l)&&decide (l≤3))from rfl,qK]at h2;exact⟨qZ h2.1,qZ h2.2⟩
theorem zMD{b0 b1:Nat}{l m:Int}(h:ok b0 b1 l=true)(hm:l≤m)(h3:m≤3):ok b0 b1 m=true:=by
 have k:=eK (b0*256+b1);have ho:=zVC h;unfold ok at h⊢;generalize top (b0*256+b1)=r at*;rw[qK]at h⊢;refine⟨h.1,?_⟩;have h2:=h.2;have hd:dx b0<16:=by unfold dx;omega
 unfold alw at h2⊢;by_cases hc:r.op=43∨r.op=44
 ·rw[show(r.op==43||r.op==44)=true by simpa using hc]at h2⊢;have h4:=qZ (show UI l (dx b0:Nat)=true from h2);show UI m (dx b0:Nat)=true;unfold UI;exact zO zBY
 ·rw[show(r.op==43||r.op==44)=false by simpa using hc]at h2⊢;rw[show(bif false then UI l (dx b0:Nat)else(decide ((r.level:Int)≤l)&&decide (l≤3)))=(decide ((r.level:Int)≤l)&&decide (l≤3))from rfl,qK]at h2;have h4:=qZ h2.1;show(decide ((r.level:Int)≤m)&&decide (m≤3))=true;rw[zO zBY,zO h3];rfl
theorem X3(b0 b1 b2 b3:Nat)(l:Int)(h0:b0<256)(h1:b1<256):(ok b0 b1 l=false∧dec b0 b1 b2 b3 l=⟨0,0,0,0,0,0,2⟩∧skl b0 b1 l=2)∨
  (ok b0 b1 l=true∧∃r:Rl,top (b0*256+b1)=r∧fK r∧r.op≠0∧skl b0 b1 l=(if r.op=48 then 4 else 2)∧dec b0 b1 b2 b3 l=⟨r.op,pX r.pk (dx b0:Nat),pY r.pk (b1/16:Nat),pN r.pk (dx b0:Nat) (b1%16:Nat),pNN r.pk (b1:Nat),pA r.pk (dx b0*256+b1:Nat) (b2*256+b3:Nat),if r.op=48 then 4 else 2⟩):=by
 cases hk:ok b0 b1 l
 ·left
  have s:=oO h0 h1 hk;exact⟨rfl,by rw[decNo hk,s],s⟩
 ·right
  have s:=rN h0 h1 hk;exact⟨rfl,_,rfl,eK _,zVC hk,s,by rw[zW3 hk rfl,s]⟩
theorem zJS(b0 b1 b2 b3:Nat)(l:Int)(h0:b0<256)(h1:b1<256)(h2:b2<256)(h3:b3<256){i:Ins}(hi:dec b0 b1 b2 b3 l=i):
  (0≤i.op∧i.op≤51)∧(0≤i.x∧i.x≤15)∧(0≤i.y∧i.y≤15)∧(0≤i.n∧i.n≤15)∧(0≤i.nn∧i.nn≤255)∧(0≤i.addr∧i.addr≤65535):=by
 subst hi;rcases X3 b0 b1 b2 b3 l h0 h1 with⟨k,e,s⟩|⟨k,r,hr,kr,ho,s,e⟩
 ·rw[e];simp only;omega
 ·rw[e];have hop:r.op≤51:=by
   obtain⟨_,_,_,_,_,_,_,hr,_⟩:=kr;rcases hr with hr|hr
   ·omega
   ·exact hr.2.2.2.1
  have hd:dx b0<16:=by unfold dx;omega
  simp only;generalize r.pk=p;refine⟨by omega,?_,?_,?_,?_,?_⟩
  all_goals (cases p<;>simp only[pX,pY,pN,pNN,pA]<;>omega)
theorem fI(b0 b1 b2 b3:Nat)(l:Int)(h0:b0<256)(h1:b1<256)(hl:1≤l∧l≤3):
  (dec b0 b1 b2 b3 l=⟨0,0,0,0,0,0,2⟩)∨((dec b0 b1 b2 b3 l).op≠0∧(∀m:Int,l≤m→m≤3→dec b0 b1 b2 b3 m=dec b0 b1 b2 b3 l)∧1≤lv (dec b0 b1 b2 b3 l).op∧lv (dec b0 b1 b2 b3 l).op≤l∧(((dec b0 b1 b2 b3 l).op=48∧(dec b0 b1 b2 b3 l).len=4)∨(¬(dec b0 b1 b2 b3 l).op=48∧(dec b0 b1 b2 b3 l).len=2))):=by
 rcases X3 b0 b1 b2 b3 l h0 h1 with⟨k,e,s⟩|⟨k,r,hr,kr,ho,s,e⟩
 ·exact .inl e
 ·right
  have hlv:=zVA k;rw[hr]at hlv;have hrr:lv r.op=r.level∧1≤r.level:=by
   obtain⟨_,_,_,_,_,_,_,hr,_⟩:=kr;rcases hr with hr|hr
   ·omega
   ·exact⟨hr.2.2.2.2,hr.2.1⟩
  refine⟨by rw[e];simp only;omega,fun m hm h3=>?_,by rw[e];simp only;omega,by rw[e];simp only;omega,?_⟩
  ·have km:=zMD k hm h3;have sm:=rN h0 h1 km;rw[hr]at sm;rw[e,zW3 km hr,sm]
  ·rw[e];by_cases h48:r.op=48
   ·left
    simp only;rw[zG h48];exact⟨by omega,rfl⟩
   ·right
    simp only;rw[zL h48];exact⟨by omega,rfl⟩
end Dec
end
section
open Go.RowKit Num Dec
def fv(hd x y n nn nnn:Nat):Value:=.agg #[.int .i64 (hd:Int),.int .i64 (x:Int),.int .i64 (y:Int),.int .i64 (n:Int),.int .i64 (nn:Int),.int .i64 (nnn:Int)]
theorem zWA(n:Nat)(w:World):Calls Tryz.prog 163 #[.int .i64 (n:Int)] w fun e w'=>e=.returned (.int .i64 (XP n:Nat))∧w=w':=by
 go_enter Tryz.func163,Tryz.ntmps163;go_wp2
 all_goals
  go_ret
  refine⟨?_,rfl⟩
  simp only[beq_iff_eq,beq_eq_false_iff_ne,ne_eq]at*
  unfold XP
  exact uA (by
   repeat' split
   all_goals omega)
theorem zJG(n:Nat)(w:World)(h:n≤15):Calls Tryz.prog 164 #[.int .i64 (n:Int)] w fun e w'=>e=.returned (.int .i64 (ZR n:Nat))∧w=w':=by
 go_enter Tryz.func164,Tryz.ntmps164;go_wp2
 all_goals
  go_ret
  refine⟨?_,rfl⟩
  simp only[beq_iff_eq,beq_eq_false_iff_ne,ne_eq]at*
  unfold ZR
  exact uA (by
   repeat' split
   all_goals omega)
theorem BC(hd x y n nn nnn:Nat)(w:World):Calls Tryz.prog 165 #[fv hd x y n nn nnn] w fun e w'=>e=.returned (.int .i64 (vH x nn:Nat))∧Below w.heap.size w w':=by
 unfold fv;by_cases k0:nn=0
 ·have hc:(nn:Int)=0:=zBY;by_cases hx:x=0
  ·have E:=zW (show vH x nn=_ by rw[k0,hx]);rw[hc,show(x:Int)=0 by omega];clear hc k0 hx;exact zF9
  ·have E:=zW (show vH x nn=0 by rw[k0];simp[vH,hx]);have hx':((x:Int)==0)=false:=by simp;omega
   rw[hc];clear hc k0 hx;exact zF9
 by_cases k1:nn=1
 ·have hc:(nn:Int)=1:=zBY;have E:=zW (show vH x nn=_ by rw[k1]);rw[hc];clear hc k1;exact zF9
 by_cases k2:nn=2
 ·have hc:(nn:Int)=2:=zBY;by_cases hx:x=0
  ·have E:=zW (show vH x nn=_ by rw[k2,hx]);rw[hc,show(x:Int)=0 by omega];clear hc k2 hx;exact zF9
  ·have E:=zW (show vH x nn=0 by rw[k2];simp[vH,hx]);have hx':((x:Int)==0)=false:=by simp;omega
   rw[hc];clear hc k2 hx;exact zF9
 by_cases k7:nn=7
 ·have hc:(nn:Int)=7:=zBY;have E:=zW (show vH x nn=_ by rw[k7]);rw[hc];clear hc k7;exact zF9
 by_cases k10:nn=10
 ·have hc:(nn:Int)=10:=zBY;have E:=zW (show vH x nn=_ by rw[k10]);rw[hc];clear hc k10;exact zF9
 by_cases k21:nn=21
 ·have hc:(nn:Int)=21:=zBY;have E:=zW (show vH x nn=_ by rw[k21]);rw[hc];clear hc k21;exact zF9
 by_cases k24:nn=24
 ·have hc:(nn:Int)=24:=zBY;have E:=zW (show vH x nn=_ by rw[k24]);rw[hc];clear hc k24;exact zF9
 by_cases k30:nn=30
 ·have hc:(nn:Int)=30:=zBY;have E:=zW (show vH x nn=_ by rw[k30]);rw[hc];clear hc k30;exact zF9
 by_cases k41:nn=41
 ·have hc:(nn:Int)=41:=zBY;have E:=zW (show vH x nn=_ by rw[k41]);rw[hc];clear hc k41;exact zF9
 by_cases k48:nn=48
 ·have hc:(nn:Int)=48:=zBY;have E:=zW (show vH x nn=_ by rw[k48]);rw[hc];clear hc k48;exact zF9
 by_cases k51:nn=51
 ·have hc:(nn:Int)=51:=zBY;have E:=zW (show vH x nn=_ by rw[k51]);rw[hc];clear hc k51;exact zF9
 by_cases k58:nn=58
 ·have hc:(nn:Int)=58:=zBY;have E:=zW (show vH x nn=_ by rw[k58]);rw[hc];clear hc k58;exact zF9
 by_cases k85:nn=85
 ·have hc:(nn:Int)=85:=zBY;have E:=zW (show vH x nn=_ by rw[k85]);rw[hc];clear hc k85;exact zF9
 by_cases k101:nn=101
 ·have hc:(nn:Int)=101:=zBY;have E:=zW (show vH x nn=_ by rw[k101]);rw[hc];clear hc k101;exact zF9
 by_cases k117:nn=117
 ·have hc:(nn:Int)=117:=zBY;have E:=zW (show vH x nn=_ by rw[k117]);rw[hc];clear hc k117;exact zF9
 by_cases k133:nn=133
 ·have hc:(nn:Int)=133:=zBY;have E:=zW (show vH x nn=_ by rw[k133]);rw[hc];clear hc k133;exact zF9
 have E:=zW (show vH x nn=0 by unfold vH;simp only[zL k0,zL k1,zL k2,zL k7,zL k10,zL k21,zL k24,zL k30,zL k41,zL k48,zL k51,zL k58,zL k85,zL k101,zL k117,zL k133,if_false]);have n0:((nn:Int)==0)=false:=by simp;omega
 have n1:((nn:Int)==1)=false:=by simp;omega
 have n2:((nn:Int)==2)=false:=by simp;omega
 have n7:((nn:Int)==7)=false:=by simp;omega
 have n10:((nn:Int)==10)=false:=by simp;omega
 have n21:((nn:Int)==21)=false:=by simp;omega
 have n24:((nn:Int)==24)=false:=by simp;omega
 have n30:((nn:Int)==30)=false:=by simp;omega
 have n41:((nn:Int)==41)=false:=by simp;omega
 have n48:((nn:Int)==48)=false:=by simp;omega
 have n51:((nn:Int)==51)=false:=by simp;omega
 have n58:((nn:Int)==58)=false:=by simp;omega
 have n85:((nn:Int)==85)=false:=by simp;omega
 have n101:((nn:Int)==101)=false:=by simp;omega
 have n117:((nn:Int)==117)=false:=by simp;omega
 have n133:((nn:Int)==133)=false:=by simp;omega
 clear k0 k1 k2 k7 k10 k21 k24 k30 k41 k48 k51 k58 k85 k101 k117 k133;exact zF9
theorem zXF(hd x y n nn nnn:Nat)(w:World):Calls Tryz.prog 162 #[fv hd x y n nn nnn] w fun e w'=>e=.returned (.int .i64 (rI x y nnn:Nat))∧Below w.heap.size w w':=by
 unfold fv;by_cases k224:nnn=224
 ·have hc:(nnn:Int)=224:=zBY;have E:=zW (show rI x y nnn=_ by rw[k224]);rw[hc];clear hc k224;exact zSK
 by_cases k238:nnn=238
 ·have hc:(nnn:Int)=238:=zBY;have E:=zW (show rI x y nnn=_ by rw[k238]);rw[hc];clear hc k238;exact zSK
 by_cases k251:nnn=251
 ·have hc:(nnn:Int)=251:=zBY;have E:=zW (show rI x y nnn=_ by rw[k251]);rw[hc];clear hc k251;exact zSK
 by_cases k252:nnn=252
 ·have hc:(nnn:Int)=252:=zBY;have E:=zW (show rI x y nnn=_ by rw[k252]);rw[hc];clear hc k252;exact zSK
 by_cases k253:nnn=253
 ·have hc:(nnn:Int)=253:=zBY;have E:=zW (show rI x y nnn=_ by rw[k253]);rw[hc];clear hc k253;exact zSK
 by_cases k254:nnn=254
 ·have hc:(nnn:Int)=254:=zBY;have E:=zW (show rI x y nnn=_ by rw[k254]);rw[hc];clear hc k254;exact zSK
 by_cases k255:nnn=255
 ·have hc:(nnn:Int)=255:=zBY;have E:=zW (show rI x y nnn=_ by rw[k255]);rw[hc];clear hc k255;exact zSK
 have n224:((nnn:Int)==224)=false:=by simp;omega
 have n238:((nnn:Int)==238)=false:=by simp;omega
 have n251:((nnn:Int)==251)=false:=by simp;omega
 have n252:((nnn:Int)==252)=false:=by simp;omega
 have n253:((nnn:Int)==253)=false:=by simp;omega
 have n254:((nnn:Int)==254)=false:=by simp;omega
 have n255:((nnn:Int)==255)=false:=by simp;omega
 have EZ:rI x y nnn=if x=0∧y=12 then 35 else if x=0∧y=13 then 45 else 0:=by unfold rI;simp only[zL k224,zL k238,zL k251,zL k252,zL k253,zL k254,zL k255]
 clear k224 k238 k251 k252 k253 k254 k255;by_cases hx:x=0
 ·by_cases hy:y=12
  ·have E:=zW (show rI x y nnn=35 by rw[EZ,zG ⟨hx,hy⟩]);rw[show(x:Int)=0 by omega,show(y:Int)=12 by omega];clear EZ hx hy;exact zSK
  ·by_cases hz:y=13
   ·have E:=zW (show rI x y nnn=45 by rw[EZ,zL zBY,zG ⟨hx,hz⟩]);rw[show(x:Int)=0 by omega,show(y:Int)=13 by omega];clear EZ hx hy hz;exact zSK
   ·have E:=zW (show rI x y nnn=0 by rw[EZ,zL zBY,zL zBY]);have hy':((y:Int)==12)=false:=by simp;omega
    have hz':((y:Int)==13)=false:=by simp;omega
    rw[show(x:Int)=0 by omega];clear EZ hx hy hz;exact zSK
 ·have E:=zW (show rI x y nnn=0 by rw[EZ,zL zBY,zL zBY]);have hx':((x:Int)==0)=false:=by simp;omega
  clear EZ hx;exact zSK
theorem VK(hd x y n nn nnn:Nat)(w:World)(h0:hd≤15)(h1:n≤15):Calls Tryz.prog 82 #[fv hd x y n nn nnn] w fun e w'=>e=.returned (.int .i64 (opR hd x y n nn nnn:Nat))∧Below w.heap.size w w':=by
 have hh:hd=0∨hd=1∨hd=2∨hd=3∨hd=4∨hd=5∨hd=6∨hd=7∨hd=8∨hd=9∨hd=10∨hd=11∨hd=12∨hd=13∨hd=14∨hd=15:=zBY;rcases hh with hh|hh|hh|hh|hh|hh|hh|hh|hh|hh|hh|hh|hh|hh|hh|hh
 ·have hc:(hd:Int)=0:=zBY;have E:=zW (show opR hd x y n nn nnn=rI x y nnn by rw[hh];first|rfl|simp[opR, *]);have C:=zW (fun w=>zXF hd x y n nn nnn w);exact zDI
 ·have hc:(hd:Int)=1:=zBY;have E:=zW (show opR hd x y n nn nnn=3 by rw[hh];rfl);exact zSE
 ·have hc:(hd:Int)=2:=zBY;have E:=zW (show opR hd x y n nn nnn=4 by rw[hh];rfl);exact zSE
 ·have hc:(hd:Int)=3:=zBY;have E:=zW (show opR hd x y n nn nnn=5 by rw[hh];rfl);exact zSE
 ·have hc:(hd:Int)=4:=zBY;have E:=zW (show opR hd x y n nn nnn=6 by rw[hh];rfl);exact zSE
 ·have hc:(hd:Int)=5:=zBY;have E:=zW (show opR hd x y n nn nnn=XP n by rw[hh];first|rfl|simp[opR, *]);have C:=zW (fun w=>zWA n w);exact zFQ
 ·have hc:(hd:Int)=6:=zBY;have E:=zW (show opR hd x y n nn nnn=8 by rw[hh];rfl);exact zSE
 ·have hc:(hd:Int)=7:=zBY;have E:=zW (show opR hd x y n nn nnn=9 by rw[hh];rfl);exact zSE
 ·have hc:(hd:Int)=8:=zBY;have E:=zW (show opR hd x y n nn nnn=ZR n by rw[hh];first|rfl|simp[opR, *]);have C:=zW (fun w=>zJG n w h1);exact zFQ
 ·have hc:(hd:Int)=9:=zBY;unfold fv;by_cases hn:n=0
  ·have E:=zW (show opR hd x y n nn nnn=19 by rw[hh,hn];rfl);rw[hc,show(n:Int)=0 by omega];clear hc hh hn;exact zSZ
  ·have E:=zW (show opR hd x y n nn nnn=0 by rw[hh];simp[opR,hn]);have hn':((n:Int)==0)=false:=by simp;omega
   rw[hc];clear hc hh hn;exact zSZ
 ·have hc:(hd:Int)=10:=zBY;have E:=zW (show opR hd x y n nn nnn=20 by rw[hh];rfl);exact zSE
 ·have hc:(hd:Int)=11:=zBY;have E:=zW (show opR hd x y n nn nnn=21 by rw[hh];rfl);exact zSE
 ·have hc:(hd:Int)=12:=zBY;have E:=zW (show opR hd x y n nn nnn=22 by rw[hh];rfl);exact zSE
 ·have hc:(hd:Int)=13:=zBY;unfold fv;by_cases hn:n=0
  ·have E:=zW (show opR hd x y n nn nnn=41 by rw[hh,hn];rfl);rw[hc,show(n:Int)=0 by omega];clear hc hh hn;exact zSZ
  ·have E:=zW (show opR hd x y n nn nnn=23 by rw[hh];simp[opR,hn]);have hn':((n:Int)==0)=false:=by simp;omega
   rw[hc];clear hc hh hn;exact zSZ
 ·have hc:(hd:Int)=14:=zBY;unfold fv;by_cases hn:nn=158
  ·have E:=zW (show opR hd x y n nn nnn=24 by rw[hh,hn];rfl);rw[hc,show(nn:Int)=158 by omega];clear hc hh hn;exact zSZ
  ·have hn':((nn:Int)==158)=false:=by simp;omega
   by_cases hm:nn=161
   ·have E:=zW (show opR hd x y n nn nnn=25 by rw[hh,hm];rfl);rw[hc,show(nn:Int)=161 by omega];clear hc hh hn hm hn';exact zSZ
   ·have E:=zW (show opR hd x y n nn nnn=0 by rw[hh];simp[opR,hn,hm]);have hm':((nn:Int)==161)=false:=by simp;omega
    rw[hc];clear hc hh hn hm;exact zSZ
 ·have hc:(hd:Int)=15:=zBY;have E:=zW (show opR hd x y n nn nnn=vH x nn by rw[hh];first|rfl|simp[opR, *]);have C:=zW (fun w=>BC hd x y n nn nnn w);exact zDI
theorem iZ(op:Int)(w:World):Calls Tryz.prog 83 #[.int .i64 op] w fun e w'=>e=.returned (.int .i64 (lvR op))∧w=w':=by
 have hp:op<1∨(1≤op∧51<op)∨(1≤op∧op≤51∧op≤34)∨(1≤op∧op≤51∧34<op∧op≤44)∨(1≤op∧op≤51∧34<op∧44<op):=zBY;rcases hp with h|⟨h,h2⟩|⟨h,h2,h3⟩|⟨h,h2,h3,h4⟩|⟨h,h2,h3,h4⟩
 all_goals
  have E:=zW (show lvR op=_ by unfold lvR;first|rw[zG zBY]|rw[zL zBY,zG zBY]|rw[zL zBY,zL zBY,zG zBY]|rw[zL zBY,zL zBY,zL zBY])
  go_enter Tryz.func83,Tryz.ntmps83
  go_wp2
  go_ret
  exact⟨by rw[E.out];rfl,rfl⟩
def InAt(n:Int)(L:List Int)(k:Nat):Prop:=vL n L=vL n (L.drop k)
theorem mO(n:Int)(L:List Int)(b m c:Nat)(w:World)(hm:L.length=m)(hL:m≤100)(hc:∀k (h:k<L.length),w.cell? ⟨b,k,none⟩=some (.int .i64 L[k])):
  Calls Tryz.prog 85 #[.int .i64 n,.slice (some ⟨b,0,none⟩) m c] w fun e w'=>e=.returned (.bool (vL n L))∧w=w':=by
 have HC:=zW hc;have HM:=zW hm;clear hc hm;go_enter Tryz.func85,Tryz.ntmps85;go_wp2;go_loop [5] (fun i=>∃k:Nat,k≤m∧i=.int .i64 (k:Int)∧InAt n L k) (fun i=>m-(intOf i).toNat)
 case atStart=>exact⟨0,qE _,rfl,rfl⟩
 case round=>
  obtain⟨k,hk,rfl,ht⟩:=hrel
  have HT:=zW ht
  clear ht
  by_cases hlt:k<m
  ·have h2:k<L.length:=by have:=HM.out;omega
   obtain⟨v,hv⟩:∃v,L[k]=v:=⟨_,rfl⟩
   have c0:=HC.out k h2
   rw[hv]at c0
   by_cases he:v=n
   ·have E:=zW (show vL n L=true by rw[show vL n L=vL n (L.drop k)from HT.out];exact zM7 n L k h2 (hv.trans he))
    subst he
    clear hv h2
    go_wp2
    go_ret
    exact⟨by rw[E.out];rfl,rfl⟩
   ·have E:=zW (show InAt n L (k+1)from(show vL n L=vL n (L.drop k)from HT.out).trans (zWG n L k h2 (by rw[hv];exact he)))
    have he':(v==n)=false:=by simpa using he
    clear hv h2
    go_wp2
    exact⟨⟨k+1,by omega,rfl,E.out⟩,by simp[intOf];omega⟩
  ·have E:=zW (show vL n L=false by rw[show vL n L=vL n (L.drop k)from HT.out];exact zM8 n L k (by have:=HM.out;omega))
   go_wp2
   go_ret
   exact⟨by rw[E.out];rfl,rfl⟩
theorem mS(v W:World)(T:TypeId)(L:List Int)(cs:Array Value)(b:Nat)(hW:W=v.alloc (.cells cs T))(hcs:cs=(L.map (Value.int .i64)).toArray)(hb:v.heap.size=b)(k:Nat)(h:k<L.length):W.cell? ⟨b,k,none⟩=some (.int .i64 L[k]):=by
 subst hW hcs hb;rw[(Blk.new v T _).cell k];simp[h]
theorem gY:LX.length=36:=rfl
theorem yO:(#[.int .i64 5,.int .i64 6,.int .i64 7,.int .i64 8,.int .i64 9,.int .i64 10,.int .i64 11,.int .i64 12,.int .i64 13,.int .i64 14,.int .i64 15,.int .i64 16,.int .i64 17,.int .i64 18,.int .i64 19,.int .i64 21,.int .i64 22,.int .i64 23,.int .i64 24,.int .i64 25,.int .i64 26,.int .i64 27,.int .i64 28,.int .i64 29,.int .i64 30,.int .i64 31,.int .i64 32,.int .i64 33,.int .i64 34,.int .i64 41,.int .i64 42,.int .i64 43,.int .i64 44,.int .i64 46,.int .i64 47,.int .i64 51]:Array Value)=(LX.map (Value.int .i64)).toArray:=by kernel_rfl
theorem gW:LY.length=15:=rfl
theorem yU:(#[.int .i64 7,.int .i64 10,.int .i64 11,.int .i64 12,.int .i64 13,.int .i64 14,.int .i64 15,.int .i64 16,.int .i64 17,.int .i64 18,.int .i64 19,.int .i64 23,.int .i64 41,.int .i64 46,.int .i64 47]:Array Value)=(LY.map (Value.int .i64)).toArray:=by kernel_rfl
theorem gL:LN.length=3:=rfl
theorem uQ:(#[.int .i64 23,.int .i64 35,.int .i64 45]:Array Value)=(LN.map (Value.int .i64)).toArray:=by kernel_rfl
theorem wN:LNN.length=5:=rfl
theorem xA:(#[.int .i64 5,.int .i64 6,.int .i64 8,.int .i64 9,.int .i64 22]:Array Value)=(LNN.map (Value.int .i64)).toArray:=by kernel_rfl
theorem gM:LA.length=4:=rfl
theorem uZ:(#[.int .i64 3,.int .i64 4,.int .i64 20,.int .i64 21]:Array Value)=(LA.map (Value.int .i64)).toArray:=by kernel_rfl
structure RB(w0:World)(g bx:Nat)(fc cs:Array Value)(w:World):Prop where
 res:Blk w0.heap.size 47 wQ w
 fl:Blk g 176 fc w
 var:Blk bx 47 cs w
 low:Below w0.heap.size w0 w
 g1:w0.heap.size<g
 g2:g<bx
section
variable {w0 w w':World} {g bx:Nat} {fc cs:Array Value}
theorem RB.step(H:RB w0 g bx fc cs w)(hb:Below w.heap.size w w'):RB w0 g bx fc cs w':=
 ⟨H.res.step hb,H.fl.step hb,H.var.step hb,H.low.trans (hb.mono (by have:=H.res.lt;omega)),H.g1,H.g2⟩
theorem RB.alloc(H:RB w0 g bx fc cs w)(o:Obj):RB w0 g bx fc cs (w.alloc o):=H.step (mP _ _)
theorem RB.put(H:RB w0 g bx fc cs w)(j:Nat)(v:Value):RB w0 g bx fc (cs.setIfInBounds j v) (w.setCell ⟨bx,j,none⟩ v):=
 ⟨H.res.other (by have:=H.g1;have:=H.g2;omega) _ _,H.fl.other (by have:=H.g2;omega) _ _,H.var.put _ _,H.low.setCell (by have:=H.g1;have:=H.g2;simp;omega) _,H.g1,H.g2⟩
end
end
end Go.Proofs.YtcjldabaekbdlaaGreatDoor
