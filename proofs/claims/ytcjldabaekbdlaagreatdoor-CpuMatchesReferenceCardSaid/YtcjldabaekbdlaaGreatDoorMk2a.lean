/- DecAllow, Dec, DecLevel, CpuRef4, PixSp, PixW, Plane, PlaneScr, PlaneComb, PlaneRows, PlaneEq, PlaneDraw, PlaneSpr, PlaneStep, ScrBox, ScrIter, ScrNeed, ScrChange, ScrOps, ScrChunk, ScrBits, ScrDraw1. -/
import Derived.Test.YtcjldabaekbdlaaGreatDoorMDecFind
import Derived.Test.YtcjldabaekbdlaaGreatDoorMDecFin2
import Derived.Test.YtcjldabaekbdlaaGreatDoorMPix4
set_option maxRecDepth 400000
set_option maxHeartbeats 64000000
set_option linter.unusedVariables false
set_option linter.unusedSimpArgs false
namespace Go.Proofs.YtcjldabaekbdlaaGreatDoor
section
open Go.RowKit Num Dec
theorem mP(w:World)(o:Obj):Below w.heap.size w (w.alloc o):=(zB _ _).alloc (zH _) o
theorem oN{r:Rl}{l x:Int}(h:(r.op:Int)=43∨(r.op:Int)=44):alw r l x=wX l x:=by
 unfold alw;rw[show(r.op==43||r.op==44)=true by simp;omega];rfl
theorem eD{r:Rl}{l x:Int}(h:¬(r.op:Int)=43)(h':¬(r.op:Int)=44):alw r l x=(decide ((r.level:Int)≤l)&&decide (l≤3)):=by
 unfold alw;rw[show(r.op==43||r.op==44)=false by simp;omega];rfl
def bcs(b0 b1 b2 b3:Nat):Array Value:=#[.int .u8 (b0:Int),.int .u8 (b1:Int),.int .u8 (b2:Int),.int .u8 (b3:Int)]
structure DB(w0:World)(b0 b1 b2 b3:Nat)(cs:Array Value)(w:World):Prop where
 arg:Blk w0.heap.size 29 (bcs b0 b1 b2 b3) w
 res:Blk (w0.heap.size+1) 47 wQ w
 var:Blk (w0.heap.size+1+1) 47 cs w
 low:Below w0.heap.size w0 w
section
variable {w0 w w':World} {b0 b1 b2 b3:Nat} {cs:Array Value}
theorem DB.lt(H:DB w0 b0 b1 b2 b3 cs w):w0.heap.size+2<w.heap.size:=H.var.lt
theorem DB.step(H:DB w0 b0 b1 b2 b3 cs w)(hb:Below w.heap.size w w'):DB w0 b0 b1 b2 b3 cs w':=
 ⟨H.arg.step hb,H.res.step hb,H.var.step hb,H.low.trans (hb.mono (by have:=H.lt;omega))⟩
theorem DB.alloc(H:DB w0 b0 b1 b2 b3 cs w)(o:Obj):DB w0 b0 b1 b2 b3 cs (w.alloc o):=H.step (mP _ _)
theorem DB.put(H:DB w0 b0 b1 b2 b3 cs w)(j:Nat)(v:Value):DB w0 b0 b1 b2 b3 (cs.setIfInBounds j v) (w.setCell ⟨w0.heap.size+1+1,j,none⟩ v):=
 ⟨H.arg.other zBY _ _,H.res.other zBY _ _,H.var.put _ _,H.low.setCell zBS _⟩
theorem DB.store(H:DB w0 b0 b1 b2 b3 cs w)(ds:Array Value):DB w0 b0 b1 b2 b3 ds (w.setRow (w0.heap.size+1+1) ds):=
 ⟨H.arg.otherRow zBY _,H.res.otherRow zBY _,H.var.store _,lU H.low zBY _⟩
theorem DB.new(w:World)(b0 b1 b2 b3:Nat):DB w b0 b1 b2 b3 wQ (((w.alloc (.cells (bcs b0 b1 b2 b3) 29)).alloc (.cells wQ 47)).alloc (.cells wQ 47)):=
 ⟨((Blk.new _ _ _).alloc _).alloc _,(by have:=(Blk.new (w.alloc (.cells (bcs b0 b1 b2 b3) 29)) 47 wQ).alloc (.cells wQ 47);simpa using this),(by have:=Blk.new ((w.alloc (.cells (bcs b0 b1 b2 b3) 29)).alloc (.cells wQ 47)) 47 wQ;simpa using this),
  (((zB _ _).alloc (zH _) _).alloc zBT _).alloc zBS _⟩
end
def fcs(b0 b1:Nat):Array Value:=#[.int .i64 ((b0/16:Nat):Int),.int .i64 ((b0%16:Nat):Int),.int .i64 ((b1/16:Nat):Int),.int .i64 ((b1%16:Nat):Int),.int .i64 (b1:Int),.int .i64 ((b0%16*256+b1:Nat):Int)]
theorem iQ(b0 b1:Nat)(h0:b0<256)(h1:b1<256)(w:World):Calls Tryz.prog 81 #[.int .u8 (b0:Int),.int .u8 (b1:Int)] w fun e w'=>e=.returned (.agg (fcs b0 b1))∧Below w.heap.size w w':=
 (CW b0 b1 w zBY zBY zBY zBY).mono fun _ _ ⟨he,hb⟩=>⟨he.trans rfl,hb⟩
theorem DB.cells{w0 w:World}{b0 b1 b2 b3:Nat}{cs:Array Value}(H:DB w0 b0 b1 b2 b3 cs w):w.cell? ⟨w0.heap.size,0,none⟩=some (.int .u8 (b0:Int))∧w.cell? ⟨w0.heap.size,1,none⟩=some (.int .u8 (b1:Int))∧w.cell? ⟨w0.heap.size,2,none⟩=some (.int .u8 (b2:Int))∧w.cell? ⟨w0.heap.size,3,none⟩=some (.int .u8 (b3:Int)):=
 ⟨H.arg.cell 0,H.arg.cell 1,H.arg.cell 2,H.arg.cell 3⟩
theorem LI{b0 b1 b2 b3:Nat}{l:Int}(h:ok b0 b1 l=false):dec b0 b1 b2 b3 l=⟨0,0,0,0,0,0,skl b0 b1 l⟩:=by
 unfold dec;rw[h];rfl
theorem wL{b0 b1 b2 b3:Nat}{l:Int}(h:ok b0 b1 l=true){r:Rl}(hr:top (b0*256+b1)=r):dec b0 b1 b2 b3 l=⟨r.op,pX r.pk (dx b0:Nat),pY r.pk (b1/16:Nat),pN r.pk (dx b0:Nat) (b1%16:Nat),pNN r.pk (b1:Nat),pA r.pk (dx b0*256+b1:Nat) (b2*256+b3:Nat),skl b0 b1 l⟩:=by
 unfold dec;rw[h,hr];rfl
def PW(X:World→Prop):Type:={w:World//X w}
def PW.w{X:World→Prop}(u:PW X):World:=u.1
theorem zZG(h l:Nat)(level:Int)(w:World):Calls Tryz.prog 150 #[.int .u8 (h:Int),.int .u8 (l:Int),.int .i64 level] w fun e w'=>e=.returned (.int .i64 (skl h l level))∧w=w':=by
 unfold skl;by_cases h3:level=3
 ·by_cases hh:(h:Int)=240
  ·by_cases hl:(l:Int)=0
   ·rw[zG ⟨h3,by omega,by omega⟩];exact zSR
   ·rw[zL zBY];exact zSR
  ·rw[zL zBY];exact zSR
 ·rw[zL zBY];exact zSR
end
section
open Go.RowKit Num Dec Cpu
def Rm(ad:Addr)(M:List Int)(w:World):Prop:=ad.block<w.heap.size∧∀j (h:j<M.length),w.cell? (ad.add j)=some (.int .u8 M[j])
theorem Rm.step{ad:Addr}{M:List Int}{w w':World}(h:Rm ad M w)(hb:Below w.heap.size w w'):Rm ad M w':=
 ⟨zS h.1 hb.size,fun j hj=>(hb.cell (p:=ad.add j) (by rw[cP];exact h.1)).trans (h.2 j hj)⟩
structure DR(w:World)(g:Nat)(s z:CS)(q:Pr)(w1:World):Prop where
 s:Blk g 43 (cst s) w1
 p:Blk (g+1) 31 (prc q) w1
 o:Blk (g+1+1) 43 (cst z) w1
 low:Below w.heap.size w w1
 at_:w.heap.size≤g
theorem DR.new(w:World)(s z:CS)(q:Pr):DR w w.heap.size s z q (((w.alloc (.cells (cst s) 43)).alloc (.cells (prc q) 31)).alloc (.cells (cst z) 43)):=by
 refine⟨((Blk.new w _ _).alloc _).alloc _,?_,?_,((mJ w _).alloc zBT _).alloc zBS _,zH _⟩
 ·have h:=(Blk.new (w.alloc (.cells (cst s) 43)) 31 (prc q)).alloc (.cells (cst z) 43);rw[zR]at h;exact h
 ·have h:=Blk.new ((w.alloc (.cells (cst s) 43)).alloc (.cells (prc q) 31)) 43 (cst z);rw[zR,zR]at h;exact h
theorem DR.step{w w1 w2:World}{g:Nat}{s z:CS}{q:Pr}(h:DR w g s z q w1)(hb:Below w1.heap.size w1 w2):DR w g s z q w2:=
 ⟨h.s.step hb,h.p.step hb,h.o.step hb,h.low.trans (hb.mono h.low.size),h.at_⟩
theorem DR.put17{w w1:World}{g:Nat}{s z:CS}{q:Pr}(h:DR w g s z q w1)(r:Int):DR w g {s with pc:=r} z q (w1.setCell ⟨g,17,none⟩ (.int .i64 r)):=
 ⟨(h.s.put 17 _).eq (rJ s r),h.p.other zBY 17 _,h.o.other zBY 17 _,h.low.trans ((Below.setCell (zB _ _) h.at_ _)),h.at_⟩
theorem zW7(s:CS)(q:Pr)(w:World):
  Calls Tryz.prog 66 #[.agg (cst s),.bool false,.agg (prc q)] w fun e w'=>e=.returned (.agg (cst s))∧Below w.heap.size w w':=by
 have D0:=zW (DR.new w s vP q);go_enter Tryz.func66,Tryz.ntmps66;go_upto_region 0 with fail;refine zN ?_;refine mZ rfl _ (.tmp 0) rfl (cst s) rfl ?_;simp only[Act.put,zQ,zZ,zJ];refine mZ rfl _ (.tmp 2) rfl (prc q) rfl ?_;simp only[Act.put,zQ,zZ,zJ,zR];refine qL rfl fun K hK=>nF xI rfl (hK _ _ ?_);clear hK K;simp only[Act.put,zQ,zZ,zJ,zR];obtain⟨g,hg⟩:∃g,w.heap.size=g:=⟨_,rfl⟩;rw[hg]at D0⊢;generalize World.alloc (World.alloc (World.alloc _ _) _) _=w1 at D0⊢;clear hg;go_upto_region 4 with fail;refine zN ?_;refine lP mM D0.out.s (lC _) rfl (.tmp 3) rfl rfl ?_;simp only[Act.put,zQ,zZ,zJ];refine lE mM D0.out.o (lC _) (lC _) (nZ _) rfl (.tmp 6) (.tmp 28) rfl rfl rfl ?_;simp only[Act.put,zQ,zZ,zJ];have RE:=D0.out.o.store (cst s);have BZ:=lU D0.out.low (show w.heap.size≤g+1+1 by have:=D0.out.at_;omega) (cst s);exact zFJ
theorem zJI(s:CS)(q:Pr)(ad:Addr)(N c:Nat)(M:List Int)(b0 b1:Nat)(w:World)(hs:s.M=⟨some ad,N,c⟩)(hN:N=65536)(hM:M.length=N)(hR:Rm ad M w)(hi:0≤s.pc∧s.pc≤65535)(hb:seg M s.pc 2=[(b0:Int),(b1:Int)]):
  Calls Tryz.prog 66 #[.agg (cst s),.bool true,.agg (prc q)] w fun e w'=>e=.returned (.agg (cst {s with pc:=(s.pc+skl b0 b1 q.lv)%65536}))∧Below w.heap.size w w':=by
 have D0:=zW (DR.new w s vP q);obtain⟨I,hI⟩:∃I,s.pc=I:=⟨_,rfl⟩;rw[hI]at hi hb⊢;have RB:=zW (fun(w':World) (h:Below w.heap.size w w')=>(hb▸KT ad N c M I 2 w' hN hM (hR.step h) zBY zBY zBH:Calls Tryz.prog 100 #[.slice (some ad) N c,.int .i64 I,.int .i64 ((2:Nat):Int)] w' (Got 2 [(b0:Int),(b1:Int)] w')));obtain⟨k,hk⟩:∃k,skl b0 b1 q.lv=k:=⟨_,rfl⟩;have SK:=zW (fun w'=>hk▸zZG b0 b1 q.lv w');have k4:2≤k∧k≤4:=by rw[←hk];unfold skl;split<;>omega
 obtain⟨r,hr⟩:∃r:Nat,(I+k)%65536=(r:Int):=⟨((I+k)%65536).toNat,by omega⟩;have MD:=zW (fun w'=>dX (I+k) r w' hr);rw[hk,hr];have wk:wrap64 (I+k)=I+k:=by unfold wrap64;first|omega|(rw[zU];omega)
 obtain⟨z,hz⟩:∃z,I+k=z:=⟨_,rfl⟩;rw[hz]at MD;have wk:=wk.trans hz;have HI:=zW (zY hI hi);clear hb hR hN hM hk hr hz hi k4;go_enter Tryz.func66,Tryz.ntmps66;go_upto_region 0 with fail;refine zN ?_;refine mZ rfl _ (.tmp 0) rfl (cst s) rfl ?_;simp only[Act.put,zQ,zZ,zJ];refine mZ rfl _ (.tmp 2) rfl (prc q) rfl ?_;simp only[Act.put,zQ,zZ,zJ,zR];refine qL rfl fun K hK=>nF xI rfl (hK _ _ ?_);clear hK K;simp only[Act.put,zQ,zZ,zJ,zR];obtain⟨g,hg⟩:∃g,w.heap.size=g:=⟨_,rfl⟩;rw[hg]at D0⊢;generalize World.alloc (World.alloc (World.alloc _ _) _) _=w1 at D0⊢;clear hg;have c19:w1.cell? ⟨g,19,none⟩=some (.slice (some ad) N c):=((D0.out.s.cell 19).trans (nW s 3)).trans (by rw[show(uI s)[3]?=some s.M.v from rfl,hs];rfl);have c17:w1.cell? ⟨g,17,none⟩=some (.int .i64 I):=((D0.out.s.cell 17).trans (nW s 1)).trans (by rw[show(uI s)[1]?=some (.int .i64 s.pc)from rfl,hI]);go_wp2_with fail;refine(RB.out _ D0.out.low).mono ?_;rintro e w2 ⟨⟨A,cc2,rfl,rd⟩,b2⟩;have D2:=zW (D0.out.step b2);clear b2 c19 c17 D0;obtain⟨ad2,rfl,hbl,hc⟩:=rd zBT;have hcj:∀(j:Nat) (v:Int),[(b0:Int),(b1:Int)][j]?=some v→∀u:mH w2,u.w.cell? (ad2.add j)=some (.int .u8 v):=fun j v hv u=>by
  obtain⟨hj,e⟩:=kE.1 hv;rw[←e];exact(u.below.cell (p:=ad2.add j) (by rw[cP];exact hbl)).trans (hc j hj)
 have k0:=hcj 0 _ rfl;have k1:=hcj 1 _ rfl;simp only[Addr.add,if_true]at k0;rw[show ad2.add 1=⟨ad2.block,ad2.off+1,none⟩from by unfold Addr.add;rw[zL zBH]]at k1;clear hc hcj rd;go_upto_region 3 with fail;have c17:w2.cell? ⟨g,17,none⟩=some (.int .i64 I):=((D2.out.s.cell 17).trans (nW s 1)).trans (by rw[show(uI s)[1]?=some (.int .i64 s.pc)from rfl,hI]);have p0:w2.cell? ⟨g+1,0,none⟩=some (.int .i64 q.lv):=(D2.out.p.cell 0).trans rfl;have k17:=mH.cell c17 D2.out.s.lt;have kp:=mH.cell p0 D2.out.p.lt;refine mX (C:=fun w'=>∃u:mH w2,w'=u.w) 14 [([0,1,2,3,4,5,6,7,8,9],10,true),([11],12,true)] [13] [] zBM zBM ?_ ?_ ⟨⟨w2.drew,(zB _ _).drew⟩,rfl⟩ ?_
 ·exact zT8
 ·exact zT0
 intro wd hwd;have bd:=zW (show Below w2.heap.size w2 wd by rw[hwd];exact(zB _ _).drew);clear hwd;refine m4 zBN zBG ?_;repeat(go_big_quiet_step (rfl))
 refine zM ?_;refine m5 (v:=.int .i64 k) (nN (g:=150) (caps:=#[]) (args:=#[.int .u8 (b0:Int),.int .u8 (b1:Int),.int .i64 q.lv]) (.func 150) #[.tmp 18,.tmp 21,.tmp 23] #[5,5,3] rfl rfl (enters_of Tryz.func150 zBM rfl) (fun w' hw=>(SK.out w').mono fun _ _ ⟨he,hw⟩=>⟨he,hw▸Gr.refl _⟩) rfl zBR) ?_;simp only[Act.put,zQ,zZ,zJ];refine m4 zBN zBG ?_;repeat(go_big_quiet_step (rfl))
 refine zM ?_;refine m5 (v:=.int .i64 (r:Int)) (nN (g:=63) (caps:=#[]) (args:=#[.int .i64 z]) (.func 63) #[.tmp 25] #[3] rfl rfl (enters_of Tryz.func63 zBM rfl) (fun w' hw=>(MD.out w').mono fun _ _ ⟨he,hw⟩=>⟨he,hw▸Gr.refl _⟩) rfl (by simp[Act.eval,wk])) ?_;simp only[Act.put,zQ,zZ,zJ];refine mE zBN zBG ?_;repeat(go_big_quiet_step (rfl))
 refine zM ?_;refine mC rfl ?_;intro w7 g7 C7 K hK;obtain⟨u7,rfl⟩:=C7;have D7:=zW (D2.out.step u7.below);have f17:=D7.out.s.frozen 17;refine bA D7.out.s 17 (.int .i64 (r:Int)) zBM rfl zB2 (.tmp 27) (.tmp 26) rfl rfl rfl ?_;refine hK _ _ ?_;clear hK K;simp only[Act.put,zQ,zZ,zJ];simp only[lA,zX,zK,zV];refine zM ?_;intro w8 g8;have D8:=zW ((D7.out.put17 (r:Int)).step g8);clear g8 D7 D2 f17;go_upto_region 4 with fail;refine zN ?_;refine lP mM D8.out.s (lC _) rfl (.tmp 3) rfl rfl ?_;simp only[Act.put,zQ,zZ,zJ];refine lE mM D8.out.o (lC _) (lC _) (nZ _) rfl (.tmp 6) (.tmp 28) rfl rfl rfl ?_;simp only[Act.put,zQ,zZ,zJ];have RE:=D8.out.o.store (cst {s with pc:=(r:Int)});have BZ:=lU D8.out.low (show w.heap.size≤g+1+1 by have:=D8.out.at_;omega) (cst {s with pc:=(r:Int)});exact zFJ
end
section
open Go.RowKit Num
theorem AQ(b c x m:Nat)(clip:Bool)(w:World)(hc:c=8∨c=16)(b1:b≤65535)(x1:x≤128)(m1:m≤128):
  Calls Tryz.prog 270 #[.int .u16 (b:Int),.int .i64 (c:Int),.int .i64 (x:Int),.int .i64 (m:Int),.bool clip] w fun e w'=>e=.returned (rv (bX b c x m clip))∧Below w.heap.size w w':=by
 obtain⟨m1',m2',em⟩:=wW (tH m);obtain⟨i1,i2,ei⟩:=wW (rO (sp0 b c) x m);obtain⟨j1,j2,ej⟩:=wW (mv (sp0 b c) ((x:Int)-m));have hp:∀k:Nat,IntKind.u64.wrap ((b:Int)*2^min k 64)=((BitVec.ofNat 64 b<<<k).toNat:Int):=fun k=>by
  have h:=zKT (BitVec.ofNat 64 b) k;rw[BitVec.toNat_ofNat,kW zBY]at h;rw[IntKind.wrap_u64];exact h
 unfold bX;cases clip
 ·rw[zL zBT,ei,ej,WG,nL];rcases hc with rfl|rfl
  ·exact J7 b x m _ m1' m2' i1 i2 j1 j2 _ _ ej rfl rfl w (hp 56) zBY zBY zBY zBY zBY zBY em ei
  ·exact Q9 b x m _ m1' m2' i1 i2 j1 j2 _ _ ej rfl rfl w (hp 48) zBY zBY zBY zBY zBY zBY em ei
 ·rw[zG rfl,ei,nL];rcases hc with rfl|rfl
  ·exact MP b x m _ m1' m2' i1 i2 w (hp 56) zBY zBY zBY zBY zBY zBY em ei
  ·exact J8 b x m _ m1' m2' i1 i2 w (hp 48) zBY zBY zBY zBY zBY zBY em ei
theorem zLE{b c x m:Nat}{bi ci xi mi:Int}{clip:Bool}{h l:BitVec 64}(e:bX b c x m clip=h++l)(hb:bi=(b:Int))(hci:ci=(c:Int))(hxi:xi=(x:Int))(hmi:mi=(m:Int))(hc:c=8∨c=16)(b1:b≤65535)(x1:x≤128)(m1:m≤128)(w:World):
  Calls Tryz.prog 270 #[.int .u16 bi,.int .i64 ci,.int .i64 xi,.int .i64 mi,.bool clip] w fun e w'=>e=.returned (.agg #[.int .u64 (h.toNat:Int),.int .u64 (l.toNat:Int)])∧Below w.heap.size w w':=by
 subst hb hci hxi hmi;rw[←nL,←e];exact AQ b c x m clip w hc b1 x1 m1
theorem shiftW{h l h' l':BitVec 64}{n m:Int}(e:rO (h++l) n m=h'++l')(n0: -1000≤n)(n1:n≤1000)(m0:0≤m)(m1:m≤128)(w:World):
  Calls Tryz.prog 271 #[.agg #[.int .u64 (h.toNat:Int),.int .u64 (l.toNat:Int)],.int .i64 n,.int .i64 m] w fun e w'=>e=.returned (.agg #[.int .u64 (h'.toNat:Int),.int .u64 (l'.toNat:Int)])∧Below w.heap.size w w':=by
 rw[←nL,←nL,←e];exact zZK _ n m w zBY zBY m0 m1
theorem andW{h l h' l' v1 v2:BitVec 64}(e:(h++l)&&&(h'++l')=v1++v2)(w:World):Calls Tryz.prog 269 #[.agg #[.int .u64 (h.toNat:Int),.int .u64 (l.toNat:Int)],.agg #[.int .u64 (h'.toNat:Int),.int .u64 (l'.toNat:Int)]] w fun e w'=>
  e=.returned (.agg #[.int .u64 (v1.toNat:Int),.int .u64 (v2.toNat:Int)])∧Below w.heap.size w w':=by
 rw[←nL,←nL,←nL,←e];exact zGK _ _ w
theorem xorW{h l h' l' v1 v2:BitVec 64}(e:(h++l)^^^(h'++l')=v1++v2)(w:World):Calls Tryz.prog 268 #[.agg #[.int .u64 (h.toNat:Int),.int .u64 (l.toNat:Int)],.agg #[.int .u64 (h'.toNat:Int),.int .u64 (l'.toNat:Int)]] w fun e w'=>
  e=.returned (.agg #[.int .u64 (v1.toNat:Int),.int .u64 (v2.toNat:Int)])∧Below w.heap.size w w':=by
 rw[←nL,←nL,←nL,←e];exact OE _ _ w
theorem KQ{b:Bool}{m h:Nat}(hr:Res b m h)(w:World):Calls Tryz.prog 233 #[.bool b] w fun e w'=>e=.returned (.tuple #[.int .i64 (m:Int),.int .i64 (h:Int)])∧w=w':=by
 rcases hr with⟨rfl,rfl,rfl⟩|⟨rfl,rfl,rfl⟩
 all_goals
  go_enter Tryz.func233,Tryz.ntmps233
  go_wp2
  go_ret2
  exact⟨rfl,rfl⟩
def wF(Q:Pl)(k:Nat):Pl:=fun y=>if y<k then Q y else 0#128
theorem TC(Q:Pl)(y:Nat):wF Q 0 y=0#128:=by simp[wF]
theorem CP(Q:Pl)(k y:Nat)(h:y<k):wF Q k y=Q y:=by rw[wF,zG h]
theorem CR(Q:Pl)(k:Nat)(r:BitVec 128)(hr:Q k=r)(y:Nat):W0 (wF Q k) k r y=wF Q (k+1) y:=by
 by_cases e:y=k
 ·subst e;rw[bJ,CP _ _ _ zBY,hr]
 ·rw[gP _ _ _ _ e];unfold wF;by_cases e2:y<k
  ·rw[zG e2,zG zBY]
  ·rw[zL e2,zL zBY]
theorem QV(Q:Pl)(k:Nat)(hr:Q k=0#128)(y:Nat):wF Q k y=wF Q (k+1) y:=by
 unfold wF;by_cases e2:y<k
 ·rw[zG e2,zG zBY]
 ·rw[zL e2];by_cases e:y=k
  ·subst e;rw[zG zBY,hr]
  ·rw[zL zBY]
theorem CD(Q:Pl)(k:Nat)(hQ:∀y,k≤y→Q y=0#128)(y:Nat):wF Q k y=Q y:=by
 unfold wF;by_cases e2:y<k
 ·rw[zG e2]
 ·rw[zL e2,hQ _ zBY]
theorem JZ(P:Pl)(dx dy:Int)(m h y:Nat)(hy:h≤y):vK P dx dy m h y=0#128:=by
 unfold vK;rw[zL zBY]
theorem A4(P:Pl)(dx dy:Int)(b:Bool)(m h:Nat)(hr:Res b m h)(w:World)(d0: -1000≤dx)(d1:dx≤1000)(e0: -1000≤dy)(e1:dy≤1000):
  Calls Tryz.prog 239 #[.agg (mQ P),.int .i64 dx,.int .i64 dy,.bool b] w fun e w'=>e=.returned (.agg (mQ (vK P dx dy m h)))∧Below w.heap.size w w':=by
 obtain⟨m0,m1,h0,h1⟩:=hr.bounds;have RR:=zW hr;have hz:=rQ;clear hr;go_enter Tryz.func239,Tryz.ntmps239;go_wp2_with fail;have N1:=zW (vJ.new w P 69);have B1:=zW (cH w (.cells (mQ P) 69));have S1:(w.alloc (.cells (mQ P) 69)).heap.size=w.heap.size+1:=zBT;have M2:=zW (vJ.new (w.alloc (.cells (mQ P) 69)) (fun _=>0#128) 69);rw[S1]at M2;have M1:=zW (N1.out.alloc (.cells (mQ fun _=>0#128) 69));have B2:=zW (B1.out.alloc (by rw[S1];omega) (.cells (mQ fun _=>0#128) 69));have S2:((w.alloc (.cells (mQ P) 69)).alloc (.cells (mQ fun _=>0#128) 69)).heap.size=w.heap.size+2:=zBT;clear N1 B1 S1;generalize (w.alloc (.cells (mQ P) 69)).alloc (.cells (mQ fun _=>0#128) 69)=w2 at*;refine(KQ RR.out w2).mono ?_;rintro e w' ⟨rfl,rfl⟩;go_wp2;have L3:=zW (vJ.new w2 (fun _=>0#128) 69);rw[S2]at L3;have L2:=zW (M2.out.alloc (.cells (mQ fun _=>0#128) 69));have L1:=zW (M1.out.alloc (.cells (mQ fun _=>0#128) 69));have B3:=zW (B2.out.alloc (by rw[S2];omega) (.cells (mQ fun _=>0#128) 69));clear M2 M1 B2 S2 hz;generalize w2.alloc (.cells (mQ fun _=>0#128) 69)=w3 at*;go_loopw [20] (fun i wr=>∃k:Nat,k≤h∧i=.int .i64 (k:Int)∧vJ w.heap.size 69 P wr∧vJ (w.heap.size+1) 69 (fun _=>0#128) wr∧vJ (w.heap.size+2) 69 (wF (vK P dx dy m h) k) wr∧Below w.heap.size w wr) (fun i _=>h-(intOf i).toNat)
 case atStart=>exact⟨0,by omega,rfl,L1.out,L2.out,L3.out.congr fun y _=>(TC _ y).symm,B3.out⟩
 case round=>
  clear L1 L2 L3 B3
  obtain⟨k,hk,rfl,h1',h2',h3',hB⟩:=hrel
  have Q:=zW (zY h1' (zY h2' (zY h3' hB)))
  clear h1' h2' h3' hB
  by_cases hlt:k<h
  ·have ki:(k:Int)<(h:Int):=zBY
   have k6:(k:Int)<64:=zBY
   rcases(show(0≤(k:Int)-dy∧(k:Int)-dy<h)∨¬0≤(k:Int)-dy∨(0≤(k:Int)-dy∧¬(k:Int)-dy<h) by omega)with⟨i1,i2⟩|i1|⟨i1,i2⟩
   ·obtain⟨f,hf⟩:∃f:Nat,(k:Int)-dy=f:=⟨((k:Int)-dy).toNat,by omega⟩
    have f6:f<64:=zBY
    have c1:=Q.out.1.left f f6
    have c2:=Q.out.1.right f f6
    have e3:vK P dx dy m h k=rO (P f) dx m:=by
     unfold vK;rw[zG zBY,hf,jS]
    obtain⟨v1,v2,ev⟩:=wW (rO (P f) dx m)
    have SH:=zW fun w=>shiftW (h:=hi (P f)) (l:=lo (P f)) (h':=v1) (l':=v2) (n:=dx) (m:=(m:Int)) (by rw[QP,ev]) d0 d1 zBY zBY w
    have EV:=zW (show vK P dx dy m h k=v1++v2 by rw[e3,ev])
    clear e3 ev
    rw[hf]at i1 i2
    generalize hi (P f)=u1 at*
    generalize lo (P f)=u2 at*
    go_wp2_with fail
    refine(SH.out _).mono ?_
    rintro e w' ⟨rfl,hb⟩
    have Q2:=zW (zY (Q.out.1.step hb) (zY (Q.out.2.1.step hb) (zY (Q.out.2.2.1.step hb) (Q.out.2.2.2.trans (hb.mono Q.out.2.2.2.size)))))
    clear c1 c2 hb
    have k64:k<64:=zBY
    have c1:=Q2.out.2.2.1.left k k64
    have c2:=Q2.out.2.2.1.right k k64
    have c3:=Q2.out.2.2.1.frozen (k*2)
    have c4:=Q2.out.2.2.1.frozen (k*2+1)
    generalize hi (wF (vK P dx dy m h) k k)=u3 at*
    generalize lo (wF (vK P dx dy m h) k k)=u4 at*
    go_wp2
    go_roundw
    case rel=>
     exact⟨k+1,by omega,by go_num,(Q2.out.1.other zBY _ _).other zBY _ _,(Q2.out.2.1.other zBY _ _).other zBY _ _,(Q2.out.2.2.1.row k k64 v1 v2).congr fun y _=>CR _ _ _ EV.out y,(Q2.out.2.2.2.setCell (p:=⟨w.heap.size+2,k*2,none⟩) zBT _).setCell (p:=⟨w.heap.size+2,k*2+1,none⟩) zBT _⟩
    case measure=>simp[intOf];omega
   ·have HF:=zW (show vK P dx dy m h k=0#128 by unfold vK;rw[zL zBY])
    go_wp2
    go_roundw
    case rel=>exact⟨k+1,by omega,by go_num,Q.out.1,Q.out.2.1,Q.out.2.2.1.congr fun y _=>QV _ _ HF.out y,Q.out.2.2.2⟩
    case measure=>simp[intOf];omega
   ·have HF:=zW (show vK P dx dy m h k=0#128 by unfold vK;rw[zL zBY])
    go_wp2
    go_roundw
    case rel=>exact⟨k+1,by omega,by go_num,Q.out.1,Q.out.2.1,Q.out.2.2.1.congr fun y _=>QV _ _ HF.out y,Q.out.2.2.2⟩
    case measure=>simp[intOf];omega
  ·have ke:=zW (show k=h by omega)
   have ki:¬(k:Int)<(h:Int):=zBY
   have q2:=zW Q.out.2.1
   have q3:=zW (Q.out.2.2.1.congr (Q:=vK P dx dy m h) fun y hy=>CD _ _ (fun j hj=>JZ _ _ _ _ _ _ (by have:=ke.out;omega)) y)
   have hb:=zW Q.out.2.2.2
   clear Q
   go_upto_region 10 with fail
   refine zN ?_
   refine lX rfl 69 (.tmp 11) rfl (w.heap.size+2) zBR _ _ _ _ q3.out Tryz.underlying69 rfl zRM ?_
   refine wpList_store_row rfl 69 (.tmp 8) (.tmp 44) rfl (w.heap.size+1) (mQ (vK P dx dy m h)) zBL zBL _ _ q2.out zRM (by rw[mY,mY]) (xD _) ?_
   have q4:=zW (q2.out.store (vK P dx dy m h))
   have hb2:=zW (yW hb.out (show w.heap.size≤w.heap.size+1 by omega) (mQ (vK P dx dy m h)))
   generalize wr.setRow (w.heap.size+1) (mQ (vK P dx dy m h))=w4 at*
   iterate 4 go_step
   exact zT (zF rfl _ _ (w.heap.size+1) _ _ _ _ rfl q4.out Tryz.underlying69 rfl zRM) rfl ⟨rfl,hb2.out⟩
def oF(F:FuncId)(op:BitVec 128→BitVec 128→BitVec 128):Prop:=
 ∀(h l h' l' v1 v2:BitVec 64),op (h++l) (h'++l')=v1++v2→∀w:World,Calls Tryz.prog F #[.agg #[.int .u64 (h.toNat:Int),.int .u64 (l.toNat:Int)],.agg #[.int .u64 (h'.toNat:Int),.int .u64 (l'.toNat:Int)]] w fun e w'=>
  e=.returned (.agg #[.int .u64 (v1.toNat:Int),.int .u64 (v2.toNat:Int)])∧Below w.heap.size w w'
def bD(op:BitVec 128→BitVec 128→BitVec 128)(A B:Pl)(k:Nat):Pl:=fun y=>if y<k then op (A y) (B y)else A y
theorem MJ(op:BitVec 128→BitVec 128→BitVec 128)(A B:Pl)(k:Nat)(r:BitVec 128)(hr:op (A k) (B k)=r)(y:Nat):W0 (bD op A B k) k r y=bD op A B (k+1) y:=by
 unfold bD;by_cases e:y=k
 ·subst e;rw[bJ,zG zBY,hr]
 ·rw[gP _ _ _ _ e];by_cases e2:y<k
  ·rw[zG e2,zG zBY]
  ·rw[zL e2,zL zBY]
theorem YZ(op:BitVec 128→BitVec 128→BitVec 128)(A B:Pl)(k:Nat):bD op A B k k=A k:=by
 rw[bD,zL zBY]
theorem zLB(w:World)(t:TypeId)(A B:Pl):vJ w.heap.size t A ((w.alloc (.cells (mQ A) t)).alloc (.cells (mQ B) t))∧vJ (w.heap.size+1) t B ((w.alloc (.cells (mQ A) t)).alloc (.cells (mQ B) t))∧
  Below w.heap.size w ((w.alloc (.cells (mQ A) t)).alloc (.cells (mQ B) t))∧((w.alloc (.cells (mQ A) t)).alloc (.cells (mQ B) t)).heap.size=w.heap.size+1+1:=by
 have S1:(w.alloc (.cells (mQ A) t)).heap.size=w.heap.size+1:=zBT;have N2:=vJ.new (w.alloc (.cells (mQ A) t)) B t;rw[S1]at N2;exact⟨(vJ.new w A t).alloc _,N2,(cH w _).alloc (by rw[S1];omega) _,by simp⟩
theorem oI(w:World)(t:TypeId)(A B C:Pl):vJ w.heap.size t A (((w.alloc (.cells (mQ A) t)).alloc (.cells (mQ B) t)).alloc (.cells (mQ C) t))∧vJ (w.heap.size+1) t B (((w.alloc (.cells (mQ A) t)).alloc (.cells (mQ B) t)).alloc (.cells (mQ C) t))∧
  vJ (w.heap.size+1+1) t C (((w.alloc (.cells (mQ A) t)).alloc (.cells (mQ B) t)).alloc (.cells (mQ C) t))∧Below w.heap.size w (((w.alloc (.cells (mQ A) t)).alloc (.cells (mQ B) t)).alloc (.cells (mQ C) t)):=by
 obtain⟨h1,h2,h3,h4⟩:=zLB w t A B;have N3:=vJ.new ((w.alloc (.cells (mQ A) t)).alloc (.cells (mQ B) t)) C t;rw[h4]at N3;exact⟨h1.alloc _,h2.alloc _,N3,h3.alloc (by rw[h4];omega) _⟩
theorem EC(op:BitVec 128→BitVec 128→BitVec 128)(hF:oF 268 op)(A B:Pl)(w:World):
  Calls Tryz.prog 267 #[.agg (mQ A),.agg (mQ B),.func (.func 268) #[] #[]] w fun e w'=>e=.returned (.agg (mQ fun y=>op (A y) (B y)))∧Below w.heap.size w w':=by
 have hz:=rQ;have FF:=zW hF;obtain⟨Z,hZ⟩:∃Z:Pl,(fun y=>op (A y) (B y))=Z:=⟨_,rfl⟩;rw[hZ];have ZZ:=zW hZ;clear hF hZ;go_enter Tryz.func267,Tryz.ntmps267;go_upto_region 1 with fail;have L:=zW (oI w 69 A B (fun _=>0#128));generalize ((w.alloc (.cells (mQ A) 69)).alloc (.cells (mQ B) 69)).alloc (.cells (mQ fun _=>0#128) 69)=w3 at*;clear hz;go_wp2;go_loopw [8] (fun i wr=>∃k:Nat,k≤64∧i=.int .i64 (k:Int)∧vJ w.heap.size 69 (bD op A B k) wr∧vJ (w.heap.size+1) 69 B wr∧vJ (w.heap.size+1+1) 69 (fun _=>0#128) wr∧Below w.heap.size w wr) (fun i _=>64-(intOf i).toNat)
 case atStart=>exact⟨0,by omega,rfl,L.out.1.congr fun y _=>by simp[bD],L.out.2.1,L.out.2.2.1,L.out.2.2.2⟩
 case round=>
  clear L
  obtain⟨k,hk,rfl,h1',h2',h3',hB⟩:=hrel
  have Q:=zW (zY h1' (zY h2' (zY h3' hB)))
  clear h1' h2' h3' hB
  by_cases hlt:k<64
  ·have ki:(k:Int)<64:=zBY
   obtain⟨v1,v2,ev⟩:=wW (op (A k) (B k))
   have FC:=zW fun w=>FF.out (hi (A k)) (lo (A k)) (hi (B k)) (lo (B k)) v1 v2 (by rw[QP,QP,ev]) w
   have EV:=zW ev
   have KL:=zW hlt
   clear ev
   have a1:=Q.out.1.left k hlt
   have a2:=Q.out.1.right k hlt
   rw[YZ]at a1 a2
   have a3:=Q.out.2.1.left k hlt
   have a4:=Q.out.2.1.right k hlt
   generalize hi (A k)=u1 at*
   generalize lo (A k)=u2 at*
   generalize hi (B k)=u3 at*
   generalize lo (B k)=u4 at*
   go_wp2
   have Q1:=zW (zY Q.out.1.drew (zY Q.out.2.1.drew (zY Q.out.2.2.1.drew Q.out.2.2.2.drew)))
   clear Q
   go_region_with (go_at_call 268;refine(FC.out _).mono ?_;rintro e wc ⟨rfl,b3⟩;have Q:=zW (zY (Q1.out.1.step b3) (zY (Q1.out.2.1.step b3) (zY (Q1.out.2.2.1.step b3) (Q1.out.2.2.2.trans (b3.mono Q1.out.2.2.2.size)))));clear Q1 b3 a1 a2 a3 a4;have a1:=Q.out.1.left k KL.out;have a2:=Q.out.1.right k KL.out;have a3:=Q.out.1.frozen (k*2);have a4:=Q.out.1.frozen (k*2+1))
   all_goals
    go_wp2
    go_roundw
    case rel=>
     exact⟨k+1,by omega,by go_num,(Q.out.1.row k KL.out v1 v2).congr fun y _=>MJ op A B k _ EV.out y,(Q.out.2.1.other zBY _ _).other zBY _ _,(Q.out.2.2.1.other zBY _ _).other zBY _ _,(Q.out.2.2.2.setCell (p:=⟨w.heap.size,k*2,none⟩) zBT _).setCell (p:=⟨w.heap.size,k*2+1,none⟩) zBT _⟩
    case measure=>simp[intOf];omega
  ·have ke:=zW (show k=64 by omega)
   have ki:¬(k:Int)<64:=zBY
   have q1:=zW (Q.out.1.congr (Q:=Z) fun y hy=>by rw[bD,zG (by rw[ke.out];exact hy),←ZZ.out])
   have q2:=zW Q.out.2.2.1
   have hb:=zW Q.out.2.2.2
   clear Q
   go_upto_region 6 with fail
   refine zN ?_
   refine lX rfl 69 (.tmp 3) rfl w.heap.size zBR _ _ _ _ q1.out Tryz.underlying69 rfl zRM ?_
   refine wpList_store_row rfl 69 (.tmp 6) (.tmp 25) rfl (w.heap.size+1+1) _ zBL (by simp[Act.eval,Act.put];rfl) _ _ q2.out zRM (by rw[mY,mY]) (xD _) ?_
   have q4:=zW (q2.out.store Z)
   have hb2:=zW (yW hb.out (show w.heap.size≤w.heap.size+1+1 by omega) (mQ Z))
   generalize wr.setRow (w.heap.size+1+1) (mQ Z)=w4 at*
   iterate 4 go_step
   exact zT (zF rfl _ _ (w.heap.size+1+1) _ _ _ _ rfl q4.out Tryz.underlying69 rfl zRM) rfl ⟨rfl,hb2.out⟩
theorem EU(op:BitVec 128→BitVec 128→BitVec 128)(hF:oF 269 op)(A B:Pl)(w:World):
  Calls Tryz.prog 267 #[.agg (mQ A),.agg (mQ B),.func (.func 269) #[] #[]] w fun e w'=>e=.returned (.agg (mQ fun y=>op (A y) (B y)))∧Below w.heap.size w w':=by
 have hz:=rQ;have FF:=zW hF;obtain⟨Z,hZ⟩:∃Z:Pl,(fun y=>op (A y) (B y))=Z:=⟨_,rfl⟩;rw[hZ];have ZZ:=zW hZ;clear hF hZ;go_enter Tryz.func267,Tryz.ntmps267;go_upto_region 1 with fail;have L:=zW (oI w 69 A B (fun _=>0#128));generalize ((w.alloc (.cells (mQ A) 69)).alloc (.cells (mQ B) 69)).alloc (.cells (mQ fun _=>0#128) 69)=w3 at*;clear hz;go_wp2;go_loopw [8] (fun i wr=>∃k:Nat,k≤64∧i=.int .i64 (k:Int)∧vJ w.heap.size 69 (bD op A B k) wr∧vJ (w.heap.size+1) 69 B wr∧vJ (w.heap.size+1+1) 69 (fun _=>0#128) wr∧Below w.heap.size w wr) (fun i _=>64-(intOf i).toNat)
 case atStart=>exact⟨0,by omega,rfl,L.out.1.congr fun y _=>by simp[bD],L.out.2.1,L.out.2.2.1,L.out.2.2.2⟩
 case round=>
  clear L
  obtain⟨k,hk,rfl,h1',h2',h3',hB⟩:=hrel
  have Q:=zW (zY h1' (zY h2' (zY h3' hB)))
  clear h1' h2' h3' hB
  by_cases hlt:k<64
  ·have ki:(k:Int)<64:=zBY
   obtain⟨v1,v2,ev⟩:=wW (op (A k) (B k))
   have FC:=zW fun w=>FF.out (hi (A k)) (lo (A k)) (hi (B k)) (lo (B k)) v1 v2 (by rw[QP,QP,ev]) w
   have EV:=zW ev
   have KL:=zW hlt
   clear ev
   have a1:=Q.out.1.left k hlt
   have a2:=Q.out.1.right k hlt
   rw[YZ]at a1 a2
   have a3:=Q.out.2.1.left k hlt
   have a4:=Q.out.2.1.right k hlt
   generalize hi (A k)=u1 at*
   generalize lo (A k)=u2 at*
   generalize hi (B k)=u3 at*
   generalize lo (B k)=u4 at*
   go_wp2
   have Q1:=zW (zY Q.out.1.drew (zY Q.out.2.1.drew (zY Q.out.2.2.1.drew Q.out.2.2.2.drew)))
   clear Q
   go_region_with (go_at_call 269;refine(FC.out _).mono ?_;rintro e wc ⟨rfl,b3⟩;have Q:=zW (zY (Q1.out.1.step b3) (zY (Q1.out.2.1.step b3) (zY (Q1.out.2.2.1.step b3) (Q1.out.2.2.2.trans (b3.mono Q1.out.2.2.2.size)))));clear Q1 b3 a1 a2 a3 a4;have a1:=Q.out.1.left k KL.out;have a2:=Q.out.1.right k KL.out;have a3:=Q.out.1.frozen (k*2);have a4:=Q.out.1.frozen (k*2+1))
   all_goals
    go_wp2
    go_roundw
    case rel=>
     exact⟨k+1,by omega,by go_num,(Q.out.1.row k KL.out v1 v2).congr fun y _=>MJ op A B k _ EV.out y,(Q.out.2.1.other zBY _ _).other zBY _ _,(Q.out.2.2.1.other zBY _ _).other zBY _ _,(Q.out.2.2.2.setCell (p:=⟨w.heap.size,k*2,none⟩) zBT _).setCell (p:=⟨w.heap.size,k*2+1,none⟩) zBT _⟩
    case measure=>simp[intOf];omega
  ·have ke:=zW (show k=64 by omega)
   have ki:¬(k:Int)<64:=zBY
   have q1:=zW (Q.out.1.congr (Q:=Z) fun y hy=>by rw[bD,zG (by rw[ke.out];exact hy),←ZZ.out])
   have q2:=zW Q.out.2.2.1
   have hb:=zW Q.out.2.2.2
   clear Q
   go_upto_region 6 with fail
   refine zN ?_
   refine lX rfl 69 (.tmp 3) rfl w.heap.size zBR _ _ _ _ q1.out Tryz.underlying69 rfl zRM ?_
   refine wpList_store_row rfl 69 (.tmp 6) (.tmp 25) rfl (w.heap.size+1+1) _ zBL (by simp[Act.eval,Act.put];rfl) _ _ q2.out zRM (by rw[mY,mY]) (xD _) ?_
   have q4:=zW (q2.out.store Z)
   have hb2:=zW (yW hb.out (show w.heap.size≤w.heap.size+1+1 by omega) (mQ Z))
   generalize wr.setRow (w.heap.size+1+1) (mQ Z)=w4 at*
   iterate 4 go_step
   exact zT (zF rfl _ _ (w.heap.size+1+1) _ _ _ _ rfl q4.out Tryz.underlying69 rfl zRM) rfl ⟨rfl,hb2.out⟩
theorem zKR:(Tryz.prog.info? 67).map (·.size)=some 128:=by kernel_rfl
theorem zLI:(Tryz.prog.info? 66).map (·.size)=some 2:=by kernel_rfl
theorem QE(P:Pl)(k:Nat)(hk:k<64):(mQ P).extract (k*2) (k*2+2)=#[.int .u64 ((hi (P k)).toNat:Int),.int .u64 ((lo (P k)).toNat:Int)]:=by
 apply qH
 intro j
 rw[lV];by_cases hj:j<2
 ·rw[zG (by rw[mY];omega),uH _ _ zBY];rcases(show j=0∨j=1 by omega)with rfl|rfl
  ·rw[show k*2+0=2*k by omega,oC];rfl
  ·rw[show k*2+1=2*k+1 by omega,JC];rfl
 ·rw[zL (by rw[mY];omega),zE zBS]
section
variable {P:Program}
theorem aI(d:Nat)(ta tr:TypeId)(dr:TypeDesc)(n sz:Nat)(xs ys:Array Value)(r:Nat→Bool)(hd:(match dr with| .struct _| .array _ _=>true|_=>false)=true)(ht:P.underlying ta=some (.array n tr))(hu:P.underlying tr=some dr)(hi:(P.info? tr).map (·.size)=some sz)
  (h:∀i,i<n→∀w,(Op.equalIn d tr (.agg (xs.extract (i*sz) (i*sz+sz))) (.agg (ys.extract (i*sz) (i*sz+sz)))).run P w=.ok (r i) w) (w:World):
  (Op.equalIn (d+1) ta (.agg xs) (.agg ys)).run P w=.ok ((List.range' 0 n).all r) w:=by
 cases hq:P.info? tr with
 |none=>simp[hq]at hi
 |some i=>
  have hs:i.size=sz:=zRI
  simp only[Op.equalIn,qW,kL ht,qX,sizeOf,typeInfo,hq,hs,jW]
  have go:∀l:List Nat,(∀i∈l,i<n)→(forIn (m:=Sem) l ((none:Option Bool),()) (fun i _=>do
      let a←part tr xs (i*sz)
      let b←part tr ys (i*sz)
      let r←Op.equalIn d tr a b
      if r=false then pure (ForInStep.done (some false,()))else pure (ForInStep.yield (none,())))).run P w=.ok ((if l.all r then none else some false),()) w:=by
   intro l;induction l with
   |nil=>intro _;simp
   |cons k l ih=>
    intro hl
    simp only[List.forIn_cons,qW,eC tr dr xs (k*sz) sz w hd hu hi,eC tr dr ys (k*sz) sz w hd hu hi,qX,h k (hl k zBT) w]
    cases hk:r k
    ·simp[hk]
    ·simp[hk]
     have:=ih fun i hi=>hl i (by simp[hi])
     simpa using this
  have hgo:=go (List.range' 0 n) fun i hi=>by have:=lJ.1 hi;omega
  simp[qW,hq,hs,Std.Legacy.Range.forIn_eq_forIn_range']at hgo⊢
  rw[hgo]
  have ha:(List.range' 0 n).all r=true↔∀x,x<n→r x=true:=by simp[jA,lJ]
  by_cases hall:∀x,x<n→r x=true
  ·rw[ha.2 hall];simp only[qX,zG hall];simp
  ·cases hb:(List.range' 0 n).all r
   ·simp only[qX,zL hall];simp
   ·exact absurd (ha.1 hb) hall
end
def bK(A B:Pl):Bool:=(List.range' 0 64).all fun y=>decide (A y=B y)
theorem aA(A B:Pl):bK A B=true↔∀y,y<64→A y=B y:=by
 unfold bK;rw[jA];constructor
 ·intro h y hy;have:=h y (by rw[lJ];omega);exact qZ this
 ·intro h y hy;rw[lJ]at hy;exact zO (h y zBY)
theorem zKU(h l h' l':BitVec 64)(d:Nat)(w:World):(Op.equalIn (d+2) 66 (.agg #[.int .u64 (h.toNat:Int),.int .u64 (l.toNat:Int)]) (.agg #[.int .u64 (h'.toNat:Int),.int .u64 (l'.toNat:Int)])).run Tryz.prog w=.ok (decide (h++l=h'++l')) w:=by
 have ht:Tryz.prog.underlying 66=some (.struct (Tryz.prog.fieldsOf 66)):=zBM;have hp:Tryz.prog.stoodInHeld 66=false:=zBM;rw[run_equalIn_struct (P:=Tryz.prog) w (d+1) 66 _ _ ht hp];simp[Program.fieldsOf,Tryz.underlying66,Op.eqFields,go_sem];have e:h++l=h'++l'↔((h.toNat:Int)=h'.toNat∧(l.toNat:Int)=l'.toNat):=by
  rw[zGZ,←BitVec.toNat_inj,←BitVec.toNat_inj];omega
 by_cases e1:(h.toNat:Int)=h'.toNat
 ·by_cases e2:(l.toNat:Int)=l'.toNat
  ·rw[zG e1,zG e2,zO (e.2 ⟨e1,e2⟩)]
  ·rw[zG e1,zL e2,zC fun q=>e2 (e.1 q).2]
 ·rw[zL e1,zC fun q=>e1 (e.1 q).1]
theorem DL(C:Pl):(mQ C).extract 0 (0+128)=mQ C:=by
 apply qH
 intro j
 rw[lV,mY];by_cases hj:j<128
 ·rw[zG zBY,qB]
 ·rw[zL zBY,zE (by rw[mY];omega)]
theorem TD(A B:Pl)(d:Nat)(w:World):(Op.equalIn (d+4) 69 (.agg (mQ A)) (.agg (mQ B))).run Tryz.prog w=.ok (bK A B) w:=by
 have ht:Tryz.prog.underlying 69=some (.struct (Tryz.prog.fieldsOf 69)):=zBM;have hp:Tryz.prog.stoodInHeld 69=false:=zBM;rw[run_equalIn_struct (P:=Tryz.prog) w (d+3) 69 _ _ ht hp];have hx:∀C:Pl,(part 67 (mQ C) 0).run Tryz.prog w=.ok (.agg (mQ C)) w:=by
  intro C;rw[eC (P:=Tryz.prog) 67 _ (mQ C) 0 128 w rfl Tryz.underlying67 zKR,DL]
 have he:(Op.equalIn (d+3) 67 (.agg (mQ A)) (.agg (mQ B))).run Tryz.prog w=.ok (bK A B) w:=aI (P:=Tryz.prog) (d+2) 67 66 _ 64 2 (mQ A) (mQ B) (fun y=>decide (A y=B y)) rfl Tryz.underlying67 Tryz.underlying66 zLI (fun y hy w=>by
  rw[QE A y hy,QE B y hy,zKU,QP,QP]) w
 have hxA:=hx A;have hxB:=hx B;clear hx ht hp;generalize bK A B=v at*;generalize mQ A=CA at*;generalize mQ B=CB at*;simp only[Program.fieldsOf,Tryz.underlying69,Op.eqFields];rw[zG zBH,qW,hxA,qX,qW,hxB,qX,qW,he,qX];cases v
 ·rw[zG zBH,jW]
 ·rw[zL zBH,jW]
theorem zZ2(A B:Pl)(w:World):(binOp .neq 69 (.agg (mQ A)) (.agg (mQ B))).run Tryz.prog w=.ok (.bool (!bK A B)) w:=by
 have h:=TD A B 9996 w;have e:(10000:Nat)=9996+4:=zBH;rw[run_neq_struct,e,h];simp only[qX]
theorem V8:Tryz.prog.eqGuardType Tryz.prog.depth 69=false:=by kernel_rfl
section
variable {P:Program} {ops:Array Oper} {C:World→Prop} {Q:Act→Prop}
theorem uW{o:Oper}{rest:List Oper}{a:Act}(hgd:o.guard=none)(v:Value)(h1:∀w,C w→(execOp a.eval o).run P w=.ok (.value v) w)(h:wpQuiet P ops C Q rest (a.put o.dst v)):wpQuiet P ops C Q (o::rest) a:=by
 have hw:Region.wanted o (yielded ops a.tmps)=true:=by simp[Region.wanted,hgd]
 exact zFI
theorem fE{o:Oper}{ρ:Operand→Value}{w:World}(ty:TypeId)(x:Operand)(ho:o.op=.load ty x)(g:Nat)(hx:ρ x=.pointer (some ⟨g,0,none⟩))(t:TypeId)(cs:Array Value)(fr:Nat×Nat)(d:TypeDesc)(hg:w.heap[g]?=some (.cells cs t fr))
  (hu:P.underlying ty=some d) (hd:(match d with| .struct _| .array _ _=>true|_=>false)=true) (hi:(P.info? ty).map (·.size)=some cs.size):(execOp ρ o).run P w=.ok (.value (.agg cs)) w:=by
 unfold execOp;simp only[ho,hx,Instr.loadAt,Instr.sureAddr,qW,jW,qX,run_loadVar_row w g t ty cs fr d hg hu hd hi]
theorem LP{o:Oper}{ρ:Operand→Value}{w:World}(ty:TypeId)(ho:o.op=.build ty #[])(r:Value)(hr:(Instr.build ty #[]).run P w=.ok r w):(execOp ρ o).run P w=.ok (.value r) w:=by
 unfold execOp;simp only[ho];rw[show(#[]:Array (Nat×Operand)).map (fun(x:Nat×Operand)=>(x.1,ρ x.2))=#[] by simp,qW,hr];simp[qX]
end
theorem DT{P:Program}{o:Oper}{ρ:Operand→Value}{w:World}(x:Operand)(ho:o.op=.assign x)(v:Value)(hx:ρ x=v):(execOp ρ o).run P w=.ok (.value v) w:=by
 unfold execOp;simp[ho,hx]
theorem tY{P:Program}{fn:Func}{p q:Tmp}{ty:TypeId}(h:fn.results=#[.cell p ty,.tmp q])(tmps:Array Value)(w:World)(g:Nat)(t:TypeId)(cs:Array Value)(fr:Nat×Nat)(d:TypeDesc)(v:Value)
  (hp:tmps.getD p undef=.pointer (some ⟨g,0,none⟩)) (hq:tmps.getD q undef=v) (hg:w.heap[g]?=some (.cells cs t fr))
  (hu:P.underlying ty=some d) (hd:(match d with| .struct _| .array _ _=>true|_=>false)=true) (hi:(P.info? ty).map (·.size)=some cs.size):
  (results fn tmps).run P w=.ok (.tuple #[.agg cs,v]) w:=by
 exact zD8
theorem MV(w:World):(Instr.build 69 #[]).run Tryz.prog w=.ok (.agg (mQ fun _=>0#128)) w:=by
 refine run_build w 69 _ _ ?_;obtain⟨it,hit,hz⟩:=kV.1 ZB;simp only[jC]at hz;have hp:(match Tryz.prog.underlying 69 with|some (.struct fields)=>fields.toList.mapM (fun f=>(Tryz.prog.info? f.type).map fun i=>(f.offset,i.size))|_=>none)=some [(0,128)]:=by kernel_rfl
 rw[Tryz.underlying69]at hp;unfold Program.built;rw[hit,Tryz.underlying69];simp only at hp⊢;rw[hz.1,hp];rfl
theorem DH{o:Oper}{ρ:Operand→Value}{w:World}(x y:Operand)(z:TypeId)(ho:o.op=.binOp .neq 69 x y z)(A B:Pl)(hx:ρ x=.agg (mQ A))(hy:ρ y=.agg (mQ B)):(execOp ρ o).run Tryz.prog w=.ok (.value (.bool (!bK A B))) w:=by
 unfold execOp;simp only[ho,hx,hy];rw[qW,qW,run_eqGuard_agg w .neq 69 x y (mQ A) (mQ B) V8,qX,zZ2,qX,jW]
theorem zZM(A B:Pl):(!bK (fun y=>A y&&&B y) (fun _=>0#128))=sG A B:=by
 rw[Bool.eq_iff_iff,zVB];cases h:bK (fun y=>A y&&&B y) (fun _=>0#128)
 ·simp only[Bool.not_false,true_iff];rcases Classical.em (∃y,y<64∧A y&&&B y≠0#128)with h2|h2
  ·exact h2
  ·have h3:=(aA (fun y=>A y&&&B y) (fun _=>0#128)).2 fun y hy=>by
    rcases Classical.em (A y&&&B y=0#128)with h4|h4
    ·exact h4
    ·exact absurd ⟨y,hy,h4⟩ h2
   rw[h]at h3;cases h3
 ·simp only[Bool.not_true,Bool.false_eq_true,false_iff];rintro⟨y,hy,h4⟩;exact h4 ((aA _ _).1 h y hy)
theorem WX:oF 268 (·^^^·):=fun h l h' l' v1 v2 e w=>xorW e w
theorem WK:oF 269 (·&&&·):=fun h l h' l' v1 v2 e w=>andW e w
structure PB2(s:Nat)(t:TypeId)(A B:Pl) where
 w:World
 a:vJ s t A w
 b:vJ (s+1) t B w
theorem zW0(A B:Pl)(w:World):
  Calls Tryz.prog 236 #[.agg (mQ A),.agg (mQ B)] w fun e w'=>e=.returned (.tuple #[.agg (mQ (bT A B)),.bool (sG A B)])∧Below w.heap.size w w':=by
 have hz:=rQ;obtain⟨Z,hZ⟩:∃Z,bT A B=Z:=⟨_,rfl⟩;obtain⟨X,hX⟩:∃X:Pl,(fun y=>A y&&&B y)=X:=⟨_,rfl⟩;obtain⟨hb,hh⟩:∃hb,sG A B=hb:=⟨_,rfl⟩;have CX:=zW fun w=>EC (·^^^·) WX A B w;have CA:=zW fun w=>EU (·&&&·) WK A B w;have SZ:=zW (zZM A B);have DE:(fun y=>A y^^^B y)=bT A B:=rfl;rw[DE,hZ]at CX;rw[hX]at CA SZ;rw[hh]at SZ;rw[hZ,hh];clear hZ hX hh DE;go_enter Tryz.func236,Tryz.ntmps236;go_upto_region 1 with fail;have L:=zW (oI w 69 A B (fun _=>0#128));generalize ((w.alloc (.cells (mQ A) 69)).alloc (.cells (mQ B) 69)).alloc (.cells (mQ fun _=>0#128) 69)=w3 at*;clear hz;refine nR (C:=fun w'=>∃x:PB2 w.heap.size 69 A B,w'=x.w) [([0,1,3,4,6],2),([],5),([7],8)] [9] zBM zBM (fun _ _ d _ _ h=>by cases d<;>exact h) ⟨⟨w3.drew,L.out.1.drew,L.out.2.1.drew⟩,rfl⟩ ?_;intro wd hwd;have D:=zW (show vJ w.heap.size 69 A wd∧vJ (w.heap.size+1) 69 B wd∧vJ (w.heap.size+1+1) 69 (fun _=>0#128) wd∧Below w.heap.size w wd by rw[hwd];exact⟨L.out.1.drew,L.out.2.1.drew,L.out.2.2.1.drew,L.out.2.2.2.drew⟩);clear hwd L;refine nD zBN zBB ?_;refine uW rfl (.agg (mQ A)) (fun w' hC=>by obtain⟨x,rfl⟩:=hC;exact fE 69 (.tmp 2) rfl w.heap.size zBL _ _ _ _ x.a Tryz.underlying69 rfl zRM) ?_;refine uW rfl (.agg (mQ B)) (fun w' hC=>by obtain⟨x,rfl⟩:=hC;exact fE 69 (.tmp 3) rfl (w.heap.size+1) zBL _ _ _ _ x.b Tryz.underlying69 rfl zRM) ?_;refine uW rfl (.agg (mQ A)) (fun w' hC=>by obtain⟨x,rfl⟩:=hC;exact fE 69 (.tmp 2) rfl w.heap.size zBL _ _ _ _ x.a Tryz.underlying69 rfl zRM) ?_;refine uW rfl (.agg (mQ B)) (fun w' hC=>by obtain⟨x,rfl⟩:=hC;exact fE 69 (.tmp 3) rfl (w.heap.size+1) zBL _ _ _ _ x.b Tryz.underlying69 rfl zRM) ?_;refine uW rfl _ (fun w' _=>LP 69 rfl _ (MV w')) ?_;refine zM ?_;refine nK zBB ?_;intro K hK;go_wp2_with fail;refine(CX.out _).mono ?_;rintro e w4 ⟨rfl,b4⟩;have D4:=zW (zY (D.out.1.step b4) (zY (D.out.2.1.step b4) (zY (D.out.2.2.1.step b4) (D.out.2.2.2.trans (b4.mono D.out.2.2.2.size)))));clear D b4;simp only[];refine hK _ _ ⟨⟨w4,D4.out.1,D4.out.2.1⟩,rfl⟩ ?_;clear hK K;refine nD zBN zBB ?_;refine zM ?_;refine nK zBB ?_;intro K hK;go_wp2_with fail;refine(CA.out _).mono ?_;rintro e w5 ⟨rfl,b5⟩;have D5:=zW (zY (D4.out.1.step b5) (zY (D4.out.2.1.step b5) (zY (D4.out.2.2.1.step b5) (D4.out.2.2.2.trans (b5.mono D4.out.2.2.2.size)))));clear D4 b5;simp only[];refine hK _ _ ⟨⟨w5,D5.out.1,D5.out.2.1⟩,rfl⟩ ?_;clear hK K;refine nD zBN zBB ?_;refine uW rfl (.bool hb) (fun w' _=>by rw[←SZ.out];exact DH (.tmp 11) (.tmp 12) _ rfl X (fun _=>0#128) zBL zBL) ?_;refine zM ?_;refine nK zBB ?_;intro K hK;refine wp_store_row 69 (.tmp 4) (.tmp 8) rfl (w.heap.size+1+1) (mQ Z) zBL zBL _ _ D5.out.2.2.1 zRM (by rw[mY,mY]) (xD _) ?_;have q4:=zW (D5.out.2.2.1.store Z);have q5:=zW (zY (D5.out.1.otherRow (g:=w.heap.size+1+1) zBY (mQ Z)) (D5.out.2.1.otherRow (g:=w.heap.size+1+1) zBY (mQ Z)));have hb2:=zW (yW D5.out.2.2.2 (show w.heap.size≤w.heap.size+1+1 by omega) (mQ Z));generalize w5.setRow (w.heap.size+1+1) (mQ Z)=w6 at*;refine hK _ _ ⟨⟨w6,q5.out.1,q5.out.2⟩,rfl⟩ ?_;clear hK K;refine cT zBN ?_;refine uW rfl (.bool hb) (fun w' _=>DT (.tmp 13) rfl _ zBL) ?_;refine zM ?_;iterate 3 go_step
 exact zT (tY rfl _ _ (w.heap.size+1+1) _ _ _ _ (.bool hb) rfl rfl q4.out Tryz.underlying69 rfl zRM) rfl ⟨rfl,hb2.out⟩
theorem T7(A:Option Addr)(L:List Nat)(n cap c x y:Nat)(clip b:Bool)(m h:Nat)(hr:Res b m h)(w:World)(H:gK w A L)(hL:∀x∈L,x≤65535)(hn:L.length=n)(n1:n≤16)(c8:c=8∨c=16)(hx:x<m)(hy:y<h):
  Calls Tryz.prog 237 #[.slice A n cap,.int .i64 (c:Int),.int .i64 (x:Int),.int .i64 (y:Int),.bool b,.bool clip] w fun e w'=>e=.returned (.agg (mQ (spr (nth L) n c x y m h clip)))∧Below w.heap.size w w':=by
 obtain⟨m0,m1,h0,h1⟩:=hr.bounds;have HH:=zW (zY H (zY hL hn));have RR:=zW hr;have hz:=rQ;have C8:=zW c8;have cc:c≤16:=zBY;clear hr H hL hn c8;go_enter Tryz.func237,Tryz.ntmps237;go_wp2_with fail;have N1:=zW (vJ.new w (fun _=>0#128) 69);have B1:=zW (cH w (.cells (mQ fun _=>0#128) 69));have S1:(w.alloc (.cells (mQ fun _=>0#128) 69)).heap.size=w.heap.size+1:=zBT;generalize w.alloc (.cells (mQ fun _=>0#128) 69)=w1 at*;refine(KQ RR.out w1).mono ?_;rintro e w' ⟨rfl,rfl⟩;go_wp2;have L2:=zW (vJ.new w1 (fun _=>0#128) 69);rw[S1]at L2;have L1:=zW (N1.out.alloc (.cells (mQ fun _=>0#128) 69));have B2:=zW (B1.out.alloc (by rw[S1];omega) (.cells (mQ fun _=>0#128) 69));clear N1 B1 S1 hz;generalize w1.alloc (.cells (mQ fun _=>0#128) 69)=w2 at*;go_loopw [26] (fun t wr=>∃i:Nat,i≤n∧t=.int .i64 (i:Int)∧vJ w.heap.size 69 (fun _=>0#128) wr∧vJ (w.heap.size+1) 69 (spr (nth L) i c x y m h clip) wr∧Below w.heap.size w wr) (fun t _=>n-(intOf t).toNat)
 case atStart=>exact⟨0,by omega,rfl,L1.out,L2.out.congr fun j _=>(RU _ _ _ _ _ _ _ hy j).symm,B2.out⟩
 case round=>
  clear L1 L2 B2
  obtain⟨i,hi,rfl,h1',h2',hB⟩:=hrel
  have Q:=zW (zY h1' (zY h2' hB))
  clear h1' h2' hB
  by_cases hlt:i<n
  ·have hii:(i:Int)<(n:Int):=zBY
   obtain⟨ad,hA,had,hcell⟩:=(HH.out.1.below Q.out.2.2).at_ (k:=i) (by rw[HH.out.2.2];exact hlt)
   have bl:=zV1 HH.out.2.1 i
   change wr.cell? (ad.add i)=some (.int .u16 (nth L i:Int))at hcell
   obtain⟨v,hv⟩:∃v,nth L i=v:=⟨_,rfl⟩
   rw[hv]at hcell bl
   have HV:=zW hv
   obtain rfl:=hA
   clear hv had
   obtain⟨v1,v2,ev⟩:=wW (bX v c x m clip)
   have SP:=zW fun w=>zLE (b:=v) (c:=c) (x:=x) (m:=m) (clip:=clip) ev rfl rfl rfl rfl C8.out bl zBY m1 w
   have EV:=zW ev
   clear ev
   have ea:(y:Int)+(i:Int)=((y+i:Nat):Int):=zBY
   obtain⟨a,ha⟩:∃a,a=y+i:=⟨_,rfl⟩
   rw[←ha]at ea
   have a9:(a:Int)≤1000:=zBY
   have HA:=zW ha
   clear ha
   rcases kH a h with hin|hin
   ·have r6:a<64:=by have:=HA.out;omega
    have r7:(a:Int)<(h:Int):=zBY
    go_wp2_with fail
    refine(SP.out _).mono ?_
    rintro e w' ⟨rfl,hb⟩
    have Q2:=zW (zY (Q.out.1.step hb) (zY (Q.out.2.1.step hb) (Q.out.2.2.trans (hb.mono Q.out.2.2.size))))
    clear hb hcell
    have c1:=Q2.out.2.1.left a r6
    have c2:=Q2.out.2.1.right a r6
    have c3:=Q2.out.2.1.frozen (a*2)
    have c4:=Q2.out.2.1.frozen (a*2+1)
    generalize Num.hi (spr (nth L) i c x y m h clip a)=u3 at*
    generalize Num.lo (spr (nth L) i c x y m h clip a)=u4 at*
    go_wp2
    go_roundw
    case rel=>
     refine⟨i+1,by omega,by go_num,(Q2.out.1.other zBY _ _).other zBY _ _,(Q2.out.2.1.row a r6 v1 v2).congr fun j _=>?_,(Q2.out.2.2.setCell (p:=⟨w.heap.size+1,a*2,none⟩) zBT _).setCell (p:=⟨w.heap.size+1,a*2+1,none⟩) zBT _⟩
     rw[zKW _ _ _ _ _ _ _ _ zBY hy zR5,HV.out,EV.out,←HA.out]
     by_cases e:j=a
     ·rw[e,bJ,zG rfl]
     ·rw[gP _ _ _ _ e,zL e]
    case measure=>simp[intOf];omega
   ·have hii2:¬(a:Int)<(h:Int):=zBY
    cases clip
    ·obtain⟨r,hr⟩:∃r,r=a-h:=⟨_,rfl⟩
     have HR:=zW hr
     have HRR:=zW (show r=y+i-h by have:=HA.out;omega)
     have er:(a:Int)-(h:Int)=(r:Int):=zBY
     have er7:r<h:=by have:=HA.out;omega
     clear hr
     have r6:r<64:=by have:=HA.out;omega
     have r7:(r:Int)<(h:Int):=zBY
     go_wp2_with fail
     refine(SP.out _).mono ?_
     rintro e w' ⟨rfl,hb⟩
     have Q2:=zW (zY (Q.out.1.step hb) (zY (Q.out.2.1.step hb) (Q.out.2.2.trans (hb.mono Q.out.2.2.size))))
     clear hb hcell
     have c1:=Q2.out.2.1.left r r6
     have c2:=Q2.out.2.1.right r r6
     have c3:=Q2.out.2.1.frozen (r*2)
     have c4:=Q2.out.2.1.frozen (r*2+1)
     generalize Num.hi (spr (nth L) i c x y m h false r)=u3 at*
     generalize Num.lo (spr (nth L) i c x y m h false r)=u4 at*
     go_wp2
     go_roundw
     case rel=>
      refine⟨i+1,by omega,by go_num,(Q2.out.1.other zBY _ _).other zBY _ _,(Q2.out.2.1.row r r6 v1 v2).congr fun j _=>?_,(Q2.out.2.2.setCell (p:=⟨w.heap.size+1,r*2,none⟩) zBT _).setCell (p:=⟨w.heap.size+1,r*2+1,none⟩) zBT _⟩
      rw[OI _ _ _ _ _ _ _ zBY hy zR5,HV.out,EV.out,←HRR.out]
      by_cases e:j=r
      ·rw[e,bJ,zG rfl]
      ·rw[gP _ _ _ _ e,zL e]
     case measure=>simp[intOf];omega
    ·go_wp2
     go_roundw
     case rel=>
      exact⟨i+1,by omega,by go_num,Q.out.1,Q.out.2.1.congr fun j _=>(TQ _ _ _ _ _ _ _ zR5 j).symm,Q.out.2.2⟩
     case measure=>simp[intOf];omega
  ·have ke:=zW (show i=n by omega)
   have ki:¬(i:Int)<(n:Int):=zBY
   have q1:=zW Q.out.1
   have q2:=zW (Q.out.2.1.congr (Q:=spr (nth L) n c x y m h clip) fun j _=>by rw[ke.out])
   have hb:=zW Q.out.2.2
   clear Q
   go_upto_region 12 with fail
   refine zN ?_
   refine lX rfl 69 (.tmp 15) rfl (w.heap.size+1) zBR _ _ _ _ q2.out Tryz.underlying69 rfl zRM ?_
   refine wpList_store_row rfl 69 (.tmp 12) (.tmp 61) rfl w.heap.size (mQ (spr (nth L) n c x y m h clip)) zBL zBL _ _ q1.out zRM (by rw[mY,mY]) (xD _) ?_
   have q4:=zW (q1.out.store (spr (nth L) n c x y m h clip))
   have hb2:=zW (yW hb.out (zH _) (mQ (spr (nth L) n c x y m h clip)))
   generalize wr.setRow w.heap.size (mQ (spr (nth L) n c x y m h clip))=w4 at*
   iterate 4 go_step
   exact zT (zF rfl _ _ w.heap.size _ _ _ _ rfl q4.out Tryz.underlying69 rfl zRM) rfl ⟨rfl,hb2.out⟩
section
variable {P:Program} {ops:Array Oper} {C:World→Prop}
end
section
variable {ops:Array Oper} {W:World}
theorem I2{Q:Exit→Act→World→Prop}{o:Oper}{rest:List Oper}{a:Act}(hgd:o.guard=none)(ho:o.op=.build 69 #[])(h:wpList Tryz.prog ops Q rest (a.put o.dst (.agg (mQ fun _=>0#128))) W):wpList Tryz.prog ops Q (o::rest) a W:=by
 refine qL hgd fun K hK=>?_;unfold Oper.wp;rw[LP 69 ho _ (MV W)];exact hK _ _ h
end
theorem spW{A:Option Addr}{L:List Nat}{n cap c x y:Nat}{ci xi yi:Int}{clip b:Bool}{m h:Nat}(hr:Res b m h){w:World}(H:gK w A L)(hL:∀x∈L,x≤65535)(hn:L.length=n)(n1:n≤16)(c8:c=8∨c=16)(hx:x<m)(hy:y<h)(e1:ci=(c:Int))(e2:xi=(x:Int))(e3:yi=(y:Int)){Z:Pl}(hZ:spr (nth L) n c x y m h clip=Z):
  Calls Tryz.prog 237 #[.slice A n cap,.int .i64 ci,.int .i64 xi,.int .i64 yi,.bool b,.bool clip] w fun e w'=>e=.returned (.agg (mQ Z))∧Below w.heap.size w w':=by
 subst e1 e2 e3 hZ;exact T7 A L n cap c x y clip b m h hr w H hL hn n1 c8 hx hy
theorem drW{A B Z:Pl}{v:Bool}(e1:bT A B=Z)(e2:sG A B=v)(w:World):Calls Tryz.prog 236 #[.agg (mQ A),.agg (mQ B)] w fun e w'=>e=.returned (.tuple #[.agg (mQ Z),.bool v])∧Below w.heap.size w w':=by
 subst e1 e2;exact zW0 A B w
theorem scW{A Z:Pl}{dx dy:Int}{b:Bool}{m h:Nat}(hr:Res b m h)(e:vK A dx dy m h=Z)(d0: -1000≤dx)(d1:dx≤1000)(e0: -1000≤dy)(e1:dy≤1000)(w:World):Calls Tryz.prog 239 #[.agg (mQ A),.int .i64 dx,.int .i64 dy,.bool b] w fun e w'=>e=.returned (.agg (mQ Z))∧Below w.heap.size w w':=by
 subst e;exact A4 A dx dy b m h hr w d0 d1 e0 e1
theorem gK.step{w w':World}{A:Option Addr}{L:List Nat}(h:gK w A L)(hb:Below w.heap.size w w'):gK w' A L:=h.below hb
theorem rsN{N:Nat}(hN:N=8192){A:Option Addr}{L:List Nat}{n cap c x y:Nat}{ci xi yi:Int}{clip b:Bool}{m h:Nat}(hr:Res b m h){w:World}(H:gK w A L)(hL:∀x∈L,x≤65535)(hn:L.length=n)(n1:n≤16)(c8:c=8∨c=16)(hx:x<m)(hy:y<h)(e1:ci=(c:Int))(e2:xi=(x:Int))(e3:yi=(y:Int)){F:Nat→Bool}(hF:gZ (nth L) n c x y m h clip=F):
  Calls Tryz.prog 215 #[.slice A n cap,.int .i64 ci,.int .i64 xi,.int .i64 yi,.bool b,.bool clip] w fun e w'=>∃g,e=.returned (.slice (some ⟨g,0,none⟩) N N)∧w.heap.size≤g∧Pxs g F w'∧Below w.heap.size w w':=by
 subst hN e1 e2 e3 hF;exact VZ A L n cap c x y clip b m h hr w H hL hn n1 zBY zBY hx hy
theorem rdN{N:Nat}(hN:N=8192){g1 g2:Nat}{f1 f2:Nat→Bool}{w:World}(H1:Pxs g1 f1 w)(H2:Pxs g2 f2 w){F:Nat→Bool}{v:Bool}(hF:(fun i=>f1 i^^f2 i)=F)(hv:gX (fun i=>f1 i&&f2 i) N=v):
  Calls Tryz.prog 214 #[.slice (some ⟨g1,0,none⟩) N N,.slice (some ⟨g2,0,none⟩) N N] w fun e w'=>∃g,e=.returned (.tuple #[.slice (some ⟨g,0,none⟩) N N,.bool v])∧w.heap.size≤g∧Pxs g F w'∧Below w.heap.size w w':=by
 subst hF hv hN;exact zZF g1 g2 f1 f2 w H1 H2
theorem rscN{N:Nat}(hN:N=8192){g:Nat}{f:Nat→Bool}{dx dy:Int}{b:Bool}{m h:Nat}(hr:Res b m h){w:World}(H:Pxs g f w)(d0: -1000≤dx)(d1:dx≤1000)(e0: -1000≤dy)(e1:dy≤1000){F:Nat→Bool}(hF:rW f dx dy m h=F):
  Calls Tryz.prog 217 #[.slice (some ⟨g,0,none⟩) N N,.int .i64 dx,.int .i64 dy,.bool b] w fun e w'=>∃g,e=.returned (.slice (some ⟨g,0,none⟩) N N)∧w.heap.size≤g∧Pxs g F w'∧Below w.heap.size w w':=by
 subst hN hF;exact TP g f dx dy b m h hr w H d0 d1 e0 e1
theorem zNJ(bits:Nat→Nat)(len c x y m h:Nat)(clip:Bool):fwd (gZ bits len c x y m h clip)=spr bits len c x y m h clip:=funext fun j=>UJ bits len c x y m h clip j
structure Sc where
 P:Nat→Pl
 hi:Bool
 M:Int
def wU(S:Sc)(j:Nat):Value:=if j<512 then .int .u64 (wG (S.P (j/128)) (j%128))else if j=512 then .bool S.hi else .int .i64 S.M
def lO(S:Sc):Array Value:=((List.range 514).map (wU S)).toArray
theorem mV(S:Sc):(lO S).size=514:=by simp[lO]
theorem vM(S:Sc)(j:Nat)(hj:j<514):(lO S)[j]?=some (wU S j):=by simp[lO,hj]
theorem vE(S:Sc):cL (lO S):=by
 unfold cL;rw[jV];intro v hv;simp only[lO,lF,jR,j8]at hv;obtain⟨j,_,rfl⟩:=hv;unfold wU;split
 ·rfl
 ·split<;>rfl
theorem YE{A B:Pl}(h:∀y,y<64→A y=B y){j:Nat}(hj:j<128):wG A j=wG B j:=by
 unfold wG;rw[h (j/2) zBY]
theorem gG{S T:Sc}(h:∀i,i<4→∀y,y<64→S.P i y=T.P i y)(hh:S.hi=T.hi)(hM:S.M=T.M):lO S=lO T:=by
 unfold lO;refine congrArg List.toArray (List.map_congr_left fun j hj=>?_);have hj:=j8.1 hj;unfold wU;by_cases h5:j<512
 ·rw[zG h5,zG h5,YE (h (j/128) zBY) zBY]
 ·rw[zL h5,zL h5,hh,hM]
theorem zKC(S:Sc)(i:Nat)(hi:i<4):(lO S).extract (i*128) (i*128+128)=mQ (S.P i):=by
 apply qH
 intro j
 rw[lV,mV];by_cases hj:j<128
 ·rw[zG zBY,vM _ _ zBY,uH _ _ hj];unfold wU;rw[zG zBY,show(i*128+j)/128=i by omega,show(i*128+j)%128=j by omega]
 ·rw[zL zBY,zE (by rw[mY];omega)]
def Sc.put(S:Sc)(i:Nat)(Q:Pl):Sc:=⟨fun k=>if k=i then Q else S.P k,S.hi,S.M⟩
def Sc.mask(S:Sc)(m:Int):Sc:=⟨S.P,S.hi,m⟩
theorem sc_put(S:Sc)(i:Nat)(hi:i<4)(Q:Pl):m3 (lO S) (i*128) (mQ Q)=lO (S.put i Q):=by
 unfold m3;apply qH
 intro j
 have hsz:(lO S).toList.length=514:=by rw[kP,mV]
 have hpz:(mQ Q).toList.length=128:=by rw[kP,mY]
 rw[zX,List.getElem?_append,List.getElem?_append,jB,qV,hsz,hpz]
 rw[show min (i*128) 514=i*128 by omega]
 by_cases h1:j<i*128
 ·rw[zG zBY,zG h1,List.getElem?_take,zG h1,jY,vM _ _ zBY,vM _ _ zBY];unfold wU Sc.put;rw[zG zBY,zG zBY];simp only;rw[zL zBY]
 ·by_cases h2:j<i*128+128
  ·rw[zG h2,zL h1,jY,uH _ _ zBY,vM _ _ zBY];unfold wU Sc.put;rw[zG zBY];simp only;rw[zG zBY,show j%128=j-i*128 by omega]
  ·rw[zL h2,kO,mY,show i*128+128+(j-(i*128+128))=j by omega,jY];by_cases h3:j<514
   ·rw[vM _ _ h3,vM _ _ h3];unfold wU Sc.put;by_cases h5:j<512
    ·rw[zG h5,zG h5];simp only;rw[zL zBY]
    ·rw[zL h5,zL h5]
   ·rw[zE zRU,zE zRU]
theorem VQ(S:Sc)(m:Int):(lO S).setIfInBounds 513 (.int .i64 m)=lO (S.mask m):=by
 apply qH
 intro j
 rw[jJ,mV];by_cases h1:513=j
 ·subst h1;rw[zG rfl,zG zBY,vM _ _ zBY];rfl
 ·rw[zL h1];by_cases h3:j<514
  ·rw[vM _ _ h3,vM _ _ h3];unfold wU Sc.mask;by_cases h5:j<512
   ·rw[zG h5,zG h5]
   ·rw[zL h5,zL h5,zG zBY,zG zBY]
  ·rw[zE zRU,zE zRU]
def m6(hi:Bool)(M:Int):Sc:=⟨fun _ _=>0#128,hi,M⟩
theorem WL(hires:Bool)(M:Int):lO (m6 hires M)=((Array.replicate 512 (.int .u64 0)).push (.bool hires)).push (.int .i64 M):=by
 apply qH
 intro j
 by_cases h3:j<514
 ·rw[vM _ _ h3,Array.getElem?_push,Array.getElem?_push];unfold wU m6;by_cases h5:j<512
  ·rw[zG h5,zL zBS,zL zBS];unfold wG;simp[Array.getElem?_replicate,h5,hi,lo]
  ·rw[zL h5];by_cases h6:j=512
   ·rw[zG h6,zL zBS,zG zBS]
   ·rw[zL h6,zG zBS]
 ·rw[zE zRU,zE zBS]
theorem yQ:xX Tryz.prog 72 514:=⟨⟨_,Tryz.underlying72,rfl⟩,by kernel_rfl⟩
theorem t9:xX Tryz.prog 69 128:=⟨⟨_,Tryz.underlying69,rfl⟩,by kernel_rfl⟩
theorem G9:(Tryz.prog.info? 72).map (fun i=>(i.zero,i.size))=some (some (.agg (lO (m6 false 0))),514):=by
 rw[WL];kernel_rfl
theorem YD:cY Tryz.prog 72 (lO (m6 false 0)):=by
 unfold cY;rw[mV];exact G9
theorem zeroPl:cY Tryz.prog 69 (mQ fun _=>0#128):=by
 unfold cY;rw[mY];exact ZB
theorem wH(w:World):(zeroValue 72).run Tryz.prog w=.ok (.agg (lO (m6 false 0))) w:=tK YD
def SB(b:Nat)(S:Sc)(w:World):Prop:=Blk b 72 (lO S) w
section
variable {b:Nat} {S T:Sc} {w w':World}
theorem SB.lt(H:SB b S w):b<w.heap.size:=Blk.lt H
theorem SB.below(H:SB b S w){n:Nat}(hb:Below n w w')(hn:b<n):SB b S w':=Blk.below H hb hn
theorem SB.step(H:SB b S w)(hb:Below w.heap.size w w'):SB b S w':=Blk.step H hb
theorem SB.new(w:World)(S:Sc):SB w.heap.size S (w.alloc (.cells (lO S) 72)):=Blk.new _ _ _
theorem SB.alloc(H:SB b S w)(o:Obj):SB b S (w.alloc o):=Blk.alloc H o
theorem SB.drew(H:SB b S w):SB b S w.drew:=H
theorem SB.other(H:SB b S w){g:Nat}(hg:b≠g)(o:Nat)(v:Value):SB b S (w.setCell ⟨g,o,none⟩ v):=Blk.other H hg o v
theorem SB.otherRow(H:SB b S w){g:Nat}(hg:b≠g)(ds:Array Value):SB b S (w.setRow g ds):=Blk.otherRow H hg ds
theorem SB.hires(H:SB b S w):w.cell? ⟨b,512,none⟩=some (.bool S.hi):=by rw[Blk.cell H,vM _ _ zBY];rfl
theorem SB.maskc(H:SB b S w):w.cell? ⟨b,513,none⟩=some (.int .i64 S.M):=by rw[Blk.cell H,vM _ _ zBY];rfl
theorem SB.fz(H:SB b S w)(j:Nat):w.frozen? ⟨b,j,none⟩=false:=Blk.frozen H j
theorem SB.store(H:SB b S w)(T:Sc):SB b T (w.setRow b (lO T)):=Blk.store H _
theorem SB.setMask(H:SB b S w)(m:Int):SB b (S.mask m) (w.setCell ⟨b,513,none⟩ (.int .i64 m)):=(Blk.put H 513 _).eq (VQ S m)
theorem SB.congr(H:SB b S w)(e:lO S=lO T):SB b T w:=Blk.eq H e
end
section
variable {ops:Array Oper} {C:World→Prop}
end
end
section
open Go.RowKit Go.Shelf Num
attribute [local go_sem] Oper.semAt_some
def cK(M k:Nat):List (Fin 4):=(List.finRange 4).filter fun i=>decide (i.val<k)&&onB M i.val
theorem tX(M:Nat):cK M 0=[]:=by simp[cK]
theorem yB(M k:Nat)(hk:k<4):cK M (k+1)=cK M k++if onB M k then[⟨k,hk⟩]else[]:=by
 unfold cK;generalize h0:onB M 0=b0;generalize h1:onB M 1=b1;generalize h2:onB M 2=b2;generalize h3:onB M 3=b3;have e:∀k,(List.finRange 4).filter (fun i=>decide (i.val<k)&&onB M i.val)=(List.finRange 4).filter (fun i=>decide (i.val<k)&&(if i.val=0 then b0 else if i.val=1 then b1 else if i.val=2 then b2 else b3)):=fun k=>by
  refine List.filter_congr fun i _=>?_;rcases i with⟨i,hi⟩;rcases(show i=0∨i=1∨i=2∨i=3 by omega)with rfl|rfl|rfl|rfl<;>simp[h0,h1,h2,h3]
 rw[e,e];clear e;rcases(show k=0∨k=1∨k=2∨k=3 by omega)with rfl|rfl|rfl|rfl
 ·rw[h0];clear h0 h1 h2 h3 M;revert b0 b1 b2 b3 hk;decide
 ·rw[h1];clear h0 h1 h2 h3 M;revert b0 b1 b2 b3 hk;decide
 ·rw[h2];clear h0 h1 h2 h3 M;revert b0 b1 b2 b3 hk;decide
 ·rw[h3];clear h0 h1 h2 h3 M;revert b0 b1 b2 b3 hk;decide
theorem NI(M k:Nat):(cK M k).length≤k:=by
 by_cases h:k≤4
 ·induction k with
  |zero=>rw[tX];simp
  |succ k ih=>
   have:=ih zBY
   rw[yB M k zBY]
   split<;>simp<;>omega
 ·exact zD (List.length_filter_le _ _) zBS
theorem AU(M:Nat){j k:Nat}(h:j≤k)(hk:k≤4):(cK M j).length≤(cK M k).length:=by
 induction k with
 |zero=>
  obtain rfl:j=0:=by omega
  exact zH _
 |succ k ih=>
  rcases(show j=k+1∨j≤k by omega)with rfl|h1
  ·exact zH _
  ·refine zD (ih h1 zBY) ?_
   rw[yB M k zBY,jB]
   omega
theorem zKP(M:Nat){k:Nat}(hk:k<4)(h:onB M k=true):(cK M k).length<(cK M 4).length:=by
 have h1:=AU M (show k+1≤4 by omega) (zH 4);rw[yB M k hk,zG h,jB,List.length_singleton]at h1;omega
def oD(b:Nat)(W W':World):Prop:=W'.heap[b]?=W.heap[b]?
theorem zGX(a:Nat)(ha:a<9223372036854775808):bits .and .i64 (a:Int) 1=((a%2:Nat):Int):=by
 unfold bits;have e:(BitVec.ofInt IntKind.i64.bits (a:Int)&&&BitVec.ofInt IntKind.i64.bits 1).toNat=a%2:=by
  show(BitVec.ofInt 64 (a:Int)&&&BitVec.ofInt 64 1).toNat=a%2;rw[BitVec.ofInt_natCast,BitVec.toNat_and,BitVec.toNat_ofNat,kW zBY,show(BitVec.ofInt 64 1).toNat=1 by decide,Nat.and_one_is_mod]
 simp only[e];rcases(show a%2=0∨a%2=1 by omega)with h|h<;>rw[h]<;>decide
theorem shr_on(M k:Nat)(hM:M≤10000):∃z:Nat,(M:Int)/2^k=(z:Int)∧bits .and .i64 (z:Int) 1=(if onB M k then 1 else 0):=by
 refine⟨M/2^k,by simp,?_⟩;have:=Nat.div_le_self M (2^k);rw[zGX _ zBY];unfold onB;by_cases h:M/2^k%2=1
 ·rw[h];simp
 ·rw[show M/2^k%2=0 by omega];simp
theorem Y7(m:Nat)(hm:1≤m)(l Bm M:Nat)(hM:M≤10000)(J Jx:List (Fin 4)→World→Prop)
  (hY:∀pre x W,J pre W→pre.length<(cK M 4).length→YieldAt Fence.wide (m-1) Tryz.prog l #[.int .i64 ((x:Fin 4).val:Int)] W fun e W'=>
   (e=.returned (.bool true)∧J (pre++[x]) W'∧oD Bm W W')∨(e=.returned (.bool false)∧Jx (pre++[x]) W'))
  (W:World) (hB:Boxed W Bm 3 (.int .i64 (M:Int))) (h0:J [] W):
  CallsIn Fence.wide m Tryz.prog 265 #[.func (.yield l) #[] #[],.pointer (some ⟨Bm,0,none⟩)] W fun e W'=>(∃v,e=.returned v)∧
   ((∃ys,ys=cK M 4∧J ys W')∨(∃pre,True∧Jx pre W')):=by
 refine callsIn_of_wp Tryz.func265 rfl trivial ?_ rfl;simp only[Tryz.ntmps265,kD,jH,kQ,Nat.reduceAdd,Nat.reduceSub,kZ,kJ,kF,kY,jP,jF];gi_wp2
 gi_loopw [4] (fun i wr=>∃k:Nat,k≤4∧i=.int .i64 k∧Boxed wr Bm 3 (.int .i64 (M:Int))∧J (cK M k) wr) (fun i _=>4-(intOf i).toNat)
 case atStart=>exact⟨0,by omega,rfl,hB,by rw[tX];exact h0⟩
 case round=>
  obtain⟨k,hk,rfl,hB,hJ⟩:=hrel
  by_cases hlt:k<4
  ·have cm:=hB.cell
   have ki:(k:Int)<4:=zBY
   obtain⟨z,z1,z2⟩:=shr_on M k hM
   have SU:=zW (yB M k hlt)
   cases hon:onB M k
   ·rw[hon,zL zBH]at z2
    have SV:=zW hon
    clear hon
    gi_wp2
    refine⟨fun _ h=>(by cases h),?_⟩
    gi_wp2
    go_roundw
    case rel=>exact⟨k+1,by omega,by go_num,hB,by rw[SU.out,SV.out,zL zBH,lK];exact hJ⟩
    case measure=>simp[intOf];omega
   ·rw[hon,zG rfl]at z2
    have SV:=zW hon
    clear hon
    obtain⟨fn,tmps,assign,body,hy,hR⟩:=hY (cK M k) ⟨k,hlt⟩ wr hJ (zKP M hlt SV.out)
    dsimp only at hy
    gi_wp2
    refine hR.mono ?_
    rintro e W3 (⟨rfl,hJ3,hk3⟩|⟨rfl,hJx3⟩)
    ·gi_wp2
     go_roundw
     case rel=>exact⟨k+1,by omega,by go_num,hk3.trans hB,by rw[SU.out,SV.out,zG rfl];exact hJ3⟩
     case measure=>simp[intOf];omega
    ·gi_wp2
     refine zT (results_none rfl _ _ _) rfl ?_
     exact⟨⟨_,rfl⟩,.inr ⟨_,trivial,hJx3⟩⟩
  ·have hkn:k=4:=zBY
   subst hkn
   gi_wp2
   go_end0
   exact⟨⟨_,rfl⟩,.inl ⟨_,rfl,hJ⟩⟩
theorem QZ(m:Nat)(M:Int)(w:World):CallsIn Fence.wide m Tryz.prog 232 #[.int .i64 M] w fun e w'=>
   e=.returned (.func (.func 265) #[] #[.pointer (some ⟨w.heap.size,0,none⟩)])∧w'=w.alloc (.cells #[.int .i64 M] 3):=by
 refine callsIn_of_wp Tryz.func232 rfl trivial ?_ rfl;simp only[Tryz.ntmps232,kD,jH,kQ,Nat.reduceAdd,Nat.reduceSub,kZ,kJ,kF,kY,jP,jF];gi_wp2
 go_ret;exact⟨rfl,rfl⟩
theorem s7(m:Nat)(hm:1≤m)(Bm M:Nat)(hM:M≤10000)(w:World)(hB:Boxed w Bm 3 (.int .i64 (M:Int))):
  SeqStopsK Fence.wide m Tryz.prog 265 #[.pointer (some ⟨Bm,0,none⟩)] (fun x:Fin 4=> #[Value.int .i64 (x.val:Int)]) (oD Bm) (fun ys=>ys=cK M 4) (fun _=>True) (cK M 4).length w:=fun l J Jx W hW _ _ hY h0=>
 Y7 m hm l Bm M hM J Jx hY W ((hW.block Bm hB.lt).trans hB) h0
theorem oD.trans{b:Nat}{u v w:World}(h:oD b u v)(h':oD b v w):oD b u w:=Eq.trans h' h
theorem XT{b:Nat}{W:World}{l:Nat}{o':Obj}(h1:b≠l):oD b W (W.putObj l o'):=lR h1
theorem NU(n:Nat)(big:Bool)(w:World):Calls Tryz.prog 231 #[.int .i64 (n:Int),.bool big] w fun e w'=>e=.returned (.tuple #[.int .i64 ((if big then 16 else n:Nat):Int),.int .i64 ((if big then 2 else 1:Nat):Int)])∧w=w':=by
 cases big
 all_goals
  go_enter Tryz.func231,Tryz.ntmps231
  go_wp2
  go_ret2
  exact⟨rfl,rfl⟩
attribute [local go_sem] Oper.semAt_some
theorem LH(M n:Nat)(big:Bool)(k:Nat)(hk:k≤4):xJ M n big k=(cK M k).length*per n big:=by
 induction k with
 |zero=>rw[tX];simp[xJ]
 |succ k ih=>
  rw[xJ,ih zBY,yB M k zBY]
  split
  ·simp[Nat.add_mul]
  ·simp
theorem ZV(n:Nat)(big:Bool):(if big then 16 else n)*(if big then 2 else 1)=per n big:=by
 unfold per;cases big<;>simp
theorem XN(S:Sc)(M n:Nat)(big:Bool)(hM:S.M=(M:Int))(M1:M≤10000)(n1:n≤32)(w:World):
  Calls Tryz.prog 201 #[.agg (lO S),.int .i64 (n:Int),.bool big] w fun e w'=>e=.returned (.int .i64 (xJ M n big 4:Nat))∧Below w.heap.size w w':=by
 refine(callsIn_wide (n:=6)).1 ?_;have S0:=zW (SB.new w S);have B0:=zW (cH w (.cells (lO S) 72));have Z0:(w.alloc (.cells (lO S) 72)).heap.size=w.heap.size+1:=zBT;obtain⟨r,hr⟩:∃r:Nat,(if big then 16 else n)=r:=⟨_,rfl⟩;obtain⟨z,hz⟩:∃z:Nat,(if big then 2 else 1)=z:=⟨_,rfl⟩;have r1:(r:Int)≤32:=by rw[←hr];split<;>omega
 have z1:(z:Int)≤2:=by rw[←hz];split<;>omega
 have PZ:=zW (show r*z=per n big by rw[←hr,←hz,ZV]);have SH:=zW fun w=>NU n big w;rw[hr,hz]at SH;have HM:=zW hM;clear hr hz hM;refine callsIn_of_wp_marks Tryz.func201 rfl trivial ?_ rfl;simp only[Tryz.ntmps201,kD,jH,kQ,Nat.reduceAdd,Nat.reduceSub,kZ,kJ,kF,kY,jP,jF];gi_wp2_with fail
 generalize w.alloc (.cells (lO S) 72)=w1 at*;refine⟨trivial,?_⟩;gi_at_call 231
 refine(callsIn_wide.2 (SH.out _)).mono ?_;rintro e w' ⟨rfl,rfl⟩;have c513:=S0.out.maskc;have l0:=S0.out.lt;rw[HM.out]at c513;gi_wp2_with fail
 clear c513 l0;have B7:=zW (((kX w1 3 (.int .i64 (r:Int))).alloc (.cells #[.int .i64 (z:Int)] 3)).alloc (.cells #[.int .i64 0] 3));have B8:=zW ((kX (w1.alloc (.cells #[.int .i64 (r:Int)] 3)) 3 (.int .i64 (z:Int))).alloc (.cells #[.int .i64 0] 3));have B9:=zW (kX ((w1.alloc (.cells #[.int .i64 (r:Int)] 3)).alloc (.cells #[.int .i64 (z:Int)] 3)) 3 (.int .i64 0));have BB:=zW (((B0.out.alloc B0.out.size (.cells #[.int .i64 (r:Int)] 3)).alloc (by simp[Z0];omega) (.cells #[.int .i64 (z:Int)] 3)).alloc (by simp[Z0];omega) (.cells #[.int .i64 0] 3));rw[zR,Z0]at B8;rw[zR,zR,Z0]at B9;rw[Z0]at B7;have Z3:(((w1.alloc (.cells #[.int .i64 (r:Int)] 3)).alloc (.cells #[.int .i64 (z:Int)] 3)).alloc (.cells #[.int .i64 0] 3)).heap.size=w.heap.size+4:=by simp[Z0]
 generalize ((w1.alloc (.cells #[.int .i64 (r:Int)] 3)).alloc (.cells #[.int .i64 (z:Int)] 3)).alloc (.cells #[.int .i64 0] 3)=w2 at*;clear Z0 S0 B0 w1;refine⟨trivial,?_⟩;refine(QZ _ _ _).mono ?_;rintro e w' ⟨rfl,rfl⟩;simp only[];gi_wp2_with fail
 have BM:=kX w2 3 (.int .i64 (M:Int));have B7:=zW (B7.out.alloc (.cells #[.int .i64 (M:Int)] 3));have B8:=zW (B8.out.alloc (.cells #[.int .i64 (M:Int)] 3));have B9:=zW (B9.out.alloc (.cells #[.int .i64 (M:Int)] 3));have BB:=zW (BB.out.alloc (by rw[Z3];omega) (.cells #[.int .i64 (M:Int)] 3));have Z4:(w2.alloc (.cells #[.int .i64 (M:Int)] 3)).heap.size=w.heap.size+5:=by simp[Z3]
 rw[Z3]at BM⊢;generalize w2.alloc (.cells #[.int .i64 (M:Int)] 3)=w3 at*;clear Z3;obtain⟨pz,hpz⟩:∃pz:Nat,r*z=pz:=⟨_,rfl⟩;have pz1:pz≤64:=by rw[←hpz];exact Nat.mul_le_mul (by omega:r≤32) (by omega:z≤2)
 have hpI:(r:Int)*(z:Int)=(pz:Int):=by rw[←hpz];simp
 have PQ:=zW (show pz=per n big by rw[←hpz,PZ.out]);clear hpz PZ;refine wpIn_rangeFunc_ownG rfl zBY (gf:=265) (lb:=#[.pointer (some ⟨w.heap.size+4,0,none⟩)]) rfl trivial (enters_of Tryz.func265 zBM rfl)
  (s7 _ zBY (w.heap.size+4) M M1 w3 BM) oD.trans (fun W l o o' hl _ _ _=>XT zBY) (zB _ _) (fun _=>rfl)
  (fun pre W=>Boxed W (w.heap.size+1) 3 (.int .i64 (r:Int))∧Boxed W (w.heap.size+1+1) 3 (.int .i64 (z:Int))∧Boxed W (w.heap.size+1+1+1) 3 (.int .i64 ((pre.length*pz:Nat):Int))∧Below w.heap.size w W)
  (fun _ _ _=>False)
  (OwnFrom.and (Own.from (boxed_own _ _ _) _) (OwnFrom.and (Own.from (boxed_own _ _ _) _) (OwnFrom.and (Own.from (boxed_own _ _ _) _) (ownFrom_below (zH _) zBY))))
  (fun _ _ _ _ _ hs _ _=>hs)
  ⟨B7.out,B8.out,by simpa using B9.out,BB.out⟩
  (fun x=>{tmps:=#[.agg (lO S),.int .i64 (n:Int),.bool big,.pointer (some ⟨w.heap.size,0,none⟩),undef,undef,.int .i64 0,.pointer (some ⟨w.heap.size+1,0,none⟩),.pointer (some ⟨w.heap.size+1+1,0,none⟩),.pointer (some ⟨w.heap.size+1+1+1,0,none⟩),.tuple #[.int .i64 (r:Int),.int .i64 (z:Int)],.int .i64 (n:Int),.bool big,.tuple #[.int .i64 (r:Int),.int .i64 (z:Int)],.int .i64 (r:Int),.int .i64 (z:Int),.pointer (some ⟨w.heap.size,513,none⟩),.int .i64 (M:Int),.func (.func 265) #[] #[.pointer (some ⟨w.heap.size+4,0,none⟩)],.int .i64 (x.val:Int),undef,undef,undef,undef,undef,undef],defers:=[]}) ?assign ?body ?done ?stop
 case assign=>
  intro l x W K hK
  gi_wp2
  go_simp
  exact hK
 case body=>
  rintro l pre x W ⟨h7,h8,h9,hB⟩ hlt
  have c7:=h7.cell
  have c8:=h8.cell
  have c9:=h9.cell
  have f9:=h9.frozen
  have HH:=zW (zY h7 (zY h8 (zY h9 hB)))
  obtain⟨t,ht⟩:∃t:Nat,pre.length*pz=t:=⟨_,rfl⟩
  have t1:t≤256:=by rw[←ht];exact Nat.mul_le_mul (by have:=NI M 4;omega:pre.length≤4) pz1
  have HT:=zW (show(pre++[x]).length*pz=t+pz by rw[jB,Nat.add_mul,ht];simp)
  rw[ht]at c9 HH
  clear h7 h8 h9 hB ht hlt
  gi_wp2
  refine⟨(KeepsOthers.setCell _ _ _).from _,?_,HH.out.1.other zBY _,HH.out.2.1.other zBY _,?_,HH.out.2.2.2.setCell (p:=⟨w.heap.size+1+1+1,0,none⟩) (by show w.heap.size≤w.heap.size+1+1+1;omega) _⟩
  ·exact qQ W ⟨w.heap.size+1+1+1,0,none⟩ _ _ (by show w.heap.size+4≠w.heap.size+1+1+1;omega)
  ·rw[HT.out]
   exact HH.out.2.2.1.set _
 case done=>
  rintro D ys W hD rfl ⟨h7,h8,h9,hB⟩ hK
  have c9:=h9.cell
  rw[show((cK M 4).length*pz:Nat)=xJ M n big 4 by rw[LH M n big 4 zBY,PQ.out]]at c9
  gi_wp2
  refine⟨by simp,.inl ⟨_,_,rfl,run_takeDeferred hK,?_⟩⟩
  refine⟨_,results_tmp rfl _ _ _,rfl,?_⟩
  exact hB.trans (belowK_b (w:=w) (zH _) W D _ _ zBY hK rfl rfl)
 case stop=>
  rintro D c pre W _ _ h _
  exact h.elim
attribute [local go_sem] Oper.semAt_some
structure But(T:Nat→Prop)(w w':World):Prop where
 os:w'.os=w.os
 tape:w'.tape=w.tape
 output:w'.output=w.output
 size:w.heap.size≤w'.heap.size
 block:∀k,k<w.heap.size→¬T k→w'.heap[k]?=w.heap[k]?
section
variable {T:Nat→Prop} {u w w':World}
theorem But.refl(T:Nat→Prop)(w:World):But T w w:=⟨rfl,rfl,rfl,zH _,fun _ _ _=>rfl⟩
theorem But.trans(h:But T u w)(k:But T w w'):But T u w':=⟨k.os.trans h.os,k.tape.trans h.tape,k.output.trans h.output,zD h.size k.size,fun j hj ht=>(k.block j (zS hj h.size) ht).trans (h.block j hj ht)⟩
theorem But.of_below(h:Below w.heap.size w w'):But T w w':=⟨h.os,h.tape,h.output,h.size,fun k hk _=>h.block k hk⟩
theorem But.all(h:But (fun _=>False) w w'):Below w.heap.size w w':=⟨h.os,h.tape,h.output,h.size,fun k hk=>h.block k hk id⟩
theorem But.below(h:But T w w'){B:Nat}(hB:B≤w.heap.size)(hT:∀k,T k→B≤k):Below B w w':=⟨h.os,h.tape,h.output,h.size,fun k hk=>h.block k zBY fun ht=>by have:=hT k ht;omega⟩
theorem But.mono{T':Nat→Prop}(h:But T w w')(hT:∀k,T k→T' k):But T' w w':=⟨h.os,h.tape,h.output,h.size,fun k hk ht=>h.block k hk fun h=>ht (hT k h)⟩
theorem But.row{b:Nat}(cs:Array Value)(h:T b):But T w (w.setRow b cs):=⟨rfl,rfl,rfl,by simp[World.setRow],fun k hk ht=>zA w b k cs (fun e=>ht (e▸h))⟩
theorem But.cell{b:Nat}(o:Nat)(v:Value)(h:T b):But T w (w.setCell ⟨b,o,none⟩ v):=⟨rfl,rfl,rfl,by simp,fun k hk ht=>qQ w _ v k (fun e=>ht (e▸h))⟩
theorem But.drew:But T w w.drew:=⟨rfl,rfl,rfl,zH _,fun _ _ _=>rfl⟩
theorem Blk.but{b:Nat}{t:TypeId}{cs:Array Value}(H:Blk b t cs w)(h:But T w w')(hb:¬T b):Blk b t cs w':=(h.block b H.lt hb).trans H
end
def sD(step:Nat→Pl→Pl)(n:Nat)(S:Sc):List (Fin 4)→Sc
 |[]=>S
 |x::xs=>sD step (n+1) (S.put x.val (step n (S.P x.val))) xs
theorem ZJ(step:Nat→Pl→Pl):∀(pre:List (Fin 4)) (n:Nat) (S:Sc) (x:Fin 4),sD step n S (pre++[x])=(sD step n S pre).put x.val (step (n+pre.length) ((sD step n S pre).P x.val))
 |[],n,S,x=>rfl
 |y::ys,n,S,x=>by
  rw[jF,sD,ZJ step ys,sD,jH,show n+1+ys.length=n+(ys.length+1) by omega]
def rF(step:Nat→Pl→Pl)(n:Nat)(S:Sc):List (Fin 4)→List Pl
 |[]=>[]
 |x::xs=>S.P x.val::rF step (n+1) (S.put x.val (step n (S.P x.val))) xs
theorem pT(step:Nat→Pl→Pl):∀(pre:List (Fin 4)) (n:Nat) (S:Sc) (x:Fin 4),rF step n S (pre++[x])=rF step n S pre++[(sD step n S pre).P x.val]
 |[],n,S,x=>rfl
 |y::ys,n,S,x=>by
  rw[jF,rF,pT step ys,rF,sD];rfl
theorem KA(step:Nat→Pl→Pl):∀(pre:List (Fin 4)) (n:Nat) (S:Sc),(rF step n S pre).length=pre.length
 |[],n,S=>rfl
 |y::ys,n,S=>by rw[rF,jH,KA step ys,jH]
structure ChW(b:Nat)(S:Sc)(fv:Value) where
 w:World
 s:SB b S w
 f:Blk (b+1) 322 #[fv] w
structure ChI(step:Nat→Pl→Pl)(T:Nat→Prop)(G:List Pl→World→Prop)(S:Sc)(fv:Value)(w:World)(ps:List Pl)(Z:Sc)(W:World):Prop where
 s:SB w.heap.size Z W
 f:Blk (w.heap.size+1) 322 #[fv] W
 r:SB (w.heap.size+1+1) (m6 false 0) W
 g:G ps W
 b:But T w W
 sz:w.heap.size+4≤W.heap.size
theorem But.turn{T:Nat→Prop}{u W W':World}{row:Option Nat}(h:But T u W)(hg:W.grownBy W' row)(hr:∀r,row=some r→u.heap.size≤r):But T u W':=
 ⟨hg.os.trans h.os,hg.tape.trans h.tape,hg.output.trans h.output,zD h.size hg.size,fun k hk ht=>(hg.block k (zS hk h.size) (fun e=>by have:=hr k e.symm;omega)).trans (h.block k hk ht)⟩
theorem Blk.turn{b:Nat}{t:TypeId}{cs:Array Value}{W W':World}{row:Option Nat}(H:Blk b t cs W)(hg:W.grownBy W' row)(hr:∀r,row=some r→∃o:Obj,W.heap[r]?=some o∧o.isCells=false):Blk b t cs W':=
 (hg.block b H.lt fun e=>by obtain⟨o,ho,hc⟩:=hr b e.symm;rw[show W.heap[b]?=_ from H]at ho;cases ho;cases hc).trans H
theorem iK(M:Nat){g:Nat}{caps:Array Value}(eg:∀args w,(callFunc g args).run Tryz.prog w=.ok (.enter g args) w)(step:Nat→Pl→Pl)(T:Nat→Prop)(G:List Pl→World→Prop)(w:World)(hT:∀k,T k→k<w.heap.size)
  (hG:∀ps W W',G ps W→Below w.heap.size W W'→G ps W')
  (hf:∀ps p W,ps.length<(cK M 4).length→G ps W→But T w W→Calls Tryz.prog g (#[.agg (mQ p)]++caps) W fun e W'=>e=.returned (.agg (mQ (step ps.length p)))∧G (ps++[p]) W'∧But T W W')
  (S:Sc) (hM:S.M=(M:Int)) (M1:M≤10000) (h0:G [] w):
  Calls Tryz.prog 229 #[.agg (lO S),.func (.func g) #[] caps] w fun e w'=>e=.returned (.agg (lO (sD step 0 S (cK M 4))))∧G (rF step 0 S (cK M 4)) w'∧But T w w':=by
 refine(callsIn_wide (n:=6)).1 ?_;have hz:=wH;have S0:=zW (((SB.new w S).alloc (.cells #[.func (.func g) #[] caps] 322)).alloc (.cells (lO (m6 false 0)) 72));have F0:=zW ((Blk.new (w.alloc (.cells (lO S) 72)) 322 #[.func (.func g) #[] caps]).alloc (.cells (lO (m6 false 0)) 72));have R0:=zW (SB.new ((w.alloc (.cells (lO S) 72)).alloc (.cells #[.func (.func g) #[] caps] 322)) (m6 false 0));have B0:=zW ((((zB _ w).alloc (zH _) (.cells (lO S) 72)).alloc zBT (.cells #[.func (.func g) #[] caps] 322)).alloc zBS (.cells (lO (m6 false 0)) 72));rw[zR]at F0;rw[zR,zR]at R0;have Z0:(((w.alloc (.cells (lO S) 72)).alloc (.cells #[.func (.func g) #[] caps] 322)).alloc (.cells (lO (m6 false 0)) 72)).heap.size=w.heap.size+3:=zBT;have c513:(lO S)[513]?=some (.int .i64 (M:Int)):=by rw[vM _ _ zBY,←hM];rfl
 have HM:=zW hM;have HF:=zW hf;have GG:=zW (zY hT (zY hG h0));clear hM hf hT hG h0;refine callsIn_of_wp_marks Tryz.func229 rfl trivial ?_ rfl;simp only[Tryz.ntmps229,kD,jH,kQ,Nat.reduceAdd,Nat.reduceSub,kZ,kJ,kF,kY,jP,jF];gi_wp2_with fail
 generalize ((w.alloc (.cells (lO S) 72)).alloc (.cells #[.func (.func g) #[] caps] 322)).alloc (.cells (lO (m6 false 0)) 72)=w2 at*;clear c513 hz;refine⟨trivial,?_⟩;refine(QZ _ _ _).mono ?_;rintro e w' ⟨rfl,rfl⟩;simp only[];gi_wp2_with fail
 have BM:=kX w2 3 (.int .i64 (M:Int));have S1:=zW (S0.out.alloc (.cells #[.int .i64 (M:Int)] 3));have F1:=zW (F0.out.alloc (.cells #[.int .i64 (M:Int)] 3));have R1:=zW (R0.out.alloc (.cells #[.int .i64 (M:Int)] 3));have B1:=zW (B0.out.alloc B0.out.size (.cells #[.int .i64 (M:Int)] 3));have Z1:(w2.alloc (.cells #[.int .i64 (M:Int)] 3)).heap.size=w.heap.size+4:=by simp[Z0]
 rw[Z0]at BM⊢;generalize w2.alloc (.cells #[.int .i64 (M:Int)] 3)=w3 at*;clear Z0 S0 F0 R0 B0;refine wpIn_rangeFunc_ownG rfl zBY (gf:=265) (lb:=#[.pointer (some ⟨w.heap.size+3,0,none⟩)]) rfl trivial (enters_of Tryz.func265 zBM rfl)
  (s7 _ zBY (w.heap.size+3) M M1 w3 BM) oD.trans (fun W l o o' hl _ _ _=>XT zBY) (zB _ _) (fun _=>rfl)
  (fun pre W=>ChI step T G S (.func (.func g) #[] caps) w (rF step 0 S pre) (sD step 0 S pre) W)
  (fun _ _ _=>False)
  (fun pre W W' row hs hg hr=>⟨Blk.turn hs.s hg (fun r e=>(hr r e).2),Blk.turn hs.f hg (fun r e=>(hr r e).2),Blk.turn hs.r hg (fun r e=>(hr r e).2),GG.out.2.1 _ _ _ hs.g ⟨hg.os,hg.tape,hg.output,hg.size,fun k hk=>hg.block k (zS hk hs.b.size) (fun e=>by have:=(hr k e.symm).1;omega)⟩,hs.b.turn hg (fun r e=>by have:=(hr r e).1;omega),zD hs.sz hg.size⟩)
  (fun _ _ _ _ _ hs _ _=>hs)
  ⟨S1.out,F1.out,R1.out,GG.out.2.1 _ _ _ GG.out.2.2 B1.out,But.of_below B1.out,by omega⟩
  (fun x=>{tmps:=#[.agg (lO S),.func (.func g) #[] caps,.pointer (some ⟨w.heap.size,0,none⟩),.pointer (some ⟨w.heap.size+1,0,none⟩),.pointer (some ⟨w.heap.size+1+1,0,none⟩),.int .i64 (x.val:Int),.pointer (some ⟨w.heap.size,513,none⟩),.int .i64 (M:Int),.func (.func 265) #[] #[.pointer (some ⟨w.heap.size+3,0,none⟩)],.int .i64 (x.val:Int),undef,undef,undef,undef,undef,undef,undef,undef,undef,undef],defers:=[]}) ?assign ?body ?done ?stop
 case assign=>
  intro l x W K hK
  gi_wp2
  exact hK
 case body=>
  rintro l pre x W H hlt
  obtain⟨k,hk⟩:=x
  obtain⟨Z,hZ⟩:∃Z,sD step 0 S pre=Z:=⟨_,rfl⟩
  obtain⟨ps,hps⟩:∃ps,rF step 0 S pre=ps:=⟨_,rfl⟩
  have hpl:ps.length=pre.length:=by rw[←hps,KA]
  have HP:=zW (show rF step 0 S (pre++[⟨k,hk⟩])=ps++[Z.P k] by rw[pT,hps,hZ])
  rw[hps]at H
  clear hps
  have HZ:=zW (show sD step 0 S (pre++[⟨k,hk⟩])=Z.put k (step ps.length (Z.P k)) by rw[ZJ,hZ,qB,hpl])
  rw[hZ]at H
  have HH:=zW H
  have HL:=zW (zY hlt hk)
  clear H hlt hZ
  gi_step
  apply wpIn_block
  refine oE (C:=fun w'=>∃x:ChW w.heap.size Z (.func (.func g) #[] caps),w'=x.w) 9 [([0,1,2,3,4,5,7],6,false)] [8] [] zBM zBM ?_ ?_ ?_ ⟨⟨W.drew,HH.out.s.drew,HH.out.f.drew⟩,rfl⟩ ?_
  ·exact fun _ _ d _ _ h=>by cases d<;>exact h
  ·exact fun _ _ h=>h
  ·rintro _ w' ⟨x,rfl⟩ h
   exact⟨⟨w',x.s.step h,x.f.step h⟩,rfl⟩
  intro wd hwd
  have D:=zW (show ChI step T G S (.func (.func g) #[] caps) w ps Z wd from by rw[hwd];exact⟨HH.out.s.drew,HH.out.f.drew,HH.out.r.drew,GG.out.2.1 _ _ _ HH.out.g ⟨rfl,rfl,rfl,zH _,fun _ _=>rfl⟩,HH.out.b.trans But.drew,HH.out.sz⟩)
  have KW:=zW (show But T W wd from by rw[hwd];exact But.drew)
  have kI:(k:Int)<4:=zBY
  have cf:∀x:ChW w.heap.size Z (.func (.func g) #[] caps),x.w.cell? ⟨w.heap.size+1,0,none⟩=some (.func (.func g) #[] caps):=fun x=>by rw[x.f.cell];rfl
  have CF:=zW (fun(w':World) (h:∃x:ChW w.heap.size Z (.func (.func g) #[] caps),w'=x.w)=>show w'.cell? ⟨w.heap.size+1,0,none⟩=some (.func (.func g) #[] caps) by obtain⟨x,rfl⟩:=h;exact cf x)
  have HS:=zW (fun(w':World) (h:∃x:ChW w.heap.size Z (.func (.func g) #[] caps),w'=x.w)=>show SB w.heap.size Z w' by obtain⟨x,rfl⟩:=h;exact x.s)
  clear hwd
  dsimp only
  refine vW zBN zBG ?_
  go_big_quiet_step (rfl)
  refine KF ⟨_,Tryz.underlying322,rfl⟩ CF.out rfl (.tmp 3) rfl zBR ?_
  simp only[Act.put,zQ,zZ,zJ]
  go_big_quiet_step (rfl)
  go_big_quiet_step (rfl)
  go_big_quiet_step (rfl)
  refine mG (o:=k*128) (n:=128) t9 HS.out zRU rfl (.tmp 14) rfl zBR ?_
  rw[zKC _ _ hk]
  simp only[Act.put,zQ,zZ,zJ]
  go_big_quiet_step (rfl)
  refine zM ?_
  refine vV rfl ?_
  intro w1 g1 C1 K hK
  have D1:=zW (show ChI step T G S (.func (.func g) #[] caps) w ps Z w1 from⟨D.out.s.step g1,D.out.f.step g1,D.out.r.step g1,GG.out.2.1 _ _ _ D.out.g (g1.mono D.out.b.size),D.out.b.trans (But.of_below g1),zD D.out.sz g1.size⟩)
  have K1:=zW (KW.out.trans (But.of_below g1))
  refine mF (g:=g) (caps:=caps) (args:=#[.agg (mQ (Z.P k))]++caps) (.tmp 11) #[.tmp 15] #[69] rfl eg zBL zBL ?_
  refine(HF.out ps (Z.P k) w1 (by rw[hpl];exact HL.out.1) D1.out.g D1.out.b).mono ?_
  rintro e w2' ⟨rfl,hg2,b2⟩
  have nT:∀j,w.heap.size≤j→¬T j:=fun j hj ht=>by have:=GG.out.1 j ht;omega
  have D2:=zW (show ChI step T G S (.func (.func g) #[] caps) w (ps++[Z.P k]) Z w2' from⟨Blk.but D1.out.s b2 (nT _ zBY),Blk.but D1.out.f b2 (nT _ zBY),Blk.but D1.out.r b2 (nT _ zBY),hg2,D1.out.b.trans b2,zD D1.out.sz b2.size⟩)
  have K2:=zW (K1.out.trans b2)
  clear D D1 K1 KW b2 hg2 g1 C1
  refine⟨_,rfl,?_⟩
  refine hK _ _ ⟨⟨w2',D2.out.s,D2.out.f⟩,rfl⟩ ?_
  clear hK K
  simp only[Act.put,zQ,zZ,zJ]
  refine mE zBN zBG ?_
  go_big_quiet_step (rfl)
  refine zM ?_
  refine mC rfl ?_
  intro w3' g3 C3 K hK
  obtain⟨st,hst⟩:∃st,step ps.length (Z.P k)=st:=⟨_,rfl⟩
  rw[hst]at HZ⊢
  refine nB (o:=k*128) (ds:=mQ st) t9 (D2.out.s.step g3) (mY _) zRU (xD _) (.tmp 18) (.tmp 16) rfl zBL zBL ?_
  rw[sc_put _ _ hk]
  refine hK _ _ ?_
  clear hK K
  refine zM ?_
  intro w4 g4
  have D3:=zW (show ChI step T G S (.func (.func g) #[] caps) w (ps++[Z.P k]) Z w3' from⟨D2.out.s.step g3,D2.out.f.step g3,D2.out.r.step g3,GG.out.2.1 _ _ _ D2.out.g (g3.mono D2.out.b.size),D2.out.b.trans (But.of_below g3),zD D2.out.sz g3.size⟩)
  have K3:=zW (K2.out.trans (But.of_below g3))
  have q1:=Z1
  have hsz:=K3.out.size
  have B4:=zW (show But (fun j=>j=w.heap.size) w3' w4 from(But.row (T:=fun j=>j=w.heap.size) _ rfl).trans (But.of_below g4))
  have hgr:Below w.heap.size w3' w4:=B4.out.below (D3.out.b.size) (fun j hj=>by omega)
  have hWs:=HH.out.sz
  have hkeep:∀j,w.heap.size+1≤j→j<W.heap.size→w4.heap[j]?=W.heap[j]?:=fun j hj hl=>by
   have h1:=K3.out.block j hl (fun ht=>by have:=GG.out.1 j ht;omega);have h2:=B4.out.block j (zS hl K3.out.size) (by show¬j=w.heap.size;omega);exact h2.trans h1
  refine⟨⟨zD K3.out.size B4.out.size,fun j o hB ho hc=>?_⟩,?_,?_⟩
  ·rw[hkeep j zBY (jZ.1 ho).1,ho]
  ·exact hkeep _ zBY zBY
  ·show ChI step T G S (.func (.func g) #[] caps) w (rF step 0 S (pre++[(⟨k,hk⟩:Fin 4)])) (sD step 0 S (pre++[(⟨k,hk⟩:Fin 4)])) w4
   rw[HP.out,HZ.out]
   refine⟨?_,?_,?_,?_,?_,zD D3.out.sz B4.out.size⟩
   ·exact Blk.but (Blk.store D3.out.s _) (But.of_below (T:=fun _=>False) g4) id
   ·exact Blk.but D3.out.f B4.out (by show¬w.heap.size+1=w.heap.size;omega)
   ·exact Blk.but D3.out.r B4.out (by show¬w.heap.size+1+1=w.heap.size;omega)
   ·exact GG.out.2.1 _ _ _ D3.out.g hgr
   ·exact⟨hgr.os.trans D3.out.b.os,hgr.tape.trans D3.out.b.tape,hgr.output.trans D3.out.b.output,zD D3.out.b.size hgr.size,fun j hj ht=>(hgr.block j hj).trans (D3.out.b.block j hj ht)⟩
 case done=>
  rintro D ys W hD rfl H hK
  obtain⟨Z,hZ⟩:∃Z,sD step 0 S (cK M 4)=Z:=⟨_,rfl⟩
  rw[hZ]at H
  have HH:=zW H
  have HZ:=zW hZ
  clear H hZ
  simp only[Exit.inBlock,Exit.then]
  gi_step
  refine wpIn_wide.2 ?_
  go_step
  refine zN ?_
  refine lP yQ HH.out.s (mV _) rfl (.tmp 2) rfl zBR ?_
  refine lE (ds:=lO Z) yQ HH.out.r (mV _) (mV _) (vE _) rfl (.tmp 4) (.tmp 19) rfl zBL zBL ?_
  simp only[Act.put,zQ,zZ,zJ]
  have hDs:w.heap.size+4≤D:=zBY
  have R5:SB (w.heap.size+1+1) Z ((W.setRow (w.heap.size+1+1) (lO Z)).putObj D (.deferred none)):=(lR zBY).trans (Blk.store HH.out.r (lO Z))
  have B5:Below w.heap.size W ((W.setRow (w.heap.size+1+1) (lO Z)).putObj D (.deferred none)):=
   ⟨rfl,rfl,rfl,by simp[World.setRow,World.putObj],fun j hj=>(lR zBY).trans (zA W _ j _ zBY)⟩
  have hK5:(W.setRow (w.heap.size+1+1) (lO Z)).heap[D]?=some (.deferred (some [])):=(zA W _ D _ zBY).trans hK
  have RR:=zW (zY R5 (zY B5 hK5))
  clear R5 B5 hK5
  generalize W.setRow (w.heap.size+1+1) (lO Z)=W5 at*
  iterate 4 go_step
  refine⟨by simp,.inl ⟨_,_,rfl,run_takeDeferred RR.out.2.2,?_⟩⟩
  refine⟨_,zF rfl _ _ (w.heap.size+1+1) _ _ _ _ rfl RR.out.1 Tryz.underlying72 rfl zTH,?_,?_,?_⟩
  ·rw[HZ.out]
  ·exact GG.out.2.1 _ _ _ HH.out.g RR.out.2.1
  ·have h1:=RR.out.2.1
   exact⟨h1.os.trans HH.out.b.os,h1.tape.trans HH.out.b.tape,h1.output.trans HH.out.b.output,zD HH.out.b.size h1.size,fun j hj ht=>(h1.block j hj).trans (HH.out.b.block j hj ht)⟩
 case stop=>
  rintro D c pre W _ _ h _
  exact h.elim
def wC(f:Nat→Pl→Pl)(M:Nat)(S:Sc):Sc:=⟨fun i=>if onB M i then f i (S.P i)else S.P i,S.hi,S.M⟩
theorem aO(step:Nat→Pl→Pl):∀(l:List (Fin 4)) (n:Nat) (S:Sc),(sD step n S l).hi=S.hi∧(sD step n S l).M=S.M
 |[],n,S=>⟨rfl,rfl⟩
 |x::xs,n,S=>aO step xs (n+1) _
theorem TF(step:Nat→Pl→Pl)(S:Sc)(M k:Nat)(hk:k≤4):∀j,(sD step 0 S (cK M k)).P j=if j<k∧onB M j=true then step (cK M j).length (S.P j)else S.P j:=by
 induction k with
 |zero=>intro j;rw[tX,zL zBY];rfl
 |succ k ih=>
  intro j
  rw[yB M k zBY]
  have ih:=ih zBY
  cases h:onB M k
  ·rw[zL zBH,lK,ih j]
   by_cases e:j<k∧onB M j=true
   ·rw[zG e,zG ⟨by omega,e.2⟩]
   ·rw[zL e,zL]
    rintro⟨h1,h2⟩
    rcases(show j<k∨j=k by omega)with h3|rfl
    ·exact e ⟨h3,h2⟩
    ·rw[h]at h2;cases h2
  ·rw[zG rfl,ZJ,qB]
   unfold Sc.put
   simp only
   by_cases e:j=k
   ·subst e
    rw[zG rfl,zG ⟨by omega,h⟩,ih j,zL zBY]
   ·rw[zL e,ih j]
    by_cases e2:j<k∧onB M j=true
    ·rw[zG e2,zG ⟨by omega,e2.2⟩]
    ·rw[zL e2,zL (fun h=>e2 ⟨by omega,h.2⟩)]
theorem IP(step:Nat→Pl→Pl)(S:Sc)(M k:Nat)(hk:k≤4):rF step 0 S (cK M k)=(cK M k).map fun i=>S.P i.val:=by
 induction k with
 |zero=>rw[tX];rfl
 |succ k ih=>
  rw[yB M k zBY]
  split
  ·rw[pT,ih zBY,jD,TF step S M k zBY k,zL zBY]
   rfl
  ·rw[lK,ih zBY]
theorem a8(step:Nat→Pl→Pl)(S:Sc)(M:Nat):lO (sD step 0 S (cK M 4))=lO (wC (fun i p=>step (cK M i).length p) M S):=by
 refine gG (fun i hi y hy=>?_) (aO _ _ _ _).1 (aO _ _ _ _).2;rw[TF step S M 4 zBY i];unfold wC;simp only;by_cases h:onB M i=true
 ·rw[zG ⟨hi,h⟩,zG h]
 ·rw[zL (fun e=>h e.2),zL h]
theorem zZC:(match Tryz.prog.underlying 72 with|some (.struct fields)=>fields.toList.mapM (fun f=>(Tryz.prog.info? f.type).map fun i=>(f.offset,i.size))|_=>none)=some [(0,512),(512,1),(513,1)]:=by kernel_rfl
theorem YV(parts:List (Nat×Value)):Tryz.prog.built 72 parts=Instr.fill ([(0,512),(512,1),(513,1)].toArray[·]?) (lO (m6 false 0)) parts:=by
 obtain⟨it,hit,hz⟩:=kV.1 G9;simp only[jC]at hz;have hp:=zZC;rw[Tryz.underlying72]at hp;unfold Program.built;rw[hit,Tryz.underlying72];simp only at hp⊢;rw[hz.1,hp];rfl
theorem UB(m:Int):Tryz.prog.built 72 [(2,.int .i64 m)]=some (lO (m6 false m)):=by
 rw[YV];have e:lO (m6 false m)=(lO (m6 false 0)).setIfInBounds 513 (.int .i64 m):=by rw[VQ];rfl
 rw[e];have hC:=mV (m6 false 0);generalize lO (m6 false 0)=C at*;simp[Instr.fill,Value.cells,hC]
theorem zKA(S:Sc)(v:Bool):(lO S).setIfInBounds 512 (.bool v)=lO ⟨S.P,v,S.M⟩:=by
 apply qH
 intro j
 rw[jJ,mV];by_cases h1:512=j
 ·subst h1;rw[zG rfl,zG zBY,vM _ _ zBY];rfl
 ·rw[zL h1];by_cases h3:j<514
  ·rw[vM _ _ h3,vM _ _ h3];unfold wU;by_cases h5:j<512
   ·rw[zG h5,zG h5]
   ·rw[zL h5,zL h5,zL zBY,zL zBY]
  ·rw[zE zRU,zE zRU]
theorem UD(v:Bool)(m:Int):Tryz.prog.built 72 [(1,.bool v),(2,.int .i64 m)]=some (lO (m6 v m)):=by
 rw[YV];have e:lO (m6 v m)=((lO (m6 false 0)).setIfInBounds 512 (.bool v)).setIfInBounds 513 (.int .i64 m):=by rw[zKA,VQ];rfl
 rw[e];have hC:=mV (m6 false 0);generalize lO (m6 false 0)=C at*;simp[Instr.fill,Value.cells,hC]
theorem zV4(w:World):Calls Tryz.prog 107 #[] w fun e w'=>e=.returned (.agg (lO (m6 false 1)))∧Below w.heap.size w w':=by
 have hz:=wH;go_enter Tryz.func107,Tryz.ntmps107;go_upto_region 1 with fail;refine zN ?_;have R:=zW (SB.new w (m6 false 0));have B:=zW (cH w (.cells (lO (m6 false 0)) 72));generalize w.alloc (.cells (lO (m6 false 0)) 72)=w1 at*;clear hz;refine nU (cs:=lO (m6 false 1)) rfl rfl (by simp[Act.eval];exact UB 1) ?_;refine lE (ds:=lO (m6 false 1)) yQ R.out (mV _) (mV _) (vE _) rfl (.tmp 0) (.tmp 1) rfl zBL zBL ?_;have R2:=zW (R.out.store (m6 false 1));have B2:=zW (yW B.out (zH _) (lO (m6 false 1)));generalize w1.setRow w.heap.size (lO (m6 false 1))=w2 at*;iterate 4 go_step
 exact zT (zF rfl _ _ w.heap.size _ _ _ _ rfl R2.out Tryz.underlying72 rfl zTH) rfl ⟨rfl,B2.out⟩
theorem QX(S:Sc)(m:Int)(w:World):Calls Tryz.prog 51 #[.agg (lO S),.int .i64 m] w fun e w'=>e=.returned (.agg (lO (S.mask m)))∧Below w.heap.size w w':=by
 have hz:=wH;go_enter Tryz.func51,Tryz.ntmps51;go_upto_region 1 with fail;have S0:=zW ((SB.new w S).alloc (.cells (lO (m6 false 0)) 72));have R:=zW (SB.new (w.alloc (.cells (lO S) 72)) (m6 false 0));have B:=zW ((cH w (.cells (lO S) 72)).alloc zBT (.cells (lO (m6 false 0)) 72));rw[zR]at R;generalize (w.alloc (.cells (lO S) 72)).alloc (.cells (lO (m6 false 0)) 72)=w1 at*;clear hz;have c1:=S0.out.maskc;have c2:=S0.out.fz 513;go_upto_region 2 with fail;refine zN ?_;have S1:=zW (S0.out.setMask m);have R1:=zW (R.out.other (g:=w.heap.size) zBY 513 (.int .i64 m));have B1:=zW (B.out.setCell (p:=⟨w.heap.size,513,none⟩) (zH _) (.int .i64 m));generalize w1.setCell ⟨w.heap.size,513,none⟩ (.int .i64 m)=w2 at*;clear c1 c2;refine lP yQ S1.out (mV _) rfl (.tmp 2) rfl zBR ?_;refine lE (ds:=lO (S.mask m)) yQ R1.out (mV _) (mV _) (vE _) rfl (.tmp 4) (.tmp 7) rfl zBL zBL ?_;have R2:=zW (R1.out.store (S.mask m));have B2:=zW (yW B1.out (qC _) (lO (S.mask m)));generalize w2.setRow (w.heap.size+1) (lO (S.mask m))=w3 at*;exact zFP
theorem TO(S:Sc)(v:Bool)(w:World):Calls Tryz.prog 52 #[.agg (lO S),.bool v] w fun e w'=>e=.returned (.agg (lO (m6 v S.M)))∧Below w.heap.size w w':=by
 have hz:=wH;obtain⟨m,hm⟩:∃m,S.M=m:=⟨_,rfl⟩;rw[hm];go_enter Tryz.func52,Tryz.ntmps52;go_upto_region 1 with fail;refine zN ?_;have S0:=zW ((SB.new w S).alloc (.cells (lO (m6 false 0)) 72));have R:=zW (SB.new (w.alloc (.cells (lO S) 72)) (m6 false 0));have B:=zW ((cH w (.cells (lO S) 72)).alloc zBT (.cells (lO (m6 false 0)) 72));rw[zR]at R;generalize (w.alloc (.cells (lO S) 72)).alloc (.cells (lO (m6 false 0)) 72)=w1 at*;clear hz;have c1:=S0.out.maskc;rw[hm]at c1;clear hm;iterate 9 go_step
 refine nU (cs:=lO (m6 v m)) rfl rfl (by simp[Act.eval];exact UD v m) ?_;refine lE (ds:=lO (m6 v m)) yQ R.out (mV _) (mV _) (vE _) rfl (.tmp 4) (.tmp 8) rfl zBL zBL ?_;have R2:=zW (R.out.store (m6 v m));have B2:=zW (yW B.out (qC _) (lO (m6 v m)));generalize w1.setRow (w.heap.size+1) (lO (m6 v m))=w2 at*;exact zFP
theorem UM(p:Pl)(w:World):Calls Tryz.prog 230 #[.agg (mQ p)] w fun e w'=>e=.returned (.agg (mQ fun _=>0#128))∧Below w.heap.size w w':=by
 have hz:=rQ;go_enter Tryz.func230,Tryz.ntmps230;go_upto_region 1 with fail;refine zN ?_;have R:=zW (vJ.new (w.alloc (.cells (mQ p) 69)) (fun _=>0#128) 69);have B:=zW ((cH w (.cells (mQ p) 69)).alloc zBT (.cells (mQ fun _=>0#128) 69));rw[zR]at R;generalize (w.alloc (.cells (mQ p) 69)).alloc (.cells (mQ fun _=>0#128) 69)=w1 at*;clear hz;refine I2 rfl rfl ?_;refine lE (ds:=mQ fun _=>0#128) t9 R.out (mY _) (mY _) (xD _) rfl (.tmp 2) (.tmp 3) rfl zBL zBL ?_;have R2:=zW (R.out.store fun _=>0#128);have B2:=zW (yW B.out (qC _) (mQ fun _=>0#128));generalize w1.setRow (w.heap.size+1) (mQ fun _=>0#128)=w2 at*;iterate 4 go_step
 exact zT (zF rfl _ _ (w.heap.size+1) _ _ _ _ rfl R2.out Tryz.underlying69 rfl (by rw[t9.i,mY])) rfl ⟨rfl,B2.out⟩
theorem UL(S:Sc)(M:Nat)(hM:S.M=(M:Int))(M1:M≤10000)(w:World):Calls Tryz.prog 200 #[.agg (lO S)] w fun e w'=>e=.returned (.agg (lO (wC (fun _ _ _=>0#128) M S)))∧Below w.heap.size w w':=by
 have hz:=wH;obtain⟨Z,hZ⟩:∃Z,wC (fun _ _ _=>0#128) M S=Z:=⟨_,rfl⟩;rw[hZ];have CH:=zW fun w=>iK M (g:=230) (caps:=#[]) (enters_of Tryz.func230 zBM rfl) (fun _ _ _=>0#128) (fun _=>False) (fun _ _=>True) w (fun _ h=>h.elim) (fun _ _ _ _ _=>trivial)
  (fun n p W _ _ _=>(UM p W).mono fun e W' h=>⟨h.1,trivial,But.of_below h.2⟩) S hM M1 trivial
 have RC:=zW ((a8 (fun _ _ _=>0#128) S M).trans (by rw[hZ]));clear hZ;go_enter Tryz.func200,Tryz.ntmps200;go_upto_region 1 with fail;refine zN ?_;have S0:=zW ((SB.new w S).alloc (.cells (lO (m6 false 0)) 72));have R:=zW (SB.new (w.alloc (.cells (lO S) 72)) (m6 false 0));have B:=zW ((cH w (.cells (lO S) 72)).alloc zBT (.cells (lO (m6 false 0)) 72));rw[zR]at R;generalize (w.alloc (.cells (lO S) 72)).alloc (.cells (lO (m6 false 0)) 72)=w1 at*;clear hz;refine lP yQ S0.out (mV _) rfl (.tmp 1) rfl zBR ?_;simp only[Act.put,zQ,zZ,zJ];refine qL rfl fun K hK=>?_;refine mF (g:=229) (caps:=#[]) (args:=#[.agg (lO S),.func (.func 230) #[] #[]]) (.func 229) #[.tmp 3,.func 230] #[72,322] rfl (enters_of Tryz.func229 zBM rfl) rfl zBR ?_;refine(CH.out w1).mono ?_;rintro e w2 ⟨rfl,-,b2⟩;have b2:=b2.all;have R2:=zW (R.out.step b2);have B2:=zW (B.out.trans (b2.mono B.out.size));refine⟨_,rfl,hK _ _ ?_⟩;clear hK K b2 S0 R B;rw[RC.out];simp only[Act.put,zQ,zZ,zJ];refine lE (ds:=lO Z) yQ R2.out (mV _) (mV _) (vE _) rfl (.tmp 2) (.tmp 4) rfl zBL zBL ?_;have R3:=zW (R2.out.store Z);have B3:=zW (yW B2.out (qC _) (lO Z));generalize w2.setRow (w.heap.size+1) (lO Z)=w3 at*;iterate 4 go_step
 exact zT (zF rfl _ _ (w.heap.size+1) _ _ _ _ rfl R3.out Tryz.underlying72 rfl zTH) rfl ⟨rfl,B3.out⟩
def ScG(bx bY bs:Nat)(dx dy:Int)(S:Sc)(W:World):Prop:=Boxed W bx 3 (.int .i64 dx)∧Boxed W bY 3 (.int .i64 dy)∧SB bs S W
theorem vR{w w':World}{b:Nat}{t:TypeId}{v:Value}(h:Boxed w b t v)(hb:Below w.heap.size w w'):Boxed w' b t v:=(hb.block b h.lt).trans h
theorem TH(bx bY bs:Nat)(dx dy:Int)(S:Sc)(m h:Nat)(hr:Res S.hi m h)(d0: -1000≤dx)(d1:dx≤1000)(e0: -1000≤dy)(e1:dy≤1000)(p:Pl)(w:World)(G:ScG bx bY bs dx dy S w):
  Calls Tryz.prog 238 #[.agg (mQ p),.pointer (some ⟨bx,0,none⟩),.pointer (some ⟨bY,0,none⟩),.pointer (some ⟨bs,0,none⟩)] w fun e w'=>e=.returned (.agg (mQ (vK p dx dy m h)))∧Below w.heap.size w w':=by
 have hz:=rQ;obtain⟨v,hv⟩:∃v,S.hi=v:=⟨_,rfl⟩;obtain⟨Q,hQ⟩:∃Q,vK p dx dy m h=Q:=⟨_,rfl⟩;rw[hv]at hr;have SC:=zW fun w=>scW hr hQ d0 d1 e0 e1 w;rw[hQ];clear hQ d0 d1 e0 e1 hr;have P0:=zW ((vJ.new w p 69).alloc (.cells (mQ fun _=>0#128) 69));have R:=zW (vJ.new (w.alloc (.cells (mQ p) 69)) (fun _=>0#128) 69);have B:=zW ((cH w (.cells (mQ p) 69)).alloc zBT (.cells (mQ fun _=>0#128) 69));have cx:=(vR G.1 B.out).cell;have cy:=(vR G.2.1 B.out).cell;have cs:=(G.2.2.step B.out).hires;rw[hv]at cs;rw[zR]at R;clear G hv;go_enter Tryz.func238,Tryz.ntmps238;go_upto_region 1 with fail;refine zN ?_;generalize (w.alloc (.cells (mQ p) 69)).alloc (.cells (mQ fun _=>0#128) 69)=w1 at*;clear hz;refine lP t9 P0.out (mY _) rfl (.tmp 4) rfl zBR ?_;simp only[Act.put,zQ,zZ,zJ];go_wp2_with fail;refine(SC.out _).mono ?_;rintro e w2 ⟨rfl,b2⟩;have R2:=zW (R.out.step b2);have B2:=zW (B.out.trans (b2.mono B.out.size));clear b2 P0 R B cx cy cs;simp only[];go_at_K
 go_step
 refine lE (ds:=mQ Q) t9 R2.out (mY _) (mY _) (xD _) rfl (.tmp 5) (.tmp 11) rfl zBL zBL ?_;have R3:=zW (R2.out.store Q);have B3:=zW (yW B2.out (qC _) (mQ Q));generalize w2.setRow (w.heap.size+1) (mQ Q)=w3 at*;iterate 4 go_step
 exact zT (zF rfl _ _ (w.heap.size+1) _ _ _ _ rfl R3.out Tryz.underlying69 rfl (by rw[t9.i,mY])) rfl ⟨rfl,B3.out⟩
theorem dQ(S:Sc)(M:Nat)(hM:S.M=(M:Int))(M1:M≤10000)(dx dy:Int)(m h:Nat)(hr:Res S.hi m h)(d0: -64≤dx)(d1:dx≤64)(e0: -64≤dy)(e1:dy≤64)(w:World):
  Calls Tryz.prog 204 #[.agg (lO S),.int .i64 dx,.int .i64 dy] w fun e w'=>e=.returned (.agg (lO (wC (fun _ p=>vK p dx dy m h) M S)))∧Below w.heap.size w w':=by
 have hz:=wH;obtain⟨Z,hZ⟩:∃Z,wC (fun _ p=>vK p dx dy m h) M S=Z:=⟨_,rfl⟩;rw[hZ];have CH:=zW fun(bx bY bs:Nat) (w:World) (l1:bx<w.heap.size) (l2:bY<w.heap.size) (l3:bs<w.heap.size) (H:ScG bx bY bs dx dy S w)=>iK M (g:=238) (caps:=#[.pointer (some ⟨bx,0,none⟩),.pointer (some ⟨bY,0,none⟩),.pointer (some ⟨bs,0,none⟩)]) (enters_of Tryz.func238 zBM rfl) (fun _ p=>vK p dx dy m h) (fun _=>False) (fun _ W=>ScG bx bY bs dx dy S W∧w.heap.size≤W.heap.size) w (fun _ h=>h.elim)
  (fun _ W W' G b=>⟨⟨(b.block bx l1).trans G.1.1,(b.block bY l2).trans G.1.2.1,(b.block bs l3).trans G.1.2.2⟩,zD G.2 b.size⟩)
  (fun n p W _ G _=>(TH bx bY bs dx dy S m h hr zBY zBY zBY zBY p W G.1).mono fun e W' h=>⟨h.1,⟨⟨vR G.1.1 h.2,vR G.1.2.1 h.2,G.1.2.2.step h.2⟩,zD G.2 h.2.size⟩,But.of_below h.2⟩) S hM M1 ⟨H,zH _⟩
 have RC:=zW ((a8 (fun _ p=>vK p dx dy m h) S M).trans (by rw[hZ]));clear hZ;have S0:=zW ((((SB.new w S).alloc (.cells #[.int .i64 dx] 3)).alloc (.cells #[.int .i64 dy] 3)).alloc (.cells (lO (m6 false 0)) 72));have X0:=zW (((kX (w.alloc (.cells (lO S) 72)) 3 (.int .i64 dx)).alloc (.cells #[.int .i64 dy] 3)).alloc (.cells (lO (m6 false 0)) 72));have Y0:=zW ((kX ((w.alloc (.cells (lO S) 72)).alloc (.cells #[.int .i64 dx] 3)) 3 (.int .i64 dy)).alloc (.cells (lO (m6 false 0)) 72));have R:=zW (SB.new (((w.alloc (.cells (lO S) 72)).alloc (.cells #[.int .i64 dx] 3)).alloc (.cells #[.int .i64 dy] 3)) (m6 false 0));have B:=zW ((((cH w (.cells (lO S) 72)).alloc zBT (.cells #[.int .i64 dx] 3)).alloc zBS (.cells #[.int .i64 dy] 3)).alloc zBS (.cells (lO (m6 false 0)) 72));rw[zR]at X0;rw[zR,zR]at Y0;rw[zR,zR,zR]at R;go_enter Tryz.func204,Tryz.ntmps204;go_upto_region 1 with fail;generalize (((w.alloc (.cells (lO S) 72)).alloc (.cells #[.int .i64 dx] 3)).alloc (.cells #[.int .i64 dy] 3)).alloc (.cells (lO (m6 false 0)) 72)=w1 at*;clear hz;have cx:=X0.out.cell;have cy:=Y0.out.cell;have fx:=X0.out.frozen;have fy:=Y0.out.frozen;have mx:max dx (-128)=dx:=zBY;have mx2:min dx 128=dx:=zBY;have my:max dy (-64)=dy:=zBY;have my2:min dy 64=dy:=zBY;go_upto_region 3 with fail;have S1:=zW ((S0.out.other (g:=w.heap.size+1) zBY 0 (.int .i64 dx)).other (g:=w.heap.size+1+1) zBY 0 (.int .i64 dy));have X1:=zW ((X0.out.set (.int .i64 dx)).other (B':=w.heap.size+1+1) zBY (.int .i64 dy));have Y1:=zW ((Y0.out.other (B':=w.heap.size+1) zBY (.int .i64 dx)).set (.int .i64 dy));have R1:=zW ((R.out.other (g:=w.heap.size+1) zBY 0 (.int .i64 dx)).other (g:=w.heap.size+1+1) zBY 0 (.int .i64 dy));have B1:=zW ((B.out.setCell (p:=⟨w.heap.size+1,0,none⟩) (by show w.heap.size≤w.heap.size+1;omega) (.int .i64 dx)).setCell (p:=⟨w.heap.size+1+1,0,none⟩) zTZ (.int .i64 dy));generalize (w1.setCell ⟨w.heap.size+1,0,none⟩ (.int .i64 dx)).setCell ⟨w.heap.size+1+1,0,none⟩ (.int .i64 dy)=w2 at*;clear cx cy fx fy mx mx2 my my2 S0 X0 Y0 R B;refine zN ?_;refine lP yQ S1.out (mV _) rfl (.tmp 3) rfl zBR ?_;simp only[Act.put,zQ,zZ,zJ];iterate 3 go_step
 refine qL rfl fun K hK=>?_;refine mF (g:=229) (caps:=#[]) (args:=#[.agg (lO S),.func (.func 238) #[] #[.pointer (some ⟨w.heap.size+1,0,none⟩),.pointer (some ⟨w.heap.size+1+1,0,none⟩),.pointer (some ⟨w.heap.size,0,none⟩)]]) (.func 229) #[.tmp 13,.tmp 14] #[72,322] rfl (enters_of Tryz.func229 zBM rfl) rfl zBR ?_;refine(CH.out _ _ _ w2 X1.out.lt Y1.out.lt S1.out.lt ⟨X1.out,Y1.out,S1.out⟩).mono ?_;rintro e w3 ⟨rfl,-,b2⟩;have b2:=b2.all;have R2:=zW (R1.out.step b2);have B2:=zW (B1.out.trans (b2.mono B1.out.size));refine⟨_,rfl,hK _ _ ?_⟩;clear hK K b2 S1 R1 B1 X1 Y1;rw[RC.out];simp only[Act.put,zQ,zZ,zJ];refine lE (ds:=lO Z) yQ R2.out (mV _) (mV _) (vE _) rfl (.tmp 6) (.tmp 15) rfl zBL zBL ?_;have R3:=zW (R2.out.store Z);have B3:=zW (yW B2.out (show w.heap.size≤w.heap.size+1+1+1 by omega) (lO Z));generalize w3.setRow (w.heap.size+1+1+1) (lO Z)=w4 at*;iterate 4 go_step
 exact zT (zF rfl _ _ (w.heap.size+1+1+1) _ _ _ _ rfl R3.out Tryz.underlying72 rfl zTH) rfl ⟨rfl,B3.out⟩
attribute [local go_sem] Oper.semAt_some
def wO(g o:Nat)(F:Nat→Nat)(n:Nat)(A:Option Addr)(w:World):Prop:=0<n→A=some ⟨g,o,none⟩∧g<w.heap.size∧∀j,j<n→w.cell? ⟨g,o+j,none⟩=some (.int .u8 (F j:Int))
theorem wO.step{g o:Nat}{F:Nat→Nat}{n:Nat}{A:Option Addr}{w w':World}(h:wO g o F n A w)(hb:Below w.heap.size w w'):wO g o F n A w':=fun hn=>by
 obtain⟨h1,h2,h3⟩:=h hn;exact⟨h1,zS h2 hb.size,fun j hj=>(hb.cell (p:=⟨g,o+j,none⟩) h2).trans (h3 j hj)⟩
def QO(b1 b2:Nat)(W W':World):Prop:=W'.heap[b1]?=W.heap[b1]?∧W'.heap[b2]?=W.heap[b2]?
theorem QO.trans{b1 b2:Nat}{u v w:World}(h:QO b1 b2 u v)(h':QO b1 b2 v w):QO b1 b2 u w:=⟨h'.1.trans h.1,h'.2.trans h.2⟩
theorem zJJ{b1 b2:Nat}{W:World}{l:Nat}{o':Obj}(h1:b1≠l)(h2:b2≠l):QO b1 b2 W (W.putObj l o'):=⟨lR h1,lR h2⟩
theorem zWI{n k:Nat}(hk:k<n):(List.finRange n).take (k+1)=(List.finRange n).take k++[⟨k,hk⟩]:=by
 rw[j7 (by simpa using hk)];simp
def ZP(g o z k:Nat):Value:=.slice (some ⟨g,o+k*z,none⟩) z z
theorem zJ5(m:Nat)(hm:1≤m)(l Bs Bz g o n z c:Nat)(A:Option Addr)(z0:0<z)(z1:z≤2)(n1:n≤16)(hc:n*z≤c)(c1:c≤1000)(hA:0<n→A=some ⟨g,o,none⟩)(J Jx:List (Fin n)→World→Prop)
  (hY:∀pre x W,J pre W→pre.length<n→YieldAt Fence.wide (m-1) Tryz.prog l #[ZP g o z (x:Fin n).val] W fun e W'=>
   (e=.returned (.bool true)∧J (pre++[x]) W'∧QO Bs Bz W W')∨(e=.returned (.bool false)∧Jx (pre++[x]) W'))
  (W:World) (hS:Boxed W Bs 22 (.slice A (n*z) c)) (hZ:Boxed W Bz 3 (.int .i64 (z:Int))) (hJd:∀pre W,J pre W→J pre W.drew) (h0:J [] W):
  CallsIn Fence.wide m Tryz.prog 278 #[.func (.yield l) #[] #[],.pointer (some ⟨Bs,0,none⟩),.pointer (some ⟨Bz,0,none⟩)] W fun e W'=>(∃v,e=.returned v)∧
   ((∃ys,ys=List.finRange n∧J ys W')∨(∃pre,True∧Jx pre W')):=by
 obtain⟨t,ht⟩:∃t,n*z=t:=⟨_,rfl⟩;have t1:t≤32:=by rw[←ht];exact Nat.mul_le_mul n1 z1
 rw[ht]at hc hS;have HT:=zW ht;have zI:(0:Int)<(z:Int):=zBY;clear ht;refine callsIn_of_wp Tryz.func278 rfl trivial ?_ rfl;simp only[Tryz.ntmps278,kD,jH,kQ,Nat.reduceAdd,Nat.reduceSub,kZ,kJ,kF,kY,jP,jF];gi_wp2
 gi_loopw [4] (fun i wr=>∃k q:Nat,k≤n∧q=k*z∧i=.int .i64 (q:Int)∧Boxed wr Bs 22 (.slice A t c)∧Boxed wr Bz 3 (.int .i64 (z:Int))∧J ((List.finRange n).take k) wr) (fun i _=>t-(intOf i).toNat)
 case atStart=>exact⟨0,0,by omega,by simp,rfl,hS,hZ,by simpa using h0⟩
 case round=>
  clear h0 hS hZ
  obtain⟨k,q,hk,hq,rfl,hS,hZ,hJ⟩:=hrel
  by_cases hlt:k<n
  ·have q1:q+z≤t:=by
    rw[hq,←HT.out,←Nat.succ_mul];exact Nat.mul_le_mul_right z hlt
   have hqt:(q:Int)<(t:Int):=zBY
   have hA':=hA zBY
   subst hA'
   have cS:=hS.cell
   have cZ:=hZ.cell
   obtain⟨fn,tmps,assign,body,hy,hR⟩:=hY ((List.finRange n).take k) ⟨k,hlt⟩ wr.drew (hJd _ _ hJ) zBS
   unfold ZP at hy
   dsimp only at hy
   rw[←hq]at hy
   have HQ:=zW hq
   clear hq
   have cq:¬c=q:=zBY
   have e1:min (z:Int) ((t:Int)-(q:Int))=(z:Int):=zBY
   have e1':min (z:Int) ((t-q:Nat):Int)=(z:Int):=zBY
   have e2:(q:Int)≤(t:Int):=zBY
   gi_wp2
   gi_region
   have e3:(q:Int)+(z:Int)≤(c:Int):=zBY
   have e4:¬z=0:=zBY
   gi_wp2
   refine hR.mono ?_
   rintro e W3 (⟨rfl,hJ3,hk3⟩|⟨rfl,hJx3⟩)
   ·have cZ3:=(show Boxed W3 Bz 3 (.int .i64 (z:Int))from hk3.2.trans hZ).cell
    gi_wp2
    go_roundw
    case rel=>exact⟨k+1,q+z,by omega,by rw[HQ.out,Nat.succ_mul],by go_num,hk3.1.trans hS,hk3.2.trans hZ,by rw[zWI hlt];exact hJ3⟩
    case measure=>simp[intOf];omega
   ·gi_wp2
    refine zT (results_none rfl _ _ _) rfl ?_
    exact⟨⟨_,rfl⟩,.inr ⟨_,trivial,hJx3⟩⟩
  ·have hkn:k=n:=zBY
   have hqt:¬(q:Int)<(t:Int):=by rw[hq,←HT.out,hkn];omega
   have cS:=hS.cell
   clear hq
   gi_wp2
   go_end0
   rw[hkn,qY zBT]at hJ
   exact⟨⟨_,rfl⟩,.inl hJ⟩
theorem SW(m:Nat)(hm:1≤m)(Bs Bz g o n z c:Nat)(A:Option Addr)(z0:0<z)(z1:z≤2)(n1:n≤16)(hc:n*z≤c)(c1:c≤1000)(hA:0<n→A=some ⟨g,o,none⟩)(w:World)(hS:Boxed w Bs 22 (.slice A (n*z) c))(hZ:Boxed w Bz 3 (.int .i64 (z:Int))):
  SeqStopsK Fence.wide m Tryz.prog 278 #[.pointer (some ⟨Bs,0,none⟩),.pointer (some ⟨Bz,0,none⟩)] (fun x:Fin n=> #[ZP g o z x.val]) (QO Bs Bz) (fun ys=>ys=List.finRange n) (fun _=>True) n w:=fun l J Jx W hW hJ _ hY h0=>
 zJ5 m hm l Bs Bz g o n z c A z0 z1 n1 hc c1 hA J Jx hY W ((hW.block Bs hS.lt).trans hS) ((hW.block Bz hZ.lt).trans hZ) (fun pre W h=>hJ pre W W.drew none h ⟨rfl,rfl,rfl,zH _,fun _ _ _=>rfl⟩ (fun _ e=>by cases e)) h0
theorem zYZ(m:Nat)(A:Option Addr)(t c z:Nat)(z0:0<z)(w:World):CallsIn Fence.wide m Tryz.prog 266 #[.slice A t c,.int .i64 (z:Int)] w fun e w'=>
   e=.returned (.func (.func 278) #[] #[.pointer (some ⟨w.heap.size,0,none⟩),.pointer (some ⟨w.heap.size+1,0,none⟩)])∧w'=(w.alloc (.cells #[.slice A t c] 22)).alloc (.cells #[.int .i64 (z:Int)] 3):=by
 have zI:¬(z:Int)<1:=zBY;refine callsIn_of_wp Tryz.func266 rfl trivial ?_ rfl;simp only[Tryz.ntmps266,kD,jH,kQ,Nat.reduceAdd,Nat.reduceSub,kZ,kJ,kF,kY,jP,jF];gi_wp2
 go_ret;exact⟨rfl,rfl⟩
attribute [local go_sem] Oper.semAt_some
def M8(F:Nat→Nat)(q:Nat):Nat→Nat
 |0=>0
 |j+1=>M8 F q j*256+F (q+j)
def tV(F:Nat→Nat)(z k:Nat):Nat:=M8 F (k*z) z
theorem or16(x b:Nat)(hx:x≤255)(hb:b≤255):bits .or .u16 ((x*256:Nat):Int) (b:Int)=((x*256+b:Nat):Int):=by
 unfold bits;have e:(BitVec.ofInt IntKind.u16.bits ((x*256:Nat):Int)|||BitVec.ofInt IntKind.u16.bits (b:Int)).toNat=x*256+b:=by
  show(BitVec.ofInt 16 ((x*256:Nat):Int)|||BitVec.ofInt 16 (b:Int)).toNat=x*256+b;rw[BitVec.ofInt_natCast,BitVec.ofInt_natCast,BitVec.toNat_or,BitVec.toNat_ofNat,BitVec.toNat_ofNat,kW zBY,kW zBY];rw[show x*256=2^8*x by omega,Nat.two_pow_add_eq_or_of_lt (by omega:b<2^8) x]
 simp only[e];simp[IntKind.wrap,IntKind.bits,IntKind.signed];omega
theorem shl16(x:Nat)(hx:x≤255):IntKind.u16.wrap ((x:Int)*2^8)=((x*256:Nat):Int):=by
 simp[IntKind.wrap,IntKind.bits,IntKind.signed];omega
theorem JE(b:Nat)(hb:b≤65535):IntKind.u16.wrap (b:Int)=(b:Int):=by
 simp[IntKind.wrap,IntKind.bits,IntKind.signed];omega
theorem zL3{F:Nat→Nat}(hF:∀j,F j≤255)(z k:Nat)(hz:z≤2):tV F z k≤65535:=by
 unfold tV;rcases(show z=0∨z=1∨z=2 by omega)with rfl|rfl|rfl<;>simp only[M8]
 ·omega
 ·have:=hF (k*1+0);omega
 ·have h0:=hF (k*2+0);have h1:=hF (k*2+1);simp only[Nat.zero_mul,qB,Nat.add_zero]at*;omega
theorem zGF{F:Nat→Nat}(hF:∀j,F j≤255)(q j:Nat)(hj:j<2):M8 F q j≤255:=by
 rcases(show j=0∨j=1 by omega)with rfl|rfl<;>simp only[M8]
 ·omega
 ·have:=hF (q+0);omega
theorem info16:(Tryz.prog.info? 24).map (fun i=>(i.zero,i.size,i.bytes))=some (some (.int .u16 0),1,2):=by kernel_rfl
theorem YW{W w1:World}{B B0 n1 k:Nat}{e:TypeId}{v v':Value}{xs:List Value}{tmp:Obj}(hrow:W.ownsRow n1 e 1 v k xs)(hB:B<n1)(hW:n1≤W.heap.size)(hne:B≠B0)
  (hgrow:(W.alloc tmp).grownBy w1 v.ownBlock):(w1.setCell ⟨B0,0,none⟩ v').heap[B]?=W.heap[B]?:=by
 have h1:(W.alloc tmp).heap[B]?=W.heap[B]?:=heap_alloc_old W tmp (by omega:B<W.heap.size);have h2:w1.heap[B]?=(W.alloc tmp).heap[B]?:=hgrow.block B zBS (fun e=>by have:=(hrow.lt B e.symm).1;omega);have h3:(w1.setCell ⟨B0,0,none⟩ v').heap[B]?=w1.heap[B]?:=qQ w1 _ v' B hne;rw[h3,h2,h1]
theorem TA(g o n z c:Nat)(A:Option Addr)(F:Nat→Nat)(z0:0<z)(z1:z≤2)(n1:n≤16)(hc:n*z≤c)(c1:c≤1000)(hF:∀j,F j≤255)(w:World)(hD:wO g o F (n*z) A w):
  Calls Tryz.prog 235 #[.slice A (n*z) c,.int .i64 (z:Int)] w fun e w'=>∃A' c',e=.returned (.slice A' n c')∧gK w' A' ((List.range n).map (tV F z))∧(∀ad,A'=some ad→w.heap.size≤ad.block)∧Below w.heap.size w w':=by
 refine(callsIn_wide (n:=6)).1 ?_;obtain⟨i0,hi,hz0,hz1,hz2⟩:=lW info16;have hA:0<n→A=some ⟨g,o,none⟩:=fun h=>(hD (Nat.mul_pos h z0)).1;have DD:=zW (zY hD hF);clear hD hF;refine callsIn_of_wp_marks Tryz.func235 rfl trivial ?_ rfl;simp only[Tryz.ntmps235,kD,jH,kQ,Nat.reduceAdd,Nat.reduceSub,kZ,kJ,kF,kY,jP,jF];gi_wp2_with fail
 refine⟨trivial,?_⟩;refine(zYZ _ _ _ _ _ z0 _).mono ?_;rintro e w' ⟨rfl,rfl⟩;simp only[];gi_wp2_with fail
 have b5:=((kX w 25 (.slice none 0 0)).alloc (.cells #[.slice A (n*z) c] 22)).alloc (.cells #[.int .i64 (z:Int)] 3);have bS:=(kX (w.alloc (.cells #[.slice none 0 0] 25)) 22 (.slice A (n*z) c)).alloc (.cells #[.int .i64 (z:Int)] 3);have bZ:=kX ((w.alloc (.cells #[.slice none 0 0] 25)).alloc (.cells #[.slice A (n*z) c] 22)) 3 (.int .i64 (z:Int));have BB:=((((zB _ w).alloc (zH _) (.cells #[.slice none 0 0] 25)).alloc zBT (.cells #[.slice A (n*z) c] 22)).alloc zBS (.cells #[.int .i64 (z:Int)] 3));rw[zR]at bS;rw[zR,zR]at bZ;have Z3:(((w.alloc (.cells #[.slice none 0 0] 25)).alloc (.cells #[.slice A (n*z) c] 22)).alloc (.cells #[.int .i64 (z:Int)] 3)).heap.size=w.heap.size+3:=zBT;rw[zR];generalize ((w.alloc (.cells #[.slice none 0 0] 25)).alloc (.cells #[.slice A (n*z) c] 22)).alloc (.cells #[.int .i64 (z:Int)] 3)=w3 at*;refine wpIn_rangeFunc_ownG rfl zBY (gf:=278) (lb:=#[.pointer (some ⟨w.heap.size+1,0,none⟩),.pointer (some ⟨w.heap.size+1+1,0,none⟩)]) rfl trivial (enters_of Tryz.func278 zBM rfl)
  (SW _ zBY (w.heap.size+1) (w.heap.size+1+1) g o n z c A z0 z1 n1 hc c1 hA w3 bS bZ) QO.trans (fun W l o o' hl _ _ _=>zJJ zBY zBY) (zB _ _) (fun _=>rfl)
  (fun pre W=>(∃v,Boxed W w.heap.size 25 v∧W.ownsRow (w.heap.size+3) 24 1 v pre.length (pre.map fun x:Fin n=>Value.int .u16 (tV F z x.val:Int))∧True)∧(w.heap.size+3≤W.heap.size∧Below w.heap.size w W))
  (fun _ _ _=>False)
  (OwnFrom.and (Own.from (holdsRow_own (w.heap.size+3) w.heap.size 25 24 1 (fun pre:List (Fin n)=>pre.length) (fun pre=>pre.map fun x:Fin n=>Value.int .u16 (tV F z x.val:Int)) (fun pre v=>True)) _) (OwnFrom.and (fun s A B row hs hg _=>zD hs hg.size) (ownFrom_below (zH _) zBY)))
  (fun _ _ _ _ _ hs _ _=>hs)
  ⟨⟨_,b5,qO _ _ _ _,trivial⟩,by omega,BB⟩
  (fun x=>{tmps:=#[.slice A (n*z) c,.int .i64 (z:Int),undef,undef,.slice none 0 0,.pointer (some ⟨w.heap.size,0,none⟩),ZP g o z x.val,undef,undef,undef,.slice A (n*z) c,.int .i64 (z:Int),.func (.func 278) #[] #[.pointer (some ⟨w.heap.size+1,0,none⟩),.pointer (some ⟨w.heap.size+1+1,0,none⟩)],ZP g o z x.val,undef,undef,undef,undef,undef,undef,undef,undef,undef,undef,undef,undef,undef,undef,undef,undef,undef],defers:=[]}) ?assign ?body ?done ?stop
 case assign=>
  intro l x W K hK
  gi_wp2
  exact hK
 case body=>
  rintro l pre ⟨k,hk⟩ W ⟨⟨v,hv,hrow,_⟩,hz,hB⟩ hlt
  have HH:=zW (zY hv (zY hrow (zY hz hB)))
  clear hv hrow hz hB
  unfold ZP
  dsimp only
  obtain⟨q,hq⟩:∃q,k*z=q:=⟨_,rfl⟩
  have q1:q+z≤n*z:=by rw[←hq,←Nat.succ_mul];exact Nat.mul_le_mul_right z hk
  rw[hq]
  have HQ:=zW (zY hq (zY q1 hlt))
  clear hq q1 hlt
  gi_wp2
  gi_loop [7,16] (fun b i=>∃j X:Nat,j≤z∧b=.int .u16 (X:Int)∧i=.int .i64 (j:Int)∧X=M8 F q j) (fun _ i=>z-(intOf i).toNat)
  case atStart=>exact⟨0,0,by omega,rfl,rfl,rfl⟩
  case round=>
   obtain⟨j,X,hj,rfl,rfl,hX⟩:=hrel
   have XX:=zW hX
   by_cases hlt:j<z
   ·have jI:(j:Int)<(z:Int):=zBY
    have X1:X≤255:=by rw[hX];exact zGF DD.out.2 q j zBY
    obtain⟨_,hgl,hcs⟩:=DD.out.1 (by have:=HQ.out.2.1;omega)
    obtain⟨b,hb⟩:∃b,F (q+j)=b:=⟨_,rfl⟩
    have b1:b≤255:=by rw[←hb];exact DD.out.2 _
    have cb:W.cell? ⟨g,o+q+j,none⟩=some (.int .u8 (b:Int)):=by
     rw[qS,HH.out.2.2.2.cell (p:=⟨g,o+(q+j),none⟩) hgl,hcs _ (by have:=HQ.out.2.1;omega),hb]
    have e1:=shl16 X X1
    have e2:=or16 X b X1 b1
    have e3:=JE b zBY
    obtain⟨V,hV⟩:∃V,X*256+b=V:=⟨_,rfl⟩
    rw[hV]at e2
    have e2:bits .or .u16 ((X:Int)*256) (b:Int)=(V:Int):=by rw[←e2];simp
    have VV:=zW (show V=M8 F q (j+1) by rw[←hV,M8,←hX,hb])
    clear hX hV hcs hb hgl e1 e3
    gi_wp2
    go_round
    case rel=>exact⟨j+1,V,by omega,by go_num,by go_num,VV.out⟩
    case measure=>simp[intOf];omega
   ·have je:j=z:=zBY
    subst je
    clear hlt
    have RV:=zW (show X=tV F j k by rw[hX,←HQ.out.1];rfl)
    clear hX
    have hc:=HH.out.1.cell
    gi_wp2_with (gi_at_builtin;refine wpListIn_append_own _ rfl _ _ 25 rfl (w.heap.size+3) 24 i0 (.int .u16 0) 1 2 Tryz.underlying25 hi hz0 hz1 hz2 rfl zBH _ _ _ rfl (HH.out.2.1.alloc _) ⟨W.heap.size,0,none⟩ 1 1 [.int .u16 (X:Int)] rfl rfl (cell_one_new _ _ _) zRK (by unfold maxLen;have:=HQ.out.2.2;omega) (by have:=HQ.out.2.2;omega) (by have:=HH.out.2.2.1;simp;omega) ?_;intro v' w1 hown' hgrow _;obtain⟨g',cap',rfl⟩:=ownsRow_succ hown';obtain⟨hv1,hv2,hr2,hk2,hb2⟩:=HH.out.1.appended zBH (cV HH.out.2.1 (by omega:w.heap.size≤w.heap.size+3)) HH.out.2.2.2.size (zH _) (cV hown' (by omega:w.heap.size≤w.heap.size+3)) hgrow;have hc1:=hv1.cell;have hf1:=hv1.frozen)
    have hr3:=hown'.kept (grownBy_setCell' w1 w.heap.size (.slice (some ⟨g',0,none⟩) (pre.length+1) cap')) (.inr (hv1.not_row zBH hown').symm)
    refine⟨hk2.from _,⟨YW HH.out.2.1 zBY HH.out.2.2.1 zBY hgrow,YW HH.out.2.1 zBY HH.out.2.2.1 zBY hgrow⟩,⟨_,hv2,by simpa [RV.out]using hr3⟩,zD HH.out.2.2.1 (zD zBT (zD hgrow.size zBT)),HH.out.2.2.2.trans hb2⟩
 case done=>
  rintro D ys W hD rfl ⟨⟨v,hv,hrow,_⟩,_,hB⟩ hK
  have hc:=hv.cell
  gi_wp2
  refine⟨by simp,.inl ⟨_,_,rfl,run_takeDeferred hK,?_⟩⟩
  obtain⟨A',c',rfl⟩:=vQ hrow
  have hr:=ownsRow_putObj hrow (.deferred none) hK rfl
  rw[List.length_finRange]at hr⊢
  have hl:(List.finRange n).map (fun x:Fin n=>Value.int .u16 (tV F z x.val:Int))=((List.range n).map (tV F z)).map (fun x:Nat=>Value.int .u16 (x:Int)):=by
   apply List.ext_getElem
   ·simp
   ·intro i h1 h2;simp
  rw[hl]at hr
  refine⟨_,results_tmp rfl _ _ _,A',c',rfl,?_,fun ad had=>?_,hB.trans (belowK_b (w:=w) (zH _) W D _ _ zBY hK rfl rfl)⟩
  intro hne
  obtain⟨b,o',hA',hlt',hcs⟩:=Row.of_own hr hne
  refine⟨⟨b,o',none⟩,hA',hlt',fun j hj=>?_⟩
  rw[Addr.add_mid]
  exact hcs j hj
  ·rcases hr.2 with⟨h,_⟩|⟨g2,cp,cur,h,hg,_⟩
   ·cases h
    try cases had
   ·injection h with h1 h2 h3
    subst h1
    injection had with had
    subst had
    exact zD (Nat.le_add_right _ 3) hg
 case stop=>
  rintro D c pre W _ _ h _
  exact h.elim
theorem But.rowNew{T:Nat→Prop}{u w:World}(h:But T u w){b:Nat}(hb:u.heap.size≤b)(cs:Array Value):But T u (w.setRow b cs):=
 ⟨h.os,h.tape,h.output,by simpa [World.setRow]using h.size,fun k hk ht=>(zA w b k cs zBY).trans (h.block k hk ht)⟩
structure DrD where
 g:Nat
 o:Nat
 F:Nat→Nat
 N:Nat
 r:Nat
 z:Nat
 x:Nat
 y:Nat
 m:Nat
 h:Nat
 clip:Bool
 S:Sc
def QW(F:Nat→Nat)(r z q:Nat):List Nat:=(List.range r).map (tV (fun j=>F (q+j)) z)
def DrD.sp(D:DrD)(k:Nat):Pl:=spr (nth (QW D.F D.r D.z (k*(D.r*D.z)))) D.r (D.z*8) (D.x%D.m) (D.y%D.h) D.m D.h D.clip
def DrD.coll(D:DrD):Nat→List Pl→Bool
 |_,[]=>false
 |k,p::ps=>sG p (D.sp k)||D.coll (k+1) ps
theorem ZS(D:DrD)(p:Pl):∀(ps:List Pl) (k:Nat),D.coll k (ps++[p])=(D.coll k ps||sG p (D.sp (k+ps.length)))
 |[],k=>by simp[DrD.coll]
 |q::ps,k=>by
  rw[jF,DrD.coll,ZS D p ps,DrD.coll,jH,Bool.or_assoc,show k+1+ps.length=k+(ps.length+1) by omega]
structure zGA(D:DrD):Prop where
 r1:D.r≤16
 z0:D.z=1∨D.z=2
 F1:∀j,D.F j≤255
 N1:D.N≤4
 x1:D.x≤1000
 y1:D.y≤1000
 res:Res D.S.hi D.m D.h
structure DrB(D:DrD)(s0:Nat)(W:World):Prop where
 rows:Boxed W (s0+6) 3 (.int .i64 (D.r:Int))
 size:Boxed W (s0+7) 3 (.int .i64 (D.z:Int))
 x:Boxed W (s0+1) 3 (.int .i64 (D.x:Int))
 y:Boxed W (s0+2) 3 (.int .i64 (D.y:Int))
 wd:Boxed W (s0+8) 3 (.int .i64 (D.m:Int))
 ht:Boxed W (s0+9) 3 (.int .i64 (D.h:Int))
 clip:Boxed W (s0+3) 4 (.bool D.clip)
 s:SB s0 D.S W
section
variable {D:DrD} {s0 b:Nat} {w w':World}
theorem wY{t:TypeId}{v:Value}{k:Nat}(h:Boxed w k t v)(hne:k≠b)(o:Nat)(u:Value):Boxed (w.setCell ⟨b,o,none⟩ u) k t v:=(qQ w ⟨b,o,none⟩ u k hne).trans h
theorem rE{t:TypeId}{v:Value}{k:Nat}(h:Boxed w k t v)(hne:k≠b)(cs:Array Value):Boxed (w.setRow b cs) k t v:=(zA w b k cs hne).trans h
theorem DrB.step(H:DrB D s0 w)(hb:Below w.heap.size w w'):DrB D s0 w':=⟨vR H.rows hb,vR H.size hb,vR H.x hb,vR H.y hb,vR H.wd hb,vR H.ht hb,vR H.clip hb,H.s.step hb⟩
theorem DrB.other(H:DrB D s0 w)(hb:b=s0+4∨s0+10≤b)(o:Nat)(u:Value):DrB D s0 (w.setCell ⟨b,o,none⟩ u):=
 ⟨wY H.rows zBY o u,wY H.size zBY o u,wY H.x zBY o u,wY H.y zBY o u,wY H.wd zBY o u,wY H.ht zBY o u,wY H.clip zBY o u,H.s.other zBY o u⟩
theorem DrB.row(H:DrB D s0 w)(hb:s0+10≤b)(cs:Array Value):DrB D s0 (w.setRow b cs):=
 ⟨rE H.rows zBY cs,rE H.size zBY cs,rE H.x zBY cs,rE H.y zBY cs,rE H.wd zBY cs,rE H.ht zBY cs,rE H.clip zBY cs,H.s.otherRow zBY cs⟩
theorem wO.other{g o n:Nat}{F:Nat→Nat}{A:Option Addr}(h:wO g o F n A w)(hb:0<n→g≠b)(k:Nat)(u:Value):wO g o F n A (w.setCell ⟨b,k,none⟩ u):=fun hn=>by
 obtain⟨h1,h2,h3⟩:=h hn;exact⟨h1,by simpa using h2,fun j hj=>by rw[qI _ _ _ _ (by simp[Ne.symm (hb hn)])];exact h3 j hj⟩
theorem wO.row{g o n:Nat}{F:Nat→Nat}{A:Option Addr}(h:wO g o F n A w)(hb:0<n→g≠b)(cs:Array Value):wO g o F n A (w.setRow b cs):=fun hn=>by
 obtain⟨h1,h2,h3⟩:=h hn;exact⟨h1,by simpa [World.setRow]using h2,fun j hj=>by rw[qM (a:=⟨g,o+j,none⟩) (zA w b g cs (hb hn))];exact h3 j hj⟩
theorem gK.other{A:Option Addr}{L:List Nat}(h:gK w A L)(hb:∀ad,A=some ad→ad.block≠b)(o:Nat)(u:Value):gK (w.setCell ⟨b,o,none⟩ u) A L:=fun hne=>by
 obtain⟨ad,hA,hlt,hc⟩:=h hne;refine⟨ad,hA,by simpa using hlt,fun j hj=>?_⟩;rw[qM (a:=ad.add j) (qQ w ⟨b,o,none⟩ u (ad.add j).block (by rw[gQ];exact hb ad hA))];exact hc j hj
theorem wO.notBox{g o n:Nat}{F:Nat→Nat}{A:Option Addr}{t:TypeId}{v:Value}(h:wO g o F n A w)(hx:Boxed w b t v)(hv:∀x,v≠ .int .u8 x)(hn:0<n):g≠b:=fun e=>by
 obtain⟨_,_,h3⟩:=h hn;have h4:=h3 0 hn;rw[e,j4 w b (o+0) #[v] t (0,0) hx]at h4;rcases(show o=0∨1≤o by omega)with rfl|h5
 ·simp at h4;exact hv _ h4
 ·rw[zE zBS]at h4;cases h4
theorem wO.notPl{g o n:Nat}{F:Nat→Nat}{A:Option Addr}{t:TypeId}{Q:Pl}(h:wO g o F n A w)(hx:vJ b t Q w)(hn:0<n):g≠b:=fun e=>by
 obtain⟨_,_,h3⟩:=h hn;have h4:=h3 0 hn;rw[e]at h4;by_cases h5:o+0<128
 ·rw[hx.cell _ h5]at h4;cases h4
 ·rw[j4 w b (o+0) _ t (0,0) hx,zE (by rw[mY];omega)]at h4;cases h4
end
structure DrG(D:DrD)(s0:Nat)(ps:List Pl)(W:World):Prop where
 b:DrB D s0 W
 data:∃A c,Boxed W (s0+4) 22 (.slice A ((D.N-ps.length)*(D.r*D.z)) c)∧(D.N-ps.length)*(D.r*D.z)≤c∧c≤1000∧wO D.g (D.o+ps.length*(D.r*D.z)) (fun j=>D.F (ps.length*(D.r*D.z)+j)) ((D.N-ps.length)*(D.r*D.z)) A W
 coll:Boxed W (s0+10) 4 (.bool (D.coll 0 ps))
theorem DrG.step{D:DrD}{s0:Nat}{ps:List Pl}{w w':World}(G:DrG D s0 ps w)(hb:Below w.heap.size w w'):DrG D s0 ps w':=by
 obtain⟨A,c,d1,d2,d3,d4⟩:=G.data;exact⟨G.b.step hb,⟨A,c,vR d1 hb,d2,d3,d4.step hb⟩,vR G.coll hb⟩
def DrT(s0:Nat)(k:Nat):Prop:=k=s0+4∨k=s0+10
theorem wO.short{g o n k:Nat}{F:Nat→Nat}{A:Option Addr}{w:World}(h:wO g o F n A w)(hk:k≤n):wO g o F k A w:=fun h0=>by
 obtain⟨h1,h2,h3⟩:=h zBY;exact⟨h1,h2,fun j hj=>h3 j zBY⟩
theorem wO.rest{g o n k c:Nat}{F:Nat→Nat}{A:Option Addr}{w:World}(h:wO g o F (n+k) A w)(hc:n+k≤c):wO g (o+k) (fun j=>F (k+j)) n (if c=k then A else A.map fun a=>a.add k) w:=fun h0=>by
 obtain⟨h1,h2,h3⟩:=h zBY;subst h1;rw[zL zBY];exact⟨by simp[Addr.add_mid],h2,fun j hj=>by have:=h3 (k+j) zBY;rwa [←qS]at this⟩
theorem own_le(D:DrD)(ok:zGA D):D.r*D.z≤32:=by
 refine zD (Nat.mul_le_mul ok.r1 (show D.z≤2 by rcases ok.z0 with h|h<;>omega)) zBY
theorem zKJ{N n:Nat}(q:Nat)(hn:n<N):(N-n)*q=(N-(n+1))*q+q:=by
 rw[←Nat.succ_mul];congr 1;omega
theorem zJT(D:DrD)(ok:zGA D)(s0:Nat)(ps:List Pl)(hn:ps.length<D.N)(p:Pl)(w:World)(G:DrG D s0 ps w):
  Calls Tryz.prog 234 #[.agg (mQ p),.pointer (some ⟨s0+6,0,none⟩),.pointer (some ⟨s0+7,0,none⟩),.pointer (some ⟨s0+4,0,none⟩),.pointer (some ⟨s0+1,0,none⟩),.pointer (some ⟨s0+8,0,none⟩),.pointer (some ⟨s0+2,0,none⟩),.pointer (some ⟨s0+9,0,none⟩),.pointer (some ⟨s0,0,none⟩),.pointer (some ⟨s0+3,0,none⟩),.pointer (some ⟨s0+10,0,none⟩)] w
   fun e w'=>e=.returned (.agg (mQ (bT p (D.sp ps.length))))∧DrG D s0 (ps++[p]) w'∧But (DrT s0) w w':=by
 have hz:=rQ;obtain⟨q,hq⟩:∃q,D.r*D.z=q:=⟨_,rfl⟩;have q1:=own_le D ok;rw[hq]at q1;obtain⟨m',hm'⟩:∃m',(D.N-(ps.length+1))*q=m':=⟨_,rfl⟩;have hm:(D.N-ps.length)*(D.r*D.z)=m'+q:=by rw[zKJ _ hn,hq,hm']
 obtain⟨Q,hQ⟩:∃Q,bT p (D.sp ps.length)=Q:=⟨_,rfl⟩;obtain⟨P,hP⟩:∃P,D.sp ps.length=P:=⟨_,rfl⟩;obtain⟨hv,hhv⟩:∃v,sG p P=v:=⟨_,rfl⟩;rw[hP]at hQ;have DR:=zW fun w=>drW hQ hhv w;have CO:=zW (show D.coll 0 (ps++[p])=(D.coll 0 ps||hv) by rw[ZS,qB,hP,hhv]);rw[hP,hQ];have P0:=zW ((vJ.new w p 69).alloc (.cells (mQ fun _=>0#128) 69));have R:=zW (vJ.new (w.alloc (.cells (mQ p) 69)) (fun _=>0#128) 69);have B:=zW ((cH w (.cells (mQ p) 69)).alloc zBT (.cells (mQ fun _=>0#128) 69));rw[zR]at R;have G1:=zW (G.step B.out);have Z1:((w.alloc (.cells (mQ p) 69)).alloc (.cells (mQ fun _=>0#128) 69)).heap.size=w.heap.size+2:=zBT;have Gs:=zW (show s0+10<w.heap.size from G.coll.lt);have OK:=zW (zY ok (zY hn (zY hq (zY hm hP))));have HM:=zW hm';clear G ok hn hP hhv hQ hm';go_enter Tryz.func234,Tryz.ntmps234;go_upto_region 1 with fail;generalize (w.alloc (.cells (mQ p) 69)).alloc (.cells (mQ fun _=>0#128) 69)=w1 at*;clear hz;obtain⟨A,c,d1,d2,d3,d4⟩:=G1.out.data;rw[hm]at d1 d2 d4;have DD:=zW (zY d1 (zY d2 (zY d3 d4)));have c1:=G1.out.b.rows.cell;have c2:=G1.out.b.size.cell;have c3:=d1.cell;obtain⟨r,hr⟩:∃r,D.r=r:=⟨_,rfl⟩;obtain⟨z,hzz⟩:∃z,D.z=z:=⟨_,rfl⟩;rw[hr]at c1;rw[hzz]at c2;have e1:(r:Int)*(z:Int)=(q:Int):=by rw[←hq,hr,hzz];simp
 have e2:max (q:Int) 0=(q:Int):=zBY;have e3:min (q:Int) ((m':Int)+(q:Int))=(q:Int):=zBY;have RZ:=zW (zY hr hzz);clear d1 d2 d3 d4 hm hr hzz hq;go_upto_region 2 with fail;have RB:=zW (show∀w',Below w1.heap.size w1 w'→Calls Tryz.prog 235 #[.slice A q c,.int .i64 (z:Int)] w' fun e w''=>∃A' c',e=.returned (.slice A' r c')∧gK w'' A' (QW D.F r z (ps.length*(D.r*D.z)))∧(∀ad,A'=some ad→w'.heap.size≤ad.block)∧Below w'.heap.size w' w'' from fun w' hb=>by
  have h:=TA D.g (D.o+ps.length*(D.r*D.z)) r z c A (fun j=>D.F (ps.length*(D.r*D.z)+j)) zRA zRA (by have:=OK.out.1.r1;have:=RZ.out.1;omega) (by have h2:=DD.out.2.1;have h3:=OK.out.2.2.1;rw[RZ.out.1,RZ.out.2]at h3;omega) DD.out.2.2.1 (fun j=>OK.out.1.F1 _) w' (by
   have h3:=OK.out.2.2.1;rw[RZ.out.1,RZ.out.2]at h3;rw[h3];exact(DD.out.2.2.2.step hb).short zBY)
  have h3:=OK.out.2.2.1;rw[RZ.out.1,RZ.out.2]at h3;rw[h3]at h;exact h)
 have k3:∀x:mH w1,x.w.cell? ⟨s0+4,0,none⟩=some (.slice A (m'+q) c):=fun x=>(vR DD.out.1 x.below).cell;have k2:∀x:mH w1,x.w.cell? ⟨s0+7,0,none⟩=some (.int .i64 (z:Int)):=fun x=>by rw[←RZ.out.2];exact(vR G1.out.b.size x.below).cell
 have qc:(q:Int)≤(c:Int):=by have:=DD.out.2.1;omega
 have LL:=zW (zY P0.out (zY R.out (zY B.out G1.out)));refine nR (C:=fun w'=>∃x:mH w1,w'=x.w) [([0,1,2,3],4)] [5] zBM zBM (fun _ _ d _ _ h=>by cases d<;>exact h) ⟨⟨w1.drew,(zB _ _).drew⟩,rfl⟩ ?_;intro wd hwd;have bd:Below w1.heap.size w1 wd:=by rw[hwd];exact(zB _ _).drew
 clear hwd c1 c2 c3;refine nD zBN zBG ?_;repeat(go_big_quiet_step (rfl))
 refine zM ?_;refine nK zBB ?_;intro K hK;go_wp2_with fail;refine(RB.out _ bd).mono ?_;rintro e w2 ⟨A',c',rfl,hrd,hab,b2⟩;have hab:=zW fun ad h=>zD bd.size (hab ad h);have b2':=bd.trans (b2.mono bd.size);have L2:=zW (zY (P0.out.step b2') (zY (R.out.step b2') (zY (B.out.trans (b2'.mono B.out.size)) (zY (G1.out.step b2') (zY (vR DD.out.1 b2') (zY (DD.out.2.2.2.step b2') hrd))))));simp only[];refine hK _ _ ⟨⟨w2,b2'⟩,rfl⟩ ?_;clear hK K b2 hrd LL P0 R B G1 RB k3 k2;refine cT zBN ?_;repeat(go_big_quiet_step (rfl))
 refine zM ?_;have k3:=L2.out.2.2.2.2.1.cell;have f3:=L2.out.2.2.2.2.1.frozen;go_upto_region 4 with fail;have hcq:=DD.out.2.1;have DA:=zW (L2.out.2.2.2.2.2.1.rest hcq);obtain⟨A3,hA3⟩:∃A3,(if c=q then A else Option.map (fun x=>x.add q) A)=A3:=⟨_,rfl⟩;rw[hA3]at DA⊢;have nb:0<m'→D.g≠s0+4:=L2.out.2.2.2.2.2.1.short (by omega:m'≤m'+q)|>.notBox L2.out.2.2.2.2.1 (fun x h=>by cases h)
 have S3:=zW (show DrB D s0 (w2.setCell ⟨s0+4,0,none⟩ (.slice A3 m' (c-q)))∧Boxed (w2.setCell ⟨s0+4,0,none⟩ (.slice A3 m' (c-q))) (s0+4) 22 (.slice A3 m' (c-q))∧
   wO D.g (D.o+ps.length*(D.r*D.z)+q) (fun j=>D.F (ps.length*(D.r*D.z)+(q+j))) m' A3 (w2.setCell ⟨s0+4,0,none⟩ (.slice A3 m' (c-q)))∧Boxed (w2.setCell ⟨s0+4,0,none⟩ (.slice A3 m' (c-q))) (s0+10) 4 (.bool (D.coll 0 ps))∧
   vJ w.heap.size 69 p (w2.setCell ⟨s0+4,0,none⟩ (.slice A3 m' (c-q)))∧vJ (w.heap.size+1) 69 (fun _=>0#128) (w2.setCell ⟨s0+4,0,none⟩ (.slice A3 m' (c-q)))∧gK (w2.setCell ⟨s0+4,0,none⟩ (.slice A3 m' (c-q))) A' (QW D.F r z (ps.length*(D.r*D.z)))∧But (DrT s0) w (w2.setCell ⟨s0+4,0,none⟩ (.slice A3 m' (c-q)))∧w.heap.size+2≤(w2.setCell ⟨s0+4,0,none⟩ (.slice A3 m' (c-q))).heap.size from
  ⟨L2.out.2.2.2.1.b.other (.inl rfl) _ _,L2.out.2.2.2.2.1.set _,DA.out.other nb _ _,wY L2.out.2.2.2.1.coll zBY _ _,L2.out.1.other zRX _ _,L2.out.2.1.other zRX _ _,
   L2.out.2.2.2.2.2.2.other (fun ad h=>by have:=hab.out ad h;have:=Gs.out;omega) _ _,(But.of_below L2.out.2.2.1).trans (But.cell _ _ (.inl rfl)),by have:=b2'.size;simp;omega⟩)
 generalize w2.setCell ⟨s0+4,0,none⟩ (.slice A3 m' (c-q))=w3 at*;clear k3 f3 hA3 nb DA L2 bd b2' qc e1 e2 e3;obtain⟨x,hx⟩:∃x,D.x=x:=⟨_,rfl⟩;obtain⟨y,hy⟩:∃y,D.y=y:=⟨_,rfl⟩;obtain⟨m,hm⟩:∃m,D.m=m:=⟨_,rfl⟩;obtain⟨h,hh⟩:∃h,D.h=h:=⟨_,rfl⟩;obtain⟨hi,hhi⟩:∃hi,D.S.hi=hi:=⟨_,rfl⟩;obtain⟨cl,hcl⟩:∃cl,D.clip=cl:=⟨_,rfl⟩;have VV:=zW (zY hx (zY hy (zY hm (zY hh (zY hhi hcl)))));have res:=OK.out.1.res;rw[hm,hh,hhi]at res;obtain⟨m0,m1,h0,h1⟩:=res.bounds;have k2:∀u:mH w3,u.w.cell? ⟨s0+7,0,none⟩=some (.int .i64 (z:Int)):=fun u=>by rw[←RZ.out.2];exact(vR S3.out.1.size u.below).cell
 have k4:∀u:mH w3,u.w.cell? ⟨s0+1,0,none⟩=some (.int .i64 (x:Int)):=fun u=>by rw[←hx];exact(vR S3.out.1.x u.below).cell
 have k5:∀u:mH w3,u.w.cell? ⟨s0+8,0,none⟩=some (.int .i64 (m:Int)):=fun u=>by rw[←hm];exact(vR S3.out.1.wd u.below).cell
 have k6:∀u:mH w3,u.w.cell? ⟨s0+2,0,none⟩=some (.int .i64 (y:Int)):=fun u=>by rw[←hy];exact(vR S3.out.1.y u.below).cell
 have k7:∀u:mH w3,u.w.cell? ⟨s0+9,0,none⟩=some (.int .i64 (h:Int)):=fun u=>by rw[←hh];exact(vR S3.out.1.ht u.below).cell
 have k8:∀u:mH w3,u.w.cell? ⟨s0,512,none⟩=some (.bool hi):=fun u=>by rw[←hhi];exact(S3.out.1.s.step u.below).hires
 have k9:∀u:mH w3,u.w.cell? ⟨s0+3,0,none⟩=some (.bool cl):=fun u=>by rw[←hcl];exact(vR S3.out.1.clip u.below).cell
 have kp:=zW (fun(w':World) (hw:∃u:mH w3,w'=u.w)=>show Blk w.heap.size 69 (mQ p) w' by obtain⟨u,rfl⟩:=hw;exact S3.out.2.2.2.2.1.step u.below);have z8:(z:Int)≤2:=by have:=OK.out.1.z0;have:=RZ.out.2;omega
 have mI:(0:Int)<(m:Int):=zBY;have hI:(0:Int)<(h:Int):=zBY;have RS:=zW res;clear hx hy hm hh hhi hcl res hcq;refine mX (C:=fun w'=>∃u:mH w3,w'=u.w) 18 [([0,1,2,3,4,5,6,7,8,9,10,11,12],13,true),([],14,true)] [15,16,17] [19] zBM zBM ?_ ?_ ⟨⟨w3.drew,(zB _ _).drew⟩,rfl⟩ ?_
 ·exact zT8
 ·exact zT0
 intro wd hwd;have bd:=zW (show Below w3.heap.size w3 wd by rw[hwd];exact(zB _ _).drew);clear hwd;refine m4 zBN zBG ?_;refine l9 t9 kp.out (mY _) rfl (.tmp 11) rfl zBR ?_;simp only[Act.put,zQ,zZ,zJ];repeat(go_big_quiet_step (rfl))
 refine zM ?_;have HSP:spr (nth (QW D.F r z (ps.length*(D.r*D.z)))) r (z*8) (x%m) (y%h) m h cl=P:=by
  have e:=OK.out.2.2.2.2;unfold DrD.sp at e;obtain⟨v1,v2,v3,v4,v5,v6⟩:=VV.out;rw[v1,v2,v3,v4,v6]at e;rw[←e];rw[RZ.out.1,RZ.out.2]
 have SP:∀w',(∃u:mH w3,w'=u.w)→Calls Tryz.prog 237 #[.slice A' r c',.int .i64 ((z:Int)*8),.int .i64 ((x:Int)%(m:Int)),.int .i64 ((y:Int)%(h:Int)),.bool hi,.bool cl] w' fun e w''=>e=.returned (.agg (mQ P))∧Gr w' w'':=by
  rintro w' ⟨u,rfl⟩;exact spW RS.out (S3.out.2.2.2.2.2.2.1.step u.below) (by
   intro v hv;unfold QW at hv;obtain⟨j,_,rfl⟩:=jR.1 hv;exact zL3 (fun j=>OK.out.1.F1 _) z j zRA) (by simp[QW]) (by have:=OK.out.1.r1;have:=RZ.out.1;omega) zRA (kC _ zBY) (kC _ zBY) zBT zBT zBT HSP
 refine m5 (v:=.agg (mQ P)) (nN (g:=237) (caps:=#[]) (args:=#[.slice A' r c',.int .i64 ((z:Int)*8),.int .i64 ((x:Int)%(m:Int)),.int .i64 ((y:Int)%(h:Int)),.bool hi,.bool cl]) (.func 237) #[.tmp 33,.tmp 35,.tmp 38,.tmp 41,.tmp 43,.tmp 44] #[25,3,3,3,4,4] rfl rfl (enters_of Tryz.func237 zBM rfl) SP rfl zBR) ?_;clear SP HSP k2 k4 k5 k6 k7 k8 k9;simp only[Act.put,zQ,zZ,zJ];refine m4 zBN zBG ?_;refine zM ?_;refine m5 (v:=.tuple #[.agg (mQ Q),.bool hv]) (nN (g:=236) (caps:=#[]) (args:=#[.agg (mQ p),.agg (mQ P)]) (.func 236) #[.tmp 32,.tmp 45] #[69,69] rfl rfl (enters_of Tryz.func236 zBM rfl) (fun w' _=>DR.out w') rfl zBR) ?_;simp only[Act.put,zQ,zZ,zJ];refine mE zBN zBG ?_;repeat(go_big_quiet_step (rfl))
 refine zM ?_;refine mC rfl ?_;intro w4 g4 C4 K hK;have b4:=zW (bd.out.trans (g4.mono bd.out.size));refine nH (ds:=mQ Q) t9 (vJ.step S3.out.2.2.2.2.1 b4.out) (mY _) (mY _) (xD _) (.tmp 11) (.tmp 47) rfl zBL zBL ?_;refine hK _ _ ?_;clear hK K;simp only[Act.put,zQ,zZ,zJ];simp only[lA,zX,zK,zV];repeat(go_big_quiet_step (rfl))
 refine zM ?_;intro w5 g5;obtain⟨cv,hcv⟩:∃cv,D.coll 0 ps=cv:=⟨_,rfl⟩;rw[hcv]at S3 CO;have S4:=S3.out;obtain⟨s1,s2,s3,s4,s5,s6,-,s8,s9⟩:=S4;have ng:0<m'→D.g≠w.heap.size:=fun h0=>(s3.step b4.out).notPl (vJ.step s5 b4.out) h0;have S5:=zW (show DrB D s0 w5∧Boxed w5 (s0+4) 22 (.slice A3 m' (c-q))∧wO D.g (D.o+ps.length*(D.r*D.z)+q) (fun j=>D.F (ps.length*(D.r*D.z)+(q+j))) m' A3 w5∧Boxed w5 (s0+10) 4 (.bool cv)∧
   vJ w.heap.size 69 Q w5∧vJ (w.heap.size+1) 69 (fun _=>0#128) w5∧But (DrT s0) w w5 from
  ⟨((s1.step b4.out).row zRX _).step g5,vR (rE (vR s2 b4.out) zRX _) g5,((s3.step b4.out).row ng _).step g5,vR (rE (vR s4 b4.out) zRX _) g5,
   (vJ.store (vJ.step s5 b4.out) Q).step g5,((vJ.step s6 b4.out).otherRow zBY _).step g5,((s8.trans (But.of_below b4.out)).rowNew (zH _) _).trans (But.of_below g5)⟩)
 clear S3 s1 s2 s3 s4 s5 s6 s8 s9 ng b4 g4 C4 g5 bd kp VV m0 m1 h0 h1 z8 mI hI RS;have CB:=zW (zY DD.out.2.1 DD.out.2.2.1);clear DD;have k10:=S5.out.2.2.2.1.cell;have f10:=S5.out.2.2.2.1.frozen;obtain⟨nv,hnv⟩:∃nv,(cv||hv)=nv:=⟨_,rfl⟩;rw[hnv]at CO;have NV:=zW hnv;clear hnv hcv;have fin:∀(K:Act→World→Prop),True:=fun _=>trivial;clear fin;have stage:cv=true∧nv=true∨cv=false∧nv=hv:=by
  have:=NV.out;cases cv
  ·exact .inr ⟨rfl,by rw[←this];rfl⟩
  ·exact .inl ⟨rfl,by rw[←this];rfl⟩
 rcases stage with⟨rfl,rfl⟩|⟨rfl,rfl⟩
 ·go_upto_region 6 with fail;obtain⟨s1,s2,s3,s4,s5,s6,s8⟩:=S5.out;have ng:0<m'→D.g≠s0+10:=fun h0=>s3.notBox s4 (fun x h=>by cases h) h0;have ng2:0<m'→D.g≠w.heap.size+1:=fun h0=>s3.notPl s6 h0;have S6:=zW (show DrB D s0 (w5.setCell ⟨s0+10,0,none⟩ (.bool true))∧Boxed (w5.setCell ⟨s0+10,0,none⟩ (.bool true)) (s0+4) 22 (.slice A3 m' (c-q))∧wO D.g (D.o+ps.length*(D.r*D.z)+q) (fun j=>D.F (ps.length*(D.r*D.z)+(q+j))) m' A3 (w5.setCell ⟨s0+10,0,none⟩ (.bool true))∧Boxed (w5.setCell ⟨s0+10,0,none⟩ (.bool true)) (s0+10) 4 (.bool true)∧
    vJ w.heap.size 69 Q (w5.setCell ⟨s0+10,0,none⟩ (.bool true))∧vJ (w.heap.size+1) 69 (fun _=>0#128) (w5.setCell ⟨s0+10,0,none⟩ (.bool true))∧But (DrT s0) w (w5.setCell ⟨s0+10,0,none⟩ (.bool true))from
   ⟨s1.other (.inr (zH _)) _ _,wY s2 zBY _ _,s3.other ng _ _,s4.set _,s5.other zRX _ _,s6.other zRX _ _,s8.trans (But.cell _ _ (.inr rfl))⟩)
  generalize w5.setCell ⟨s0+10,0,none⟩ (.bool true)=w6 at*;exact zDZ
 ·go_upto_region 6 with fail;obtain⟨s1,s2,s3,s4,s5,s6,s8⟩:=S5.out;have ng:0<m'→D.g≠s0+10:=fun h0=>s3.notBox s4 (fun x h=>by cases h) h0;have ng2:0<m'→D.g≠w.heap.size+1:=fun h0=>s3.notPl s6 h0;have S6:=zW (show DrB D s0 (w5.setCell ⟨s0+10,0,none⟩ (.bool nv))∧Boxed (w5.setCell ⟨s0+10,0,none⟩ (.bool nv)) (s0+4) 22 (.slice A3 m' (c-q))∧wO D.g (D.o+ps.length*(D.r*D.z)+q) (fun j=>D.F (ps.length*(D.r*D.z)+(q+j))) m' A3 (w5.setCell ⟨s0+10,0,none⟩ (.bool nv))∧Boxed (w5.setCell ⟨s0+10,0,none⟩ (.bool nv)) (s0+10) 4 (.bool nv)∧
    vJ w.heap.size 69 Q (w5.setCell ⟨s0+10,0,none⟩ (.bool nv))∧vJ (w.heap.size+1) 69 (fun _=>0#128) (w5.setCell ⟨s0+10,0,none⟩ (.bool nv))∧But (DrT s0) w (w5.setCell ⟨s0+10,0,none⟩ (.bool nv))from
   ⟨s1.other (.inr (zH _)) _ _,wY s2 zBY _ _,s3.other ng _ _,s4.set _,s5.other zRX _ _,s6.other zRX _ _,s8.trans (But.cell _ _ (.inr rfl))⟩)
  generalize w5.setCell ⟨s0+10,0,none⟩ (.bool nv)=w6 at*;exact zDZ
end
end Go.Proofs.YtcjldabaekbdlaaGreatDoor
