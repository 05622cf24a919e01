/- CpuRef12. -/
import Derived.Test.YtcjldabaekbdlaaGreatDoorMCpuRef11
set_option maxRecDepth 400000
set_option maxHeartbeats 64000000
set_option linter.unusedVariables false
set_option linter.unusedSimpArgs false
namespace Go.Proofs.YtcjldabaekbdlaaGreatDoor
section
open Go.RowKit Num Dec Cpu
structure US where
 rom:Sl
 lst:Sl
 v:Nat→Nat
 i:Nat
 pc:Nat
 stk:Sl
 keys:Sl
 dl:Nat
 sd:Nat
 hr:Bool
 msk:Nat
 fl:Sl
def uscT(u:US):List Value:=[.int .u16 (u.i:Int),.int .u16 (u.pc:Int),u.stk.v,u.keys.v,.int .u8 (u.dl:Int),.int .u8 (u.sd:Int),.bool u.hr,.int .u8 (u.msk:Int),u.fl.v]
def usc(u:US):Array Value:=([u.rom.v,u.lst.v]++(((List.range 16).map fun j=>Value.int .u8 (u.v j:Int))++uscT u)).toArray
theorem n8(u:US):(usc u).size=27:=by simp[usc,uscT]
theorem zG4(u:US):(usc u).extract 2 (2+16)=rg u.v:=by
 apply qH
 intro j
 rw[lV,n8];by_cases hj:j<16
 ·rw[zG zBY,gJ _ hj];unfold usc;rw[zX,qP zBT,qA zBS];simp[hj]
 ·rw[zL zBY,zE (by rw[mK];omega)]
theorem yL:xX Tryz.prog 28 27:=⟨⟨_,Tryz.underlying28,rfl⟩,by kernel_rfl⟩
structure UR(w:World)(u:US)(R L:List Int)(S:List Nat)(ks:List Ev)(FL:List Int):Prop where
 rom:Rd w u.rom.A R∧R.length=u.rom.n
 lst:Rd w u.lst.A L∧L.length=u.lst.n
 stk:gK w u.stk.A S∧S.length=u.stk.n
 keys:Evs w u.keys.A u.keys.n ks
 fl:Rd w u.fl.A FL∧FL.length=u.fl.n
 r1:R.length≤2000
 l1:L.length≤100
 s1:S.length≤16
 k1:ks.length≤20
 f1:FL.length≤16
 s2:∀x∈S,x≤65535
 sc:u.stk.n≤u.stk.c
 i:u.i≤65535
 pc:u.pc≤65535
 dl:u.dl<256
 sd:u.sd<256
 msk:u.msk<256
 v:OkV u.v
theorem UR.step{w w':World}{u:US}{R L:List Int}{S:List Nat}{ks:List Ev}{FL:List Int}(h:UR w u R L S ks FL)(b:Below w.heap.size w w'):UR w' u R L S ks FL:=
 ⟨⟨h.rom.1.below b,h.rom.2⟩,⟨h.lst.1.below b,h.lst.2⟩,⟨h.stk.1.below b,h.stk.2⟩,h.keys.step b,⟨h.fl.1.below b,h.fl.2⟩,h.r1,h.l1,h.s1,h.k1,h.f1,h.s2,h.sc,h.i,h.pc,h.dl,h.sd,h.msk,h.v⟩
def wZ(S:List Nat):List Int:=S.map fun x:Nat=>(x:Int)
def ofA(u:US)(R L:List Int)(S:List Nat)(ks:List Ev)(FL:List Int):AS:=
 ⟨u.v,(u.i:Int),(u.pc:Int),wZ S,yJ R,fun _ _=>false,u.hr,u.msk%16,ks,u.dl,u.sd,cC mU,64,ov mU FL,L,0⟩
structure zGC(w:World)(u:US)(z:Sls):Prop where
 sk:FrS w z.sk
 M:FrS w z.M
 G:FrS w z.G
 P:FrS w z.P
 fl:FrS w z.fl
 K:z.K=u.keys
 L:z.L=u.lst
def xS(B:Nat)(W:World):Type:={w':World//Below B W w'}
def xS.w{B:Nat}{W:World}(x:xS B W):World:=x.1
theorem xS.below{B:Nat}{W:World}(x:xS B W):Below B W x.w:=x.2
instance(B:Nat)(W:World):Nonempty (xS B W):=⟨⟨W,zB _ _⟩⟩
theorem xS.cell{B:Nat}{W:World}{b o:Nat}{v:Value}(h:W.cell? ⟨b,o,none⟩=some v)(hb:b<B)(x:xS B W):x.w.cell? ⟨b,o,none⟩=some v:=(x.below.cell (p:=⟨b,o,none⟩) hb).trans h
theorem zVJ{wc w1 w2:World}{g:Nat}{A:Option Addr}{L:List Int}(h:Rd w1 A L)(f:∀ad,A=some ad→wc.heap.size≤ad.block)(hc:g<wc.heap.size)(hs:w1.heap.size≤w2.heap.size)(hk:∀k,k≠g→w2.heap[k]?=w1.heap[k]?):Rd w2 A L:=fun hne=>by
 obtain⟨ad,e,hb,hc1⟩:=h hne;have hg:ad.block≠g:=by have:=f ad e;omega
 exact⟨ad,e,zS hb hs,fun j hj=>(qM (by rw[cP];exact hk _ hg)).trans (hc1 j hj)⟩
theorem zMG{w:World}{base n c:Nat}{e:TypeId}{A:Option Addr}{xs:List Value}(h:w.ownsRow base e 1 (.slice A n c) n xs):c≤maxLen:=by
 rcases h.2 with⟨e1,e2⟩|⟨g,cap,cur,e1,_,_,_,h1,_⟩
 ·injection e1 with _ _ e3
  omega
 ·injection e1 with _ _ e3
  omega
theorem zKB{B:Nat}{W:World}(y:xS B W):W.heap.size≤y.w.heap.size:=y.below.size
structure OFX(w w2:World)(g s0:Nat)(u:US)(s:CS)(w1:World):Prop where
 u:Blk g 28 (usc u) w1
 o:Blk (g+1) 43 (cst vP) w1
 s:Blk s0 43 (cst s) w1
 low:Below w.heap.size w w1
 b2:Below w2.heap.size w2 w1
 e2:w2.heap.size=s0
 at_:w.heap.size≤g
 gs:g+1<s0
section
variable {w w2 w1 w3:World} {g s0:Nat} {u:US} {s s':CS}
theorem OFX.step(h:OFX w w2 g s0 u s w1)(b:Below w1.heap.size w1 w3):OFX w w2 g s0 u s w3:=⟨h.u.step b,h.o.step b,h.s.step b,h.low.trans (b.mono h.low.size),h.b2.trans (b.mono h.b2.size),h.e2,h.at_,h.gs⟩
theorem OFX.put(h:OFX w w2 g s0 u s w1)(k:Nat)(v:Value)(e:(cst s).setIfInBounds k v=cst s'):OFX w w2 g s0 u s' (w1.setCell ⟨s0,k,none⟩ v):=
 ⟨h.u.other (by have:=h.gs;omega) k v,h.o.other (by have:=h.gs;omega) k v,(h.s.put k v).eq e,h.low.trans (Below.setCell (zB _ _) (show w.heap.size≤s0 by have:=h.at_;have:=h.gs;omega) _),h.b2.trans (Below.setCell (zB _ _) (show w2.heap.size≤s0 by rw[h.e2];exact zH _) _),h.e2,h.at_,h.gs⟩
theorem OFX.row(h:OFX w w2 g s0 u s w1):OFX w w2 g s0 u s' (w1.setRow s0 (cst s')):=
 ⟨h.u.otherRow (by have:=h.gs;omega) _,h.o.otherRow (by have:=h.gs;omega) _,h.s.store _,lU h.low (by have:=h.at_;have:=h.gs;omega) _,lU h.b2 (by rw[h.e2];exact zH _) _,h.e2,h.at_,h.gs⟩
theorem OFX.grown{n:Nat}{v:Value}{xs:List Value}(h:OFX w w2 g s0 u s w1)(hg:w1.grownBy w3 v.ownBlock)(ho:w1.ownsRow (s0+1) 3 1 v n xs):OFX w w2 g s0 u s w3:=by
 have t1:=vY ho h.u zBH;have t2:=vY ho h.o zBH;have t3:=vY ho h.s zBH;exact⟨(hg.block g h.u.lt (fun e=>t1 e.symm)).trans h.u,(hg.block _ h.o.lt (fun e=>t2 e.symm)).trans h.o,(hg.block _ h.s.lt (fun e=>t3 e.symm)).trans h.s,
  h.low.grown hg h.low.size fun j ej=>by(have:=(ho.lt j ej).1;have:=h.at_;have:=h.gs;omega),h.b2.grown hg h.b2.size fun j ej=>by(have:=(ho.lt j ej).1;have:=h.e2;omega),h.e2,h.at_,h.gs⟩
end
theorem fL(N:Nat)(hN:N=8192)(u:US)(R L:List Int)(S:List Nat)(ks:List Ev)(FL:List Int)(w:World)(H:UR w u R L S ks FL):
  Calls Tryz.prog 18 #[.agg (usc u)] w fun e w'=>∃z,e=.returned (.agg (cst (mT (ofA u R L S ks FL) z)))∧RS N w' z (ofA u R L S ks FL)∧Below w.heap.size w w'∧zGC w u z:=by
 have NN:=zW hN;have UU:=zW H;have i0:(0:Int)≤(u.i:Int):=zBY;have i1:(u.i:Int)≤65535:=by have:=H.i;omega
 have p0:(0:Int)≤(u.pc:Int):=zBY;have p1:(u.pc:Int)≤65535:=by have:=H.pc;omega
 clear H hN;go_enter Tryz.func18,Tryz.ntmps18;go_upto_region 0 with fail;refine zN ?_;refine mZ rfl _ (.tmp 0) rfl (usc u) rfl ?_;simp only[Act.put,zQ,zZ,zJ];refine qL rfl fun K hK=>nF xI rfl (hK _ _ ?_);clear hK K;simp only[Act.put,zQ,zZ,zJ,zR];have U0:=zW ((Blk.new w 28 (usc u)).alloc (.cells (cst vP) 43));have o0:=Blk.new (w.alloc (.cells (usc u) 28)) 43 (cst vP);rw[zR]at o0;have B0:=zW ((mJ w (.cells (usc u) 28)).alloc zBT (.cells (cst vP) 43));obtain⟨g,hg⟩:∃g,w.heap.size=g:=⟨_,rfl⟩;have AT:=zW (jT hg);rw[hg]at U0 o0⊢;have O0:=zW o0;clear o0;generalize World.alloc (World.alloc _ _) _=w1 at U0 O0 B0⊢;clear hg;go_upto_region 1 with fail;refine zN ?_;have u0:w1.cell? ⟨g,0,none⟩=some (.slice u.rom.A u.rom.n u.rom.c):=(U0.out.cell 0).trans rfl;have u1:w1.cell? ⟨g,1,none⟩=some (.slice u.lst.A u.lst.n u.lst.c):=(U0.out.cell 1).trans rfl;go_wp2_with fail;refine(IQ N NN.out u.rom.A u.rom.n u.rom.c R u.lst.A u.lst.n u.lst.c L w1 (UU.out.rom.1.below B0.out) UU.out.rom.2 (by have:=UU.out.r1;have:=UU.out.rom.2;omega) (UU.out.lst.1.below B0.out) UU.out.lst.2).mono ?_;rintro e w2 ⟨z0,rfl,r0,b2,hz,hL,fM,fP,fG⟩;have FG:=zW fG;clear fG;have W1:=zW (show g+1<w1.heap.size from O0.out.lt);have FM:=zW fM;have FP:=zW fP;have HLL:=zW hL;have R0:=zW r0;have HZ:=zW hz;have U2:=zW (U0.out.step b2);have O2:=zW (O0.out.step b2);have B2:=zW (B0.out.trans (b2.mono B0.out.size));clear r0 b2 hz hL fM fP u0 u1 U0 O0 B0;simp only[];go_at_K
 iterate 1 go_step
 refine nY (ds:=cst (mT (uK R L) z0)) mM xI (lC _) (lC _) (nZ _) rfl rfl rfl (.tmp 3) (.tmp 9) rfl zBL zBL ?_;simp only[Act.put,zQ,zZ,zJ];have X:=zW (show OFX w w2 g w2.heap.size u (mT (uK R L) z0) (w2.alloc (.cells (cst (mT (uK R L) z0)) 43))from
  ⟨U2.out.alloc _,O2.out.alloc _,Blk.new _ _ _,B2.out.alloc B2.out.size _,mJ w2 _,rfl,AT.out,O2.out.lt⟩)
 obtain⟨s0,hs0⟩:∃s,w2.heap.size=s:=⟨_,rfl⟩;have E2:=zW hs0;rw[hs0]at X⊢;generalize World.alloc _ _=w3 at X⊢;clear hs0 U2 O2 B2;go_upto_region 2 with fail;refine zN ?_;iterate 3 go_step
 refine nA (o:=2) (n:=16) mD X.out.u (by rw[n8];decide) rfl (.tmp 10) rfl rfl ?_;rw[zG4];simp only[Act.put,zQ,zZ,zJ];iterate 3 go_step
 refine nG (o:=0) (ds:=rg u.v) mD X.out.s (mK _) zB2 (vT _) rfl (.tmp 12) (.tmp 11) rfl rfl rfl ?_;simp only[Act.put,zQ,zZ,zJ];rw[QC];obtain⟨s1,hs1⟩:∃s:CS,{mT (uK R L) z0 with v:=u.v}=s:=⟨_,rfl⟩;rw[hs1];have X:=zW (show OFX w w2 g s0 u s1 (World.setRow w3 s0 (cst s1))from X.out.row);generalize World.setRow _ _ _=w4 at X⊢;have HS1:=zW hs1;clear hs1;go_upto_region 3 with fail;have u18:w4.cell? ⟨g,18,none⟩=some (.int .u16 (u.i:Int)):=(X.out.u.cell 18).trans rfl;have c16:w4.cell? ⟨s0,16,none⟩=some (.int .i64 s1.i):=(X.out.s.cell 16).trans (nW _ 0);have f16:=X.out.s.frozen 16;go_upto_region 4 with fail;clear c16 f16;have X:=zW (show OFX w w2 g s0 u {s1 with i:=(u.i:Int)} (World.setCell w4 ⟨s0,16,none⟩ (.int .i64 (u.i:Int)))from X.out.put 16 _ (rX s1 (u.i:Int)));generalize World.setCell _ _ _=w5 at X⊢;clear u18;have u19:w5.cell? ⟨g,19,none⟩=some (.int .u16 (u.pc:Int)):=(X.out.u.cell 19).trans rfl;have c17:w5.cell? ⟨s0,17,none⟩=some (.int .i64 s1.pc):=(X.out.s.cell 17).trans (nW _ 1);have f17:=X.out.s.frozen 17;go_upto_region 5 with fail;clear c17 f17;have X:=zW (show OFX w w2 g s0 u {s1 with i:=(u.i:Int),pc:=(u.pc:Int)} (World.setCell w5 ⟨s0,17,none⟩ (.int .i64 (u.pc:Int)))from X.out.put 17 _ (rJ _ (u.pc:Int)));generalize World.setCell _ _ _=w6 at X⊢;clear u19 i0 i1 p0 p1;obtain⟨s2,hs2⟩:∃s:CS,{s1 with i:=(u.i:Int),pc:=(u.pc:Int)}=s:=⟨_,rfl⟩;rw[hs2]at X;have SK:=zW (show s2.sk=cX by rw[←hs2,←HS1.out];exact HZ.out);have HS2:=zW hs2;clear hs2;obtain⟨n,hn⟩:∃n,u.stk.n=n:=⟨_,rfl⟩;have HN:=zW hn;have SL:=zW (UU.out.stk.2.trans hn);have cn:n≤u.stk.c:=hn▸UU.out.sc;have n16:n≤16:=by have:=UU.out.s1;have:=SL.out;omega
 clear hn;have XS:=zW (show OFX w w2 g s0 u {s2 with sk:=⟨none,0,0⟩} w6 from by have h:=X.out;rw[show s2={s2 with sk:=⟨none,0,0⟩}from by cases s2;have:=SK.out;simp only at this;rw[this];rfl]at h;exact h);clear X;go_wp2;go_loopw [4] (fun v4 wr=>∃(j c:Nat) (A:Option Addr),j≤n∧v4=.int .i64 (j:Int)∧OFX w w2 g s0 u {s2 with sk:=⟨A,j,c⟩} wr∧wr.ownsRow (s0+1) 3 1 (.slice A j c) j (((wZ S).take j).map (Value.int .i64))) (fun i _=>n-(intOf i).toNat)
 case atStart=>exact⟨0,0,none,qE _,rfl,XS.out,qO _ _ _ _⟩
 case round=>
  clear XS
  obtain⟨j,c,A,hj,rfl,x,o⟩:=hrel
  have X:=zW x
  have OO:=zW o
  clear x o
  have u20:wr.cell? ⟨g,20,none⟩=some (.slice u.stk.A n u.stk.c):=(X.out.u.cell 20).trans (by rw[←HN.out];rfl)
  by_cases hlt:j<n
  ·have jI:(j:Int)<(n:Int):=zBY
   have HB0:=zW (show s0+1≤wr.heap.size from X.out.s.lt)
   have j0:0≤(j:Int):=zBY
   obtain⟨ad,eA,hb,cS⟩:=(UU.out.step X.out.low).stk.1.at_ (show j<S.length by rw[SL.out];exact hlt)
   obtain⟨x,hx⟩:∃x,S.getD j 0=x:=⟨_,rfl⟩
   rw[hx]at cS
   have x1:x≤65535:=by
    have hj2:j<S.length:=by rw[SL.out];exact hlt
    rw[qJ,zP hj2]at hx;rw[←hx];exact UU.out.s2 _ (lS hj2)
   have TK:=zW (show(wZ S).take (j+1)=(wZ S).take j++[(x:Int)]from by
    have hj2:j<S.length:=by rw[SL.out];exact hlt
    rw[j7 (by unfold wZ;rw[jQ];exact hj2)];congr 2
    rw[←hx,qJ,zP hj2]
    simp[wZ])
   have HB:=zW (show ad.block<s0+1 from by
    have hj2:j<S.length:=by rw[SL.out];exact hlt
    obtain⟨ad2,e2,hb2,_⟩:=UU.out.stk.1.at_ hj2;rw[eA]at e2;cases e2
    have:=X.out.at_
    have:=X.out.gs;omega)
   have c18:wr.cell? ⟨s0,18,none⟩=some (.slice A j c):=(X.out.s.cell 18).trans (nW _ 2)
   have k18:=xS.cell (B:=s0+1) c18 (Nat.lt_succ_self _)
   have k20:=xS.cell (B:=s0+1) u20 (by have:=X.out.gs;omega)
   have kS:∀y:xS (s0+1) wr,y.w.cell? (ad.add j)=some (.int .u16 (x:Int)):=fun y=>(y.below.cell (p:=ad.add j) (by rw[gQ];exact HB.out)).trans cS
   have wv:IntKind.i64.wrap (x:Int)=(x:Int):=xM zBY
   have HJ:=zW hlt
   clear hx hj hb x1
   rw[eA]at k20
   go_upto_region 8 with fail
   clear c18 cS u20
   refine mX (C:=fun w'=>∃y:xS (s0+1) wr,w'=y.w) 11 [([0,1,2,3,4,5,6,7],8,false),([],9,false)] [10] [] zBM zBM ?_ ?_ ⟨⟨wr.drew,(zB _ _).drew⟩,rfl⟩ ?_
   ·exact fun _ _ d _ _ h=>by cases d<;>exact h
   ·rintro _ w' ⟨y,rfl⟩ hg
    exact⟨⟨w',y.below.trans (hg.mono (zD (show s0+1≤wr.heap.size from X.out.s.lt) (zKB y)))⟩,rfl⟩
   intro wd hwd
   have hwq:wd=wr.drew:=hwd
   refine vW zBN zBG ?_
   repeat(go_big_quiet_step (rfl))
   refine zM ?_
   refine vV rfl ?_
   intro w7 g7 C7 K7 hK
   obtain⟨y7,rfl⟩:=C7
   have b7:=show Below wr.heap.size wr y7.w from by have h:=g7;rw[hwq]at h;exact((zB _ _).drew).trans h
   have X:=zW (X.out.step b7)
   have OO:=zW (nE OO.out b7)
   go_wp2_with fail
   have BA:=mJ y7.w (.cells #[.int .i64 (x:Int)] 3)
   have X:=zW (X.out.step BA)
   have OO:=zW (nE OO.out BA)
   have R1:=zW (gB (Value.int .i64) y7.w (x:Int) 3)
   obtain⟨rb,hrb⟩:∃b,y7.w.heap.size=b:=⟨_,rfl⟩
   have S8:=zW (show s0+1≤y7.w.heap.size by have:=X.out.s.lt;have:=(OO.out);have h:=zKB y7;have:=b7.size;have:=HB0.out;omega)
   have B8:=zW (show Below (s0+1) wr (y7.w.alloc (.cells #[.int .i64 (x:Int)] 3))from y7.below.alloc S8.out _)
   refine hK _ _ ⟨⟨_,B8.out⟩,rfl⟩ ?_
   clear hK K7 BA
   rw[hrb]at R1⊢
   generalize World.alloc _ _=w8 at X OO R1 B8⊢
   clear hrb S8
   refine vW zBN zBG ?_
   refine zM ?_
   refine vV rfl ?_
   intro w9 g9 C9 K7 hK
   obtain⟨y9,rfl⟩:=C9
   have X:=zW (X.out.step g9)
   have OO:=zW (nE OO.out g9)
   have R1:=zW (R1.out.below g9)
   refine aR dW dJ (.tmp 29) (.tmp 36) rfl (s0+1) _ j ((wZ S).take j) zBR OO.out (some ⟨rb,0,none⟩) 1 1 [(x:Int)] zBR R1.out rfl (by have:=HJ.out;omega) zBH (show s0+1≤y9.w.heap.size from X.out.s.lt) ?_
   intro v2 w10 o10 g10
   have X:=zW (X.out.grown g10 OO.out)
   have B10:=zW (show Below (s0+1) wr w10 from y9.below.grown g10 (show s0+1≤y9.w.heap.size from zD HB0.out (zKB y9)) fun k ek=>(OO.out.lt k ek).1)
   obtain⟨A2,c2,e2⟩:=vQ o10
   subst e2
   have OO:=zW o10
   refine hK _ _ ⟨⟨_,B10.out⟩,rfl⟩ ?_
   clear hK K7 o10 g10 g9
   simp only[Act.put,zQ,zZ,zJ]
   refine mE zBN zBG ?_
   repeat(go_big_quiet_step (rfl))
   refine zM ?_
   refine mC rfl ?_
   intro w11 g11 C11 K7 hK
   obtain⟨y11,rfl⟩:=C11
   have X:=zW (X.out.step g11)
   have OO:=zW (nE OO.out g11)
   refine bA X.out.s 18 (.slice A2 (j+1) c2) zBM rfl zB2 (.tmp 38) (.tmp 37) rfl rfl rfl ?_
   refine hK _ _ ?_
   clear hK K7
   simp only[Act.put,zQ,zZ,zJ]
   simp only[lA]
   refine zM ?_
   intro w12 g12
   have OO:=zW (nE (vG (g:=none) OO.out (nC.setCell 18 (.slice A2 (j+1) c2)) (vY OO.out X.out.s zBH) (fun _ e=>by cases e)) g12)
   have X:=zW (show OFX w w2 g s0 u {s2 with sk:=⟨A2,j+1,c2⟩} w12 from(X.out.put 18 _ (ZD {s2 with sk:=⟨A,j,c⟩} ⟨A2,j+1,c2⟩)).step g12)
   clear g12 g11 k18 k20 kS wv
   go_wp2
   go_roundw
   case rel=>exact⟨j+1,c2,A2,HJ.out,by go_num,X.out,by rw[TK.out];exact OO.out⟩
   case measure=>simp[intOf];have:=HJ.out;omega
  ·obtain rfl:n=j:=by omega
   have jI:¬(n:Int)<(n:Int):=zBY
   clear hlt hj
   rw[qY (by unfold wZ;rw[jQ,SL.out];exact zH _)]at OO
   go_upto_region 9 with fail
   clear jI u20
   obtain⟨s3,hs3⟩:∃s:CS,{s2 with sk:=⟨A,n,c⟩}=s:=⟨_,rfl⟩
   rw[hs3]at X
   have HS3:=zW hs3
   clear hs3
   have u21:wr.cell? ⟨g,21,none⟩=some (.slice u.keys.A u.keys.n u.keys.c):=(X.out.u.cell 21).trans rfl
   have c23:wr.cell? ⟨s0,23,none⟩=some (.slice s3.K.A s3.K.n s3.K.c):=(X.out.s.cell 23).trans (nW _ 7)
   have f23:=X.out.s.frozen 23
   go_upto_region 10 with fail
   clear c23 f23
   have OO:=zW (vG (g:=none) (w':=World.setCell wr ⟨s0,23,none⟩ (.slice u.keys.A u.keys.n u.keys.c)) OO.out (nC.setCell 23 (.slice u.keys.A u.keys.n u.keys.c)) (vY OO.out X.out.s zBH) (fun _ e=>by cases e))
   have X:=zW (show OFX w w2 g s0 u {s3 with K:=u.keys} (World.setCell wr ⟨s0,23,none⟩ (.slice u.keys.A u.keys.n u.keys.c))from X.out.put 23 _ (zJU s3 u.keys))
   generalize World.setCell _ _ _=w20 at X OO⊢
   clear u21
   have u22:w20.cell? ⟨g,22,none⟩=some (.int .u8 (u.dl:Int)):=(X.out.u.cell 22).trans rfl
   have c24:w20.cell? ⟨s0,24,none⟩=some (.int .u8 (s3.dl:Int)):=(X.out.s.cell 24).trans (nW _ 8)
   have f24:=X.out.s.frozen 24
   go_upto_region 11 with fail
   clear c24 f24
   have OO:=zW (vG (g:=none) (w':=World.setCell w20 ⟨s0,24,none⟩ (.int .u8 (u.dl:Int))) OO.out (nC.setCell 24 (.int .u8 (u.dl:Int))) (vY OO.out X.out.s zBH) (fun _ e=>by cases e))
   have X:=zW (show OFX w w2 g s0 u {s3 with K:=u.keys,dl:=u.dl} (World.setCell w20 ⟨s0,24,none⟩ (.int .u8 (u.dl:Int)))from X.out.put 24 _ (YQ _ u.dl))
   generalize World.setCell _ _ _=w21 at X OO⊢
   clear u22
   have u23:w21.cell? ⟨g,23,none⟩=some (.int .u8 (u.sd:Int)):=(X.out.u.cell 23).trans rfl
   have c25:w21.cell? ⟨s0,25,none⟩=some (.int .u8 (s3.sd:Int)):=(X.out.s.cell 25).trans (nW _ 9)
   have f25:=X.out.s.frozen 25
   go_upto_region 12 with fail
   clear c25 f25
   have OO:=zW (vG (g:=none) (w':=World.setCell w21 ⟨s0,25,none⟩ (.int .u8 (u.sd:Int))) OO.out (nC.setCell 25 (.int .u8 (u.sd:Int))) (vY OO.out X.out.s zBH) (fun _ e=>by cases e))
   have X:=zW (show OFX w w2 g s0 u {s3 with K:=u.keys,dl:=u.dl,sd:=u.sd} (World.setCell w21 ⟨s0,25,none⟩ (.int .u8 (u.sd:Int)))from X.out.put 25 _ (X9 _ u.sd))
   generalize World.setCell _ _ _=w22 at X OO⊢
   clear u23
   obtain⟨s4,hs4⟩:∃s:CS,{s3 with K:=u.keys,dl:=u.dl,sd:=u.sd}=s:=⟨_,rfl⟩
   rw[hs4]at X
   have HS4:=zW hs4
   clear hs4
   obtain⟨AG,capG,gsG,eG,pG⟩:=R0.out.G
   have EGA:=zW (show z0.G.A=AG by rw[eG])
   have ex:(cst s4).extract 20 (20+3)=#[.slice AG 4 capG,.bool false,.int .i64 1]:=by rw[WZ,←HS4.out,←HS3.out,←HS2.out,←HS1.out];show #[z0.G.v,.bool false,.int .i64 1]=_;rw[eG];rfl
   clear pG eG
   obtain⟨km,hkm⟩:∃k,u.msk%16=k:=⟨_,rfl⟩
   have HKM:=zW hkm
   have u24:w22.cell? ⟨g,24,none⟩=some (.bool u.hr):=(X.out.u.cell 24).trans rfl
   have u25:w22.cell? ⟨g,25,none⟩=some (.int .u8 (u.msk:Int)):=(X.out.u.cell 25).trans rfl
   have k24:=mH.cell u24 X.out.u.lt
   have k25:=mH.cell u25 X.out.u.lt
   have m256:u.msk<256:=UU.out.msk
   have wm:Int.tmod (u.msk:Int) 16=(km:Int):=by rw[qT zBY];omega
   have wm2:(u.msk:Int)%16=(km:Int):=zBY
   have wm3:IntKind.u8.wrap (km:Int)=(km:Int):=vZ zBY
   have wm4:IntKind.i64.wrap (km:Int)=(km:Int):=xM zBY
   have FS:=zW (fun w' (hw:∃y:mH w22,w'=y.w)=>(show Blk s0 43 (cst s4) w' from by obtain⟨y,rfl⟩:=hw;exact X.out.s.step y.below))
   clear hkm m256
   go_upto_region 12 with fail
   clear u24 u25
   refine mX (C:=fun w'=>∃u:mH w22,w'=u.w) 11 [([0,1,2,3,5,6,7,8],4,false),([],9,false)] [10] [] zBM zBM ?_ ?_ ⟨⟨w22.drew,(zB _ _).drew⟩,rfl⟩ ?_
   ·exact fun _ _ d _ _ h=>by cases d<;>exact h
   ·rintro _ w' ⟨u,rfl⟩ hg
    exact⟨⟨w',u.below.trans (hg.mono u.below.size)⟩,rfl⟩
   intro wd hwd
   have bd:=zW (show Below w22.heap.size w22 wd by rw[hwd];exact(zB _ _).drew)
   clear hwd
   refine vW zBN zBG ?_
   repeat(first
    |(refine mG xL FS.out (o:=20) zB2 ?_ (.tmp 48) ?_ ?_ ?_;(focus rfl);(focus rfl);(focus(simp[Act.eval];done));rw[ex];simp only[Act.put,zQ,zZ,zJ])
    |go_big_quiet_step (rfl))
   refine zM ?_
   refine vV rfl ?_
   intro w23 g23 C23 K7 hK
   obtain⟨y23,rfl⟩:=C23
   refine mF (g:=56) (caps:=#[]) (args:=#[.agg #[.slice AG 4 capG,.bool false,.int .i64 1],.bool u.hr]) (.func 56) #[.tmp 49,.tmp 51] #[41,4] rfl (enters_of Tryz.func56 zBM rfl) rfl zBR ?_
   refine(ZX N NN.out AG capG false u.hr 1 y23.w).mono ?_
   rintro e w24 ⟨A8,cap8,gs8,rfl,l8,r8,p8,b24,fA8⟩
   have F8:=zW (show∀ad,A8=some ad→w.heap.size≤ad.block from fA8.elim (fun e ad ea=>by(have h1:=FG.out ad (by rw[EGA.out];exact e.symm.trans ea);have:=W1.out;have:=AT.out;omega)) fun f ad ea=>by(have h1:=f ad ea;have h2:=y23.below.size;have h3:=X.out.low.size;omega))
   clear fA8
   have PX:=zW (show Px4 N A8 gs8 (fun _ _=>false) w24 from⟨l8,r8,p8⟩)
   have X:=zW ((X.out.step y23.below).step b24)
   have OO:=zW (nE (nE OO.out y23.below) b24)
   have B24:=zW (y23.below.trans (b24.mono y23.below.size))
   refine⟨_,rfl,?_⟩
   refine hK _ _ ⟨⟨_,B24.out⟩,rfl⟩ ?_
   clear hK K7 l8 r8 p8 b24 g23
   simp only[Act.put,zQ,zZ,zJ]
   refine vW zBN zBG ?_
   repeat(go_big_quiet_step (rfl))
   refine zM ?_
   refine vV rfl ?_
   intro w25 g25 C25 K7 hK
   obtain⟨y25,rfl⟩:=C25
   refine mF (g:=55) (caps:=#[]) (args:=#[.agg #[.slice A8 4 cap8,.bool u.hr,.int .i64 1],.int .i64 (km:Int)]) (.func 55) #[.tmp 52,.tmp 56] #[41,3] rfl (enters_of Tryz.func55 zBM rfl) rfl (by simp[Act.eval,wm,wm2,wm3,wm4]) ?_
   refine(QK A8 cap8 u.hr 1 (km:Int) y25.w).mono ?_
   rintro e w26 ⟨rfl,b26⟩
   have PX:=zW ((PX.out.step g25).step b26)
   have X:=zW ((X.out.step g25).step b26)
   have OO:=zW (nE (nE OO.out g25) b26)
   have B26:=zW (y25.below.trans (b26.mono y25.below.size))
   refine⟨_,rfl,?_⟩
   refine hK _ _ ⟨⟨_,B26.out⟩,rfl⟩ ?_
   clear hK K7 b26 g25 wm wm2 wm3 wm4 k24 k25
   simp only[Act.put,zQ,zZ,zJ]
   refine mE zBN zBG ?_
   repeat(go_big_quiet_step (rfl))
   refine zM ?_
   refine mC rfl ?_
   intro w27 g27 C27 K7 hK
   obtain⟨y27,rfl⟩:=C27
   have PX:=zW (PX.out.step g27)
   have X:=zW (X.out.step g27)
   have OO:=zW (nE OO.out g27)
   obtain⟨s5,hs5⟩:∃s:CS,{s4 with G:=⟨A8,4,cap8⟩,hi:=u.hr,msk:=(km:Int)}=s:=⟨_,rfl⟩
   refine nB (o:=20) (ds:=rsC ⟨A8,4,cap8⟩ u.hr (km:Int)) xL X.out.s rfl zB2 (uC _ _ _) (.tmp 58) (.tmp 57) rfl zBL zTT ?_
   rw[uB,hs5]
   refine hK _ _ ?_
   clear hK K7
   simp only[Act.put,zQ,zZ,zJ]
   simp only[lA]
   refine zM ?_
   intro w28 g28
   have PX:=zW ((PX.out.away (yA.st X.out.s) (w':=World.setRow y27.w s0 (cst s5)) zBD (fun k hk=>zA _ _ _ _ hk)).step g28)
   have OO:=zW (nE (vG (g:=none) (w':=World.setRow y27.w s0 (cst s5)) OO.out (nC.setRow (cst s5)) (vY OO.out X.out.s zBH) (fun _ e=>by cases e)) g28)
   have X:=zW (show OFX w w2 g s0 u s5 w28 from(show OFX w w2 g s0 u s5 (World.setRow y27.w s0 (cst s5))from X.out.row).step g28)
   have HS5:=zW hs5
   clear hs5 g28 g27 ex FS
   go_upto_region 13 with fail
   refine zN ?_
   have hfl:=R0.out.fl
   have c28:w28.cell? ⟨s0,28,none⟩=some (.slice z0.fl.A 16 z0.fl.c):=((X.out.s.cell 28).trans (nW _ 12)).trans (by rw[←HS5.out,←HS4.out,←HS3.out,←HS2.out,←HS1.out];show some (Value.slice z0.fl.A z0.fl.n z0.fl.c)=_;rw[hfl.1])
   have u26:w28.cell? ⟨g,26,none⟩=some (.slice u.fl.A u.fl.n u.fl.c):=(X.out.u.cell 26).trans rfl
   clear hfl
   go_wp2_with fail
   refine(N4 mU z0.fl.A z0.fl.c u.fl.A u.fl.n u.fl.c FL w28 (R0.out.fl.2.below X.out.b2) (UU.out.step X.out.low).fl.1 UU.out.fl.2 (by have:=UU.out.f1;have:=UU.out.fl.2;omega)).mono ?_
   rintro e w29 ⟨v9,rfl,o9,b29⟩
   rw[nV]at o9
   obtain⟨A9,c9,rfl⟩:=vQ o9
   have O9:=zW o9
   have W29:=zW (show w.heap.size≤w28.heap.size from X.out.low.size)
   have PX:=zW (PX.out.step b29)
   have X:=zW (X.out.step b29)
   have OO:=zW (nE OO.out b29)
   clear c28 u26 o9 b29
   have c28:w29.cell? ⟨s0,28,none⟩=some (.slice s5.fl.A s5.fl.n s5.fl.c):=(X.out.s.cell 28).trans (nW _ 12)
   have f28:=X.out.s.frozen 28
   go_upto_region 14 with fail
   clear c28 f28
   have PX:=zW (PX.out.away (yA.st X.out.s) (w':=World.setCell w29 ⟨s0,28,none⟩ (.slice A9 16 c9)) zB3 (fun k hk=>qQ _ _ _ _ hk))
   have OO:=zW (vG (g:=none) (w':=World.setCell w29 ⟨s0,28,none⟩ (.slice A9 16 c9)) OO.out (nC.setCell 28 (.slice A9 16 c9)) (vY OO.out X.out.s zBH) (fun _ e=>by cases e))
   have O9:=zW (vG (g:=none) (w':=World.setCell w29 ⟨s0,28,none⟩ (.slice A9 16 c9)) O9.out (nC.setCell 28 (.slice A9 16 c9)) (vY O9.out X.out.s zBH) (fun _ e=>by cases e))
   have X:=zW (show OFX w w2 g s0 u {s5 with fl:=⟨A9,16,c9⟩} (World.setCell w29 ⟨s0,28,none⟩ (.slice A9 16 c9))from X.out.put 28 _ (X4 s5 ⟨A9,16,c9⟩))
   generalize World.setCell _ _ _=w30 at PX OO O9 X⊢
   obtain⟨ZZ,hZZ⟩:∃Z:Sls,Z={sk:=⟨A,n,c⟩,M:=z0.M,G:=⟨A8,4,cap8⟩,K:=u.keys,P:=z0.P,fl:=⟨A9,16,c9⟩,L:=z0.L}:=⟨_,rfl⟩
   have ES:=zW (show{s5 with fl:=⟨A9,16,c9⟩}=mT (ofA u R L S ks FL) ZZ from by rw[hZZ,←HS5.out,←HS4.out,←HS3.out,←HS2.out,←HS1.out,←HKM.out];rfl)
   rw[ES.out]at X
   refine zN ?_
   refine lP mM X.out.s (lC _) rfl (.tmp 3) rfl rfl ?_
   simp only[Act.put,zQ,zZ,zJ]
   refine lE (ds:=cst (mT (ofA u R L S ks FL) ZZ)) mM X.out.o (lC _) (lC _) (nZ _) rfl (.tmp 2) (.tmp 65) rfl zBL zBL ?_
   simp only[Act.put,zQ,zZ,zJ]
   have PZ:=zW (PX.out.away (yA.st X.out.o) (w':=World.setRow w30 (g+1) (cst (mT (ofA u R L S ks FL) ZZ))) zBD (fun k hk=>zA _ _ _ _ hk))
   have OZ:=zW (vG (g:=none) (w':=World.setRow w30 (g+1) (cst (mT (ofA u R L S ks FL) ZZ))) OO.out (nC.setRow _) (vY OO.out X.out.o zBH) (fun _ e=>by cases e))
   have O9:=zW (vG (g:=none) (w':=World.setRow w30 (g+1) (cst (mT (ofA u R L S ks FL) ZZ))) O9.out (nC.setRow _) (vY O9.out X.out.o zBH) (fun _ e=>by cases e))
   have RE:=zW (X.out.o.store (cst (mT (ofA u R L S ks FL) ZZ)))
   have BZ:=zW (lU X.out.low (show w.heap.size≤g+1 by have:=AT.out;omega) (cst (mT (ofA u R L S ks FL) ZZ)))
   obtain⟨adM,cM,eM,rM⟩:=R0.out.M
   have RM:=zW ((show Rm adM (yJ R) w30 from⟨zS rM.1 X.out.b2.size,fun k hk=>(X.out.b2.cell (p:=adM.add k) (by rw[cP];exact rM.1)).trans (rM.2 k hk)⟩).away (show adM.block≠g+1 by have h1:=FM.out adM (by rw[eM]);have:=W1.out;omega) (w':=World.setRow w30 (g+1) (cst (mT (ofA u R L S ks FL) ZZ))) zBD (fun k hk=>zA _ _ _ _ hk))
   have RP:=zW (zVJ (wc:=w1) (g:=g+1) (w1:=w30) (w2:=World.setRow w30 (g+1) (cst (mT (ofA u R L S ks FL) ZZ))) (R0.out.P.1.below X.out.b2) FP.out W1.out zBD (fun k hk=>zA _ _ _ _ hk))
   have EM:=zW eM
   clear eM rM
   generalize World.setRow _ _ _=wz at PZ OZ O9 RE BZ RM RP⊢
   have RZ:=zW (show RS N wz ZZ (ofA u R L S ks FL)from by
    rw[hZZ];exact⟨⟨fun _ _=>qE _,Row.of_own OZ.out,by show(wZ S).length=n;unfold wZ;rw[jQ,SL.out],tD OZ.out,zMG OZ.out⟩,⟨adM,cM,EM.out,RM.out⟩,⟨A8,cap8,gs8,rfl,PZ.out⟩,(UU.out.step BZ.out).keys,⟨RP.out,R0.out.P.2⟩,⟨rfl,wE O9.out⟩,by rw[HLL.out];exact(UU.out.step BZ.out).lst⟩)
   have FZ:=zW (show zGC w u ZZ from by
    rw[hZZ];have a1:=AT.out;have a2:=W1.out;refine⟨fun ad e=>?_,fun ad e=>?_,fun ad e=>F8.out ad e,fun ad e=>?_,fun ad e=>?_,rfl,HLL.out⟩
    ·have h1:=(OZ.out.lt ad.block (by simp only at e;rw[e];rfl)).1;have h2:=X.out.gs;omega
    ·have h1:=FM.out ad e;omega
    ·have h1:=FP.out ad e;omega
    ·have h1:=(O9.out.lt ad.block (by simp only at e;rw[e];rfl)).1;have h2:=W29.out;omega)
   go_wp2_with fail
   iterate 4 (try go_step)
   exact zT (zF rfl _ _ (g+1) _ _ _ _ rfl RE.out Tryz.underlying43 rfl zBU) rfl ⟨ZZ,rfl,RZ.out,BZ.out,FZ.out⟩
theorem VJ(N:Nat)(a:AS)(z:Sls)(w:World)(H:RS N w z a)(hP:a.P.length≤1000):
  Calls Tryz.prog 78 #[.agg (cst (mT a z))] w (zBW (pad a.P) w):=by
 have FL:=zW (fun(w':World) (b:Below w.heap.size w w')=>zXT z.P.A z.P.n z.P.c a.P w' (H.P.1.below b) H.P.2 (by have:=H.P.2;unfold maxLen;omega));have S0:=zW (Blk.new w 43 (cst (mT a z)));have B0:=zW (mJ w (.cells (cst (mT a z)) 43));clear H hP;go_enter Tryz.func78,Tryz.ntmps78;go_upto_region 0 with fail;refine zN ?_;refine mZ rfl _ (.tmp 0) rfl (cst (mT a z)) rfl ?_;simp only[Act.put,zQ,zZ,zJ];obtain⟨g,hg⟩:∃g,w.heap.size=g:=⟨_,rfl⟩;have GE:=zW hg;rw[hg]at S0⊢;generalize World.alloc _ _=w1 at S0 B0⊢;clear hg;have c26:w1.cell? ⟨g,26,none⟩=some (.slice z.P.A z.P.n z.P.c):=(S0.out.cell 26).trans (nW _ 10);go_wp2_with fail;refine(FL.out w1 B0.out).mono ?_;rintro e w2 ⟨p,rfl,hp,hb,b2⟩;have Q:=zW (zY (zD B0.out.size hp) (zY hb (B0.out.trans (b2.mono B0.out.size))));clear hp hb b2 c26;go_wp2_with fail;go_ret;exact⟨p,rfl,Q.out.1,Q.out.2.1,Q.out.2.2⟩
end
end Go.Proofs.YtcjldabaekbdlaaGreatDoor
