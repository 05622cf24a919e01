/- CpuRef8b. -/
import Derived.Test.YtcjldabaekbdlaaGreatDoorMCpuRef8
set_option maxRecDepth 400000
set_option maxHeartbeats 64000000
set_option linter.unusedVariables false
set_option linter.unusedSimpArgs false
namespace Go.Proofs.YtcjldabaekbdlaaGreatDoor
section
open Go.RowKit Num Dec Cpu
theorem IX(N:Nat)(a:AS)(z:Sls)(x y n k:Nat)(nn addr len:Int)(q:Pr)(w:World)(H:RS N w z a)(O:OkA a)(hx:x<16)(hy:y<16)(hn:n<16)(hk:spN a.msk 46 x y n=k):
  Calls Tryz.prog 71 #[.agg (cst (mT a z)),.agg (lI ⟨46,x,y,n,nn,addr,len⟩),.agg (prc q)] w (vA N z (xP a 46 x y k q.ki) w):=by
 obtain⟨ad,c,eM,rM⟩:=H.M;obtain⟨K,hK⟩:∃K,K=65536:=⟨_,rfl⟩;rw[←hK]at eM;obtain⟨s,hs⟩:∃s,mT a z=s:=⟨_,rfl⟩;obtain⟨I,hI⟩:∃I,a.i=I:=⟨_,rfl⟩;have FA:=zW (show s.M=⟨some ad,K,c⟩∧s.i=I∧s.v=a.v from⟨by rw[←hs];exact eM,by rw[←hs];exact hI,by rw[←hs];rfl⟩);have SP:=zW fun w0=>rZ s 46 x y n a.msk nn addr len w0 zTR O.msk hx hy hn;have SL:=sI a.msk 46 hx hy hn;rw[hk]at SP SL;have RB:=zW (fun(w':World) (h:Below w.heap.size w w')=>uN ad K c a.M I k w' hK zRE (rM.step h) zB7 zB7 zBY);have RG:=zW (fun w'=>gC x y w' zBY zBY);have PU:=zW (fun(B:Option Addr) (m d:Nat) (L:List Int) (w':World) (h:Below w.heap.size w w') (rd:Rd w' B L) (hl:L.length=m) (hm:m≤1000)=>rB ad K c a.M I B m d L w' hK zRE (rM.step h) zB7 zB7 hl zBY rd);rw[hs];have HS:=zW hs;have HI:=zW hI;have RR:=zW H;have HK:=zW hK;have OV:=zW O.v;have OM:=zW O.M;have OB8:=zW O.B;have i0:0≤I:=by have:=O.i;omega
 have i1:I≤65535:=by have:=O.i;omega
 have KL:=zW (zY SL hk);have HX:=zW (zY hx (zY hy hn));have xi:(x:Int)<16:=zBY;have yi:(y:Int)<16:=zBY;have ki:(k:Int)≤128:=zBY;have D0:=zW (DQ.new w s vP ⟨46,x,y,n,nn,addr,len⟩ q);clear H O hx hy hn hk hs hI hK eM rM SL;go_enter Tryz.func71,Tryz.ntmps71;go_upto_region 0 with fail;refine zN ?_;refine mZ rfl _ (.tmp 0) rfl (cst s) rfl ?_;simp only[Act.put,zQ,zZ,zJ];refine mZ rfl _ (.tmp 1) rfl (lI ⟨46,x,y,n,nn,addr,len⟩) rfl ?_;simp only[Act.put,zQ,zZ,zJ,zR];refine mZ rfl _ (.tmp 2) rfl (prc q) rfl ?_;simp only[Act.put,zQ,zZ,zJ,zR];refine qL rfl fun K hK=>nF xI rfl (hK _ _ ?_);clear hK K;simp only[Act.put,zQ,zZ,zJ,zR];obtain⟨g,hg⟩:∃g,w.heap.size=g:=⟨_,rfl⟩;rw[hg]at D0⊢;generalize World.alloc (World.alloc (World.alloc (World.alloc _ _) _) _) _=w1 at D0⊢;clear hg;go_upto_region 1 with fail;refine zN ?_;refine lP mM D0.out.s (lC _) rfl (.tmp 3) rfl rfl ?_;simp only[Act.put,zQ,zZ,zJ];refine lP mN D0.out.i rfl rfl (.tmp 4) rfl rfl ?_;simp only[Act.put,zQ,zZ,zJ];go_wp2_with fail;refine(SP.out _).mono ?_;rintro e w2 ⟨rfl,b2⟩;have D2:=zW (D0.out.step b2);clear b2 D0;have c19:w2.cell? ⟨g,19,none⟩=some (.slice (some ad) K c):=((D2.out.s.cell 19).trans (nW _ 3)).trans zBA;have c16:w2.cell? ⟨g,16,none⟩=some (.int .i64 I):=((D2.out.s.cell 16).trans (nW _ 0)).trans zB4;go_wp2_with fail;refine(RB.out _ D2.out.low).mono ?_;rintro e w3 ⟨B,cb,rfl,ob,b3⟩;have OB:=zW (cV ob (show g+1+1+1+1≤w2.heap.size from D2.out.o.lt));have OBC:=zW (tD ob);have D3:=zW (D2.out.step b3);clear b3 ob D2 c19 c16;have x1:w3.cell? ⟨g+1,1,none⟩=some (.int .i64 (x:Int)):=(D3.out.i.cell 1).trans rfl;have x2:w3.cell? ⟨g+1,2,none⟩=some (.int .i64 (y:Int)):=(D3.out.i.cell 2).trans rfl;go_wp2_with fail;refine(RG.out _).mono ?_;rintro e w4 ⟨G,cg,rfl,og,b4⟩;have OB:=zW (nE OB.out b4);have OG:=zW (cV og (show g+1+1+1+1≤w3.heap.size from D3.out.o.lt));have D4:=zW (D3.out.step b4);clear b4 og D3 x1 x2 RG RB SP;have x0:w4.cell? ⟨g+1,0,none⟩=some (.int .i64 46):=(D4.out.i.cell 0).trans rfl;have x1:w4.cell? ⟨g+1,1,none⟩=some (.int .i64 (x:Int)):=(D4.out.i.cell 1).trans rfl;have kk:vD x y=k:=by have:=KL.out.2;unfold spN at this;simp at this;exact this
 rw[kk]at OG⊢;have RL:=zW (fun j (hj:j<k)=>fN x y j zRP zRP (kk▸hj));have LL:=zW ((gU x y).trans kk);have OGC:=zW (tD OG.out);clear kk;obtain⟨LV,hLV⟩:∃LV,(uM x y).map (fun r=>(a.v r.toNat:Int))=LV:=⟨_,rfl⟩;have ME:=zW (show xP a 46 x y k q.ki={a with M:=put a.M I LV} by
  unfold xP sF;rw[zL (fun h=>by rcases h.1 with h|h<;>exact absurd h zBH),zL zBH,zL zBH,zL zBH,zG rfl,HI.out,hLV])
 have LVL:=zW (show LV.length=k by rw[←hLV,jQ];exact LL.out);have LVA:=zW (show∀(j rn:Nat),j<k→(uM x y)[j]?=some (rn:Int)→LV.take (j+1)=LV.take j++[((a.v rn:Nat):Int)]from fun j rn hj h=>by
  have h1:LV[j]?=some ((a.v rn:Nat):Int):=by rw[←hLV,jK,h];simp
  obtain⟨h2,h3⟩:=kE.1 h1;rw[j7 h2,h3])
 clear hLV;have cg1:k≤cg:=OGC.out;go_upto_region 16 with fail;clear x0 x1;go_wp2;go_loopw [12,13] (fun u i wr=>∃j:Nat,j≤k∧i=.int .i64 (j:Int)∧wr.ownsRow (g+1+1+1+1) 5 1 u j ((LV.take j).map (Value.int .u8))∧DQ w g s vP ⟨46,x,y,n,nn,addr,len⟩ q wr∧wr.ownsRow (g+1+1+1+1) 3 1 (.slice G k cg) k ((uM x y).map (Value.int .i64))) (fun _ i _=>k-(intOf i).toNat)
 case atStart=>exact⟨0,qE _,rfl,qO _ _ _ _,D4.out,OG.out⟩
 case round=>
  clear D4 OB OG
  obtain⟨j,hj,rfl,oo,d,og⟩:=hrel
  have D5:=zW d
  have OG:=zW og
  have OO:=zW oo
  clear d og oo
  by_cases hlt:j<k
  ·have jI:(j:Int)<(k:Int):=zBY
   obtain⟨rn,r16,hr⟩:=RL.out j hlt
   have HJ:=zW (zY hlt (zY r16 hr))
   obtain⟨gb,ob,eG,hgb,cG⟩:=(Row.of_own OG.out).at_ (show j<(uM x y).length by rw[LL.out];exact hlt)
   rw[show(uM x y)[j]'(by rw[LL.out];exact hlt)=(rn:Int)from(kE.1 hr).2]at cG
   subst eG
   obtain⟨bv,hbv⟩:∃bv,a.v rn=bv:=⟨_,rfl⟩
   have HB:=zW hbv
   have c5:wr.cell? ⟨g,rn,none⟩=some (.int .u8 (bv:Int)):=(D5.out.s.cell rn).trans ((wJ _ r16).trans (by rw[FA.out.2.2,hbv]))
   have r16I:(rn:Int)<16:=zBY
   have r0I:0≤(rn:Int):=zBY
   obtain⟨A5,c5',eo⟩:=vQ OO.out
   subst eo
   clear hbv hj hr hgb
   go_upto_region 20 with fail
   refine zN ?_
   iterate 27 go_step
   have R1:=zW (gB (Value.int .u8) wr (bv:Int) 5)
   have D6:=zW (D5.out.step (mJ wr (.cells #[.int .u8 (bv:Int)] 5)))
   have O1:=zW (OO.out.alloc (.cells #[.int .u8 (bv:Int)] 5))
   have G1:=zW (OG.out.alloc (.cells #[.int .u8 (bv:Int)] 5))
   have gs:g+1+1+1+1≤(wr.alloc (.cells #[.int .u8 (bv:Int)] 5)).heap.size:=D6.out.o.lt
   refine vX oZ VP rfl (.tmp 84) (.tmp 92) rfl (g+1+1+1+1) _ j (LV.take j) rfl O1.out (some ⟨wr.heap.size,0,none⟩) 1 1 [(bv:Int)] rfl R1.out rfl zBY zBH gs ?_
   intro v2 w2 o2 g2
   have D7:=zW (D6.out.grown g2 O1.out)
   have OG:=zW (vG (p:=(wr.alloc (.cells #[.int .u8 (bv:Int)] 5)).heap.size) G1.out (nC.of_grown g2) (fun e=>by have:=(G1.out.lt _ e).2;omega) (fun kx e=>zVS G1.out O1.out e zBH))
   have OO:=zW o2
   clear o2 g2 O1 G1 R1 D5 D6 c5 cG gs
   simp only[Act.put,zQ,zZ,zJ]
   go_wp2
   go_roundw
   case rel=>exact⟨j+1,HJ.out.1,by go_num,by rw[LVA.out j rn HJ.out.1 HJ.out.2.2,HB.out];exact OO.out,D7.out,OG.out⟩
   case measure=>simp[intOf];have:=HJ.out.1;omega
  ·obtain rfl:k=j:=by omega
   have jI:¬(k:Int)<(k:Int):=zBY
   rw[qY (by rw[LVL.out];exact zH _)]at OO
   obtain⟨A5,c5',eo⟩:=vQ OO.out
   subst eo
   clear hlt hj
   go_upto_region 21 with fail
   clear jI OG RL LL LVA cg1
   have c19:wr.cell? ⟨g,19,none⟩=some (.slice (some ad) K c):=((D5.out.s.cell 19).trans (nW _ 3)).trans zBA
   have c16:wr.cell? ⟨g,16,none⟩=some (.int .i64 I):=((D5.out.s.cell 16).trans (nW _ 0)).trans zB4
   go_wp2_with fail
   refine(PU.out _ k _ LV _ D5.out.low (wE OO.out) LVL.out zBY).mono ?_
   intro e w5 h5
   obtain⟨gm,cm,rfl,hgm,hlm,om,b5⟩:=wK.bytes h5 (show(put a.M I LV).length=K by rw[cE,OM.out,HK.out]) (by rw[HK.out];decide)
   have GM:=zW (show g+1+1+1<gm from zS D5.out.o.lt hgm)
   have RM:=zW (show Rm ⟨gm,0,none⟩ (put a.M I LV) w5 from⟨hlm,ZW om⟩)
   have D5:=zW (D5.out.step b5)
   clear b5 om hgm hlm h5 c19 c16
   have c19:w5.cell? ⟨g,19,none⟩=some (.slice (some ad) K c):=((D5.out.s.cell 19).trans (nW _ 3)).trans zBA
   have f19:=D5.out.s.frozen 19
   go_upto_region 29 with fail
   clear c19 f19
   have D6:=zW (D5.out.put 19 (.slice (some ⟨gm,0,none⟩) K cm) (ZT s ⟨some ⟨gm,0,none⟩,K,cm⟩))
   have RM:=zW (RM.out.away (show(⟨gm,0,none⟩:Addr).block≠g by have:=GM.out;simp only;omega) (w':=World.setCell w5 ⟨g,19,none⟩ (.slice (some ⟨gm,0,none⟩) K cm)) zB3 (fun k hk=>qQ _ _ _ _ hk))
   generalize World.setCell _ _ _=w6 at D6 RM⊢
   have x0:w6.cell? ⟨g+1,0,none⟩=some (.int .i64 46):=(D6.out.i.cell 0).trans rfl
   go_upto_region 31 with fail
   refine zN ?_
   refine lP mM D6.out.s (lC _) rfl (.tmp 3) rfl rfl ?_
   simp only[Act.put,zQ,zZ,zJ]
   refine lE mM D6.out.o (lC _) (lC _) (nZ _) rfl (.tmp 6) (.tmp 141) rfl rfl rfl ?_
   simp only[Act.put,zQ,zZ,zJ]
   have RE:=D6.out.o.store (cst {s with M:=⟨some ⟨gm,0,none⟩,K,cm⟩})
   have BZ:=lU D6.out.low (show w.heap.size≤g+1+1+1 by have:=D6.out.at_;omega) (cst {s with M:=⟨some ⟨gm,0,none⟩,K,cm⟩})
   have PZ:=RM.out.away (show(⟨gm,0,none⟩:Addr).block≠g+1+1+1 by have:=GM.out;simp only;omega) (w':=World.setRow w6 (g+1+1+1) (cst {s with M:=⟨some ⟨gm,0,none⟩,K,cm⟩})) zBD (fun k hk=>zA _ _ _ _ hk)
   generalize World.setRow _ _ _=wz at RE BZ PZ⊢
   go_wp2_with fail
   iterate 4 (try go_step)
   exact zT (zF rfl _ _ (g+1+1+1) _ _ _ _ rfl RE Tryz.underlying43 rfl zBU) rfl (vA.mk {z with M:=⟨some ⟨gm,0,none⟩,65536,cm⟩} zTB zR9 BZ ⟨.inl ⟨rfl,zH _⟩,rfl,rfl,.inr (fun _ e=>by cases e;have:=GM.out;have:=D6.out.at_;simp only;omega),.inl rfl,.inl rfl,.inl rfl⟩)
theorem IJ(N:Nat)(a:AS)(z:Sls)(x y n k:Nat)(nn addr len:Int)(q:Pr)(w:World)(H:RS N w z a)(O:OkA a)(hx:x<16)(hy:y<16)(hn:n<16)(hk:spN a.msk 47 x y n=k):
  Calls Tryz.prog 71 #[.agg (cst (mT a z)),.agg (lI ⟨47,x,y,n,nn,addr,len⟩),.agg (prc q)] w (vA N z (xP a 47 x y k q.ki) w):=by
 obtain⟨ad,c,eM,rM⟩:=H.M;obtain⟨K,hK⟩:∃K,K=65536:=⟨_,rfl⟩;rw[←hK]at eM;obtain⟨s,hs⟩:∃s,mT a z=s:=⟨_,rfl⟩;obtain⟨I,hI⟩:∃I,a.i=I:=⟨_,rfl⟩;have FA:=zW (show s.M=⟨some ad,K,c⟩∧s.i=I∧s.v=a.v from⟨by rw[←hs];exact eM,by rw[←hs];exact hI,by rw[←hs];rfl⟩);have SP:=zW fun w0=>rZ s 47 x y n a.msk nn addr len w0 zTR O.msk hx hy hn;have SL:=sI a.msk 47 hx hy hn;rw[hk]at SP SL;have RB:=zW (fun(w':World) (h:Below w.heap.size w w')=>uN ad K c a.M I k w' hK zRE (rM.step h) zB7 zB7 zBY);have RG:=zW (fun w'=>gC x y w' zBY zBY);have PU:=zW (fun(B:Option Addr) (m d:Nat) (L:List Int) (w':World) (h:Below w.heap.size w w') (rd:Rd w' B L) (hl:L.length=m) (hm:m≤1000)=>rB ad K c a.M I B m d L w' hK zRE (rM.step h) zB7 zB7 hl zBY rd);rw[hs];have HS:=zW hs;have HI:=zW hI;have RR:=zW H;have HK:=zW hK;have OV:=zW O.v;have OM:=zW O.M;have OB8:=zW O.B;have i0:0≤I:=by have:=O.i;omega
 have i1:I≤65535:=by have:=O.i;omega
 have KL:=zW (zY SL hk);have HX:=zW (zY hx (zY hy hn));have xi:(x:Int)<16:=zBY;have yi:(y:Int)<16:=zBY;have ki:(k:Int)≤128:=zBY;have D0:=zW (DQ.new w s vP ⟨47,x,y,n,nn,addr,len⟩ q);clear H O hx hy hn hk hs hI hK eM rM SL;go_enter Tryz.func71,Tryz.ntmps71;go_upto_region 0 with fail;refine zN ?_;refine mZ rfl _ (.tmp 0) rfl (cst s) rfl ?_;simp only[Act.put,zQ,zZ,zJ];refine mZ rfl _ (.tmp 1) rfl (lI ⟨47,x,y,n,nn,addr,len⟩) rfl ?_;simp only[Act.put,zQ,zZ,zJ,zR];refine mZ rfl _ (.tmp 2) rfl (prc q) rfl ?_;simp only[Act.put,zQ,zZ,zJ,zR];refine qL rfl fun K hK=>nF xI rfl (hK _ _ ?_);clear hK K;simp only[Act.put,zQ,zZ,zJ,zR];obtain⟨g,hg⟩:∃g,w.heap.size=g:=⟨_,rfl⟩;rw[hg]at D0⊢;generalize World.alloc (World.alloc (World.alloc (World.alloc _ _) _) _) _=w1 at D0⊢;clear hg;go_upto_region 1 with fail;refine zN ?_;refine lP mM D0.out.s (lC _) rfl (.tmp 3) rfl rfl ?_;simp only[Act.put,zQ,zZ,zJ];refine lP mN D0.out.i rfl rfl (.tmp 4) rfl rfl ?_;simp only[Act.put,zQ,zZ,zJ];go_wp2_with fail;refine(SP.out _).mono ?_;rintro e w2 ⟨rfl,b2⟩;have D2:=zW (D0.out.step b2);clear b2 D0;have c19:w2.cell? ⟨g,19,none⟩=some (.slice (some ad) K c):=((D2.out.s.cell 19).trans (nW _ 3)).trans zBA;have c16:w2.cell? ⟨g,16,none⟩=some (.int .i64 I):=((D2.out.s.cell 16).trans (nW _ 0)).trans zB4;go_wp2_with fail;refine(RB.out _ D2.out.low).mono ?_;rintro e w3 ⟨B,cb,rfl,ob,b3⟩;have OB:=zW (cV ob (show g+1+1+1+1≤w2.heap.size from D2.out.o.lt));have OBC:=zW (tD ob);have D3:=zW (D2.out.step b3);clear b3 ob D2 c19 c16;have x1:w3.cell? ⟨g+1,1,none⟩=some (.int .i64 (x:Int)):=(D3.out.i.cell 1).trans rfl;have x2:w3.cell? ⟨g+1,2,none⟩=some (.int .i64 (y:Int)):=(D3.out.i.cell 2).trans rfl;go_wp2_with fail;refine(RG.out _).mono ?_;rintro e w4 ⟨G,cg,rfl,og,b4⟩;have OB:=zW (nE OB.out b4);have OG:=zW (cV og (show g+1+1+1+1≤w3.heap.size from D3.out.o.lt));have D4:=zW (D3.out.step b4);clear b4 og D3 x1 x2 RG RB SP;have x0:w4.cell? ⟨g+1,0,none⟩=some (.int .i64 47):=(D4.out.i.cell 0).trans rfl;have x1:w4.cell? ⟨g+1,1,none⟩=some (.int .i64 (x:Int)):=(D4.out.i.cell 1).trans rfl;have kk:vD x y=k:=by have:=KL.out.2;unfold spN at this;simp at this;exact this
 rw[kk]at OG⊢;have RL:=zW (fun j (hj:j<k)=>fN x y j zRP zRP (kk▸hj));have LL:=zW ((gU x y).trans kk);have OGC:=zW (tD OG.out);clear kk;obtain⟨RG9,hRG⟩:∃R,uM x y=R:=⟨_,rfl⟩;rw[hRG]at RL OG LL;have ME:=zW (show xP a 47 x y k q.ki={a with v:=ldN a.v RG9 (byC a.M I) k} by
  unfold xP sF;rw[zL (fun h=>by rcases h.1 with h|h<;>exact absurd h zBH),zL zBH,zL zBH,zL zBH,zL zBH,zG rfl,HI.out,hRG])
 clear hRG;have BY:=zW (show∀j,j<k→∀u:World,u.ownsRow (g+1+1+1+1) 5 1 (.slice B k cb) k ((seg a.M I k).map (Value.int .u8))→∃ad2,B=some ad2∧ad2.block<u.heap.size∧u.cell? (ad2.add j)=some (.int .u8 (byC a.M I j:Int))from fun j hj u h=>by
  have h1:j<(seg a.M I k).length:=by rw[xU];exact hj
  obtain⟨ad2,eA,hl,hc⟩:=wE h (by intro e;rw[e]at h1;cases h1);have h2:=o7 OB8.out OM.out I k j hj;rw[zP h1]at h2;exact⟨ad2,eA,hl,by rw[hc j h1,qU h2]⟩)
 have E0:cst s=cst {s with v:=ldN a.v RG9 (byC a.M I) 0}:=by rw[show ldN a.v RG9 (byC a.M I) 0=s.v from FA.out.2.2.symm]
 have D5:=zW (show DQ w g {s with v:=ldN a.v RG9 (byC a.M I) 0} vP ⟨47,x,y,n,nn,addr,len⟩ q w4 from⟨E0▸D4.out.s,D4.out.i,D4.out.p,D4.out.o,D4.out.low,D4.out.at_⟩);clear E0 D4 PU;have cg1:k≤cg:=OGC.out;have cb1:k≤cb:=OBC.out;go_upto_region 23 with fail;clear x0 x1;go_wp2;go_loopw [14] (fun i wr=>∃j:Nat,j≤k∧i=.int .i64 (j:Int)∧DQ w g {s with v:=ldN a.v RG9 (byC a.M I) j} vP ⟨47,x,y,n,nn,addr,len⟩ q wr∧wr.ownsRow (g+1+1+1+1) 5 1 (.slice B k cb) k ((seg a.M I k).map (Value.int .u8))∧wr.ownsRow (g+1+1+1+1) 3 1 (.slice G k cg) k (RG9.map (Value.int .i64))) (fun i _=>k-(intOf i).toNat)
 case atStart=>exact⟨0,qE _,rfl,D5.out,OB.out,OG.out⟩
 case round=>
  clear D5 OB OG
  obtain⟨j,hj,rfl,d,ob,og⟩:=hrel
  have D5:=zW d
  have OB:=zW ob
  have OG:=zW og
  clear d ob og
  by_cases hlt:j<k
  ·have jI:(j:Int)<(k:Int):=zBY
   have j0:0≤(j:Int):=zBY
   obtain⟨rn,r16,hr⟩:=RL.out j hlt
   have HJ:=zW (zY hlt (zY r16 hr))
   obtain⟨gb,ob,eG,hgb,cG⟩:=(Row.of_own OG.out).at_ (show j<RG9.length by rw[LL.out];exact hlt)
   rw[show RG9[j]'(by rw[LL.out];exact hlt)=(rn:Int)from(kE.1 hr).2]at cG
   subst eG
   obtain⟨ad2,eB,hlB,cB⟩:=BY.out j hlt _ OB.out
   subst eB
   obtain⟨bv,hbv⟩:∃bv,byC a.M I j=bv:=⟨_,rfl⟩
   have HB:=zW hbv
   rw[hbv]at cB
   have r16I:(rn:Int)<16:=zBY
   have r0I:0≤(rn:Int):=zBY
   have kG:=mH.cell cG hgb
   have kB:∀u:mH wr,u.w.cell? (ad2.add j)=some (.int .u8 (bv:Int)):=fun u=>(u.below.cell (p:=ad2.add j) (by rw[cP];exact hlB)).trans cB
   have NB:=zW fun(u:World) (b:Below wr.heap.size wr u)=>vY (nE OB.out b) (D5.out.s.step b) zBH
   have NG:=zW fun(u:World) (b:Below wr.heap.size wr u)=>vY (nE OG.out b) (D5.out.s.step b) zBH
   clear hbv hj hr hgb hlB
   go_upto_region 26 with fail
   clear cG cB
   refine mX (C:=fun w'=>∃u:mH wr,w'=u.w) 10 [] [0,1,2,3,4,5,6,7,8,9] [] zBM zBM ?_ ?_ ⟨⟨wr.drew,(zB _ _).drew⟩,rfl⟩ ?_
   ·exact fun _ _ d _ _ h=>by cases d<;>exact h
   ·rintro _ w' ⟨u,rfl⟩ hg
    exact⟨⟨w',u.below.trans (hg.mono u.below.size)⟩,rfl⟩
   intro wd hwd
   have bd:=zW (show Below wr.heap.size wr wd by rw[hwd];exact(zB _ _).drew)
   clear hwd
   refine mE zBN zBG ?_
   repeat(go_big_quiet_step (rfl))
   refine zM ?_
   refine mC rfl ?_
   intro w7 g7 C7 K7 hK
   obtain⟨u7,rfl⟩:=C7
   refine bA (D5.out.s.step u7.below) rn (.int .u8 (bv:Int)) zBM rfl (by rw[lC];have:=HJ.out.2.1;omega) (.tmp 117) (.tmp 115) rfl zBL zBL ?_
   refine hK _ _ ?_
   clear hK K7
   simp only[Act.put,zQ,zZ,zJ]
   simp only[lA]
   refine zM ?_
   intro w8 g8
   have OB:=zW (nE (vG (g:=none) (nE OB.out u7.below) (nC.setCell rn (.int .u8 (bv:Int))) (NB.out _ u7.below) (fun _ e=>by cases e)) g8)
   have OG:=zW (nE (vG (g:=none) (nE OG.out u7.below) (nC.setCell rn (.int .u8 (bv:Int))) (NG.out _ u7.below) (fun _ e=>by cases e)) g8)
   have D6:=zW (((D5.out.step u7.below).putv HJ.out.2.1 bv).step g8)
   clear g8 g7 u7 bd kG kB NB NG D5
   go_wp2
   go_roundw
   case rel=>exact⟨j+1,HJ.out.1,by go_num,by
    have e:ldN a.v RG9 (byC a.M I) (j+1)=Cpu.upd (ldN a.v RG9 (byC a.M I) j) rn bv:=by
     show Cpu.upd _ _ _=_;rw[HB.out,qJ,HJ.out.2.2];rfl
    rw[e]
    exact D6.out,OB.out,OG.out⟩
   case measure=>simp[intOf];have:=HJ.out.1;omega
  ·obtain rfl:k=j:=by omega
   have jI:¬(k:Int)<(k:Int):=zBY
   clear hlt hj
   have x0:wr.cell? ⟨g+1,0,none⟩=some (.int .i64 47):=(D5.out.i.cell 0).trans rfl
   go_upto_region 31 with fail
   clear OB OG jI BY cb1 cg1 RL
   go_upto_region 31 with fail
   refine zN ?_
   refine lP mM D5.out.s (lC _) rfl (.tmp 3) rfl rfl ?_
   simp only[Act.put,zQ,zZ,zJ]
   refine lE mM D5.out.o (lC _) (lC _) (nZ _) rfl (.tmp 6) (.tmp 141) rfl rfl rfl ?_
   simp only[Act.put,zQ,zZ,zJ]
   have RE:=D5.out.o.store (cst {s with v:=ldN a.v RG9 (byC a.M I) k})
   have BZ:=lU D5.out.low (show w.heap.size≤g+1+1+1 by have:=D5.out.at_;omega) (cst {s with v:=ldN a.v RG9 (byC a.M I) k})
   generalize World.setRow _ _ _=wz at RE BZ⊢
   go_wp2_with fail
   iterate 4 (try go_step)
   exact zT (zF rfl _ _ (g+1+1+1) _ _ _ _ rfl RE Tryz.underlying43 rfl zBU) rfl (vA.mk z (by rw[ME.out,←HS.out];rfl) (by rw[ME.out];exact(RR.out.step BZ).nums _ _ _ _ _ _ _ _ _) BZ ⟨.inl ⟨rfl,zH _⟩,rfl,rfl,.inl rfl,.inl rfl,.inl rfl,.inl rfl⟩)
theorem IZ(N:Nat)(a:AS)(z:Sls)(x y n k:Nat)(nn addr len:Int)(q:Pr)(w:World)(H:RS N w z a)(O:OkA a)(hx:x<16)(hy:y<16)(hn:n<16)(hk:spN a.msk 50 x y n=k):
  Calls Tryz.prog 71 #[.agg (cst (mT a z)),.agg (lI ⟨50,x,y,n,nn,addr,len⟩),.agg (prc q)] w (vA N z (xP a 50 x y k q.ki) w):=by
 obtain⟨ad,c,eM,rM⟩:=H.M;obtain⟨K,hK⟩:∃K,K=65536:=⟨_,rfl⟩;rw[←hK]at eM;obtain⟨s,hs⟩:∃s,mT a z=s:=⟨_,rfl⟩;obtain⟨I,hI⟩:∃I,a.i=I:=⟨_,rfl⟩;have FA:=zW (show s.M=⟨some ad,K,c⟩∧s.i=I∧s.v=a.v from⟨by rw[←hs];exact eM,by rw[←hs];exact hI,by rw[←hs];rfl⟩);have SP:=zW fun w0=>rZ s 50 x y n a.msk nn addr len w0 zTR O.msk hx hy hn;have SL:=sI a.msk 50 hx hy hn;rw[hk]at SP SL;have RB:=zW (fun(w':World) (h:Below w.heap.size w w')=>uN ad K c a.M I k w' hK zRE (rM.step h) zB7 zB7 zBY);have RG:=zW (fun w'=>gC x y w' zBY zBY);have PU:=zW (fun(B:Option Addr) (m d:Nat) (L:List Int) (w':World) (h:Below w.heap.size w w') (rd:Rd w' B L) (hl:L.length=m) (hm:m≤1000)=>rB ad K c a.M I B m d L w' hK zRE (rM.step h) zB7 zB7 hl zBY rd);rw[hs];have HS:=zW hs;have HI:=zW hI;have RR:=zW H;have HK:=zW hK;have OV:=zW O.v;have OM:=zW O.M;have OB8:=zW O.B;have i0:0≤I:=by have:=O.i;omega
 have i1:I≤65535:=by have:=O.i;omega
 have KL:=zW (zY SL hk);have HX:=zW (zY hx (zY hy hn));have xi:(x:Int)<16:=zBY;have yi:(y:Int)<16:=zBY;have ki:(k:Int)≤128:=zBY;have D0:=zW (DQ.new w s vP ⟨50,x,y,n,nn,addr,len⟩ q);clear H O hx hy hn hk hs hI hK eM rM SL;go_enter Tryz.func71,Tryz.ntmps71;go_upto_region 0 with fail;refine zN ?_;refine mZ rfl _ (.tmp 0) rfl (cst s) rfl ?_;simp only[Act.put,zQ,zZ,zJ];refine mZ rfl _ (.tmp 1) rfl (lI ⟨50,x,y,n,nn,addr,len⟩) rfl ?_;simp only[Act.put,zQ,zZ,zJ,zR];refine mZ rfl _ (.tmp 2) rfl (prc q) rfl ?_;simp only[Act.put,zQ,zZ,zJ,zR];refine qL rfl fun K hK=>nF xI rfl (hK _ _ ?_);clear hK K;simp only[Act.put,zQ,zZ,zJ,zR];obtain⟨g,hg⟩:∃g,w.heap.size=g:=⟨_,rfl⟩;rw[hg]at D0⊢;generalize World.alloc (World.alloc (World.alloc (World.alloc _ _) _) _) _=w1 at D0⊢;clear hg;go_upto_region 1 with fail;refine zN ?_;refine lP mM D0.out.s (lC _) rfl (.tmp 3) rfl rfl ?_;simp only[Act.put,zQ,zZ,zJ];refine lP mN D0.out.i rfl rfl (.tmp 4) rfl rfl ?_;simp only[Act.put,zQ,zZ,zJ];go_wp2_with fail;refine(SP.out _).mono ?_;rintro e w2 ⟨rfl,b2⟩;have D2:=zW (D0.out.step b2);clear b2 D0;have c19:w2.cell? ⟨g,19,none⟩=some (.slice (some ad) K c):=((D2.out.s.cell 19).trans (nW _ 3)).trans zBA;have c16:w2.cell? ⟨g,16,none⟩=some (.int .i64 I):=((D2.out.s.cell 16).trans (nW _ 0)).trans zB4;go_wp2_with fail;refine(RB.out _ D2.out.low).mono ?_;rintro e w3 ⟨B,cb,rfl,ob,b3⟩;have OB:=zW (cV ob (show g+1+1+1+1≤w2.heap.size from D2.out.o.lt));have OBC:=zW (tD ob);have D3:=zW (D2.out.step b3);clear b3 ob D2 c19 c16;have x1:w3.cell? ⟨g+1,1,none⟩=some (.int .i64 (x:Int)):=(D3.out.i.cell 1).trans rfl;have x2:w3.cell? ⟨g+1,2,none⟩=some (.int .i64 (y:Int)):=(D3.out.i.cell 2).trans rfl;go_wp2_with fail;refine(RG.out _).mono ?_;rintro e w4 ⟨G,cg,rfl,og,b4⟩;have OB:=zW (nE OB.out b4);have OG:=zW (cV og (show g+1+1+1+1≤w3.heap.size from D3.out.o.lt));have D4:=zW (D3.out.step b4);clear b4 og D3 x1 x2 RG RB SP;have x0:w4.cell? ⟨g+1,0,none⟩=some (.int .i64 50):=(D4.out.i.cell 0).trans rfl;have x1:w4.cell? ⟨g+1,1,none⟩=some (.int .i64 (x:Int)):=(D4.out.i.cell 1).trans rfl;have kk:k=16:=by have:=KL.out.2;unfold spN at this;simp at this;omega
 have ME:=zW (show xP a 50 x y k q.ki={a with P:=seg a.M I k} by
  unfold xP sF;rw[zL (fun h=>by rcases h.1 with h|h<;>exact absurd h zBH),zL zBH,zL zBH,zL zBH,zL zBH,zL zBH,zG rfl,HI.out])
 have c26:w4.cell? ⟨g,26,none⟩=some (.slice s.P.A s.P.n s.P.c):=(D4.out.s.cell 26).trans (nW _ 10);have f26:=D4.out.s.frozen 26;clear kk;go_upto_region 29 with fail;clear c26 f26 x0 x1;have D6:=zW (D4.out.put 26 (.slice B k cb) (zJA s ⟨B,k,cb⟩));have OB:=zW (vG (g:=none) OB.out (nC.setCell 26 (.slice B k cb)) (vY OB.out D4.out.s zBH) (fun _ e=>by cases e));generalize World.setCell _ _ _=w6 at D6 OB⊢;have x0:w6.cell? ⟨g+1,0,none⟩=some (.int .i64 50):=(D6.out.i.cell 0).trans rfl;go_upto_region 31 with fail;refine zN ?_;refine lP mM D6.out.s (lC _) rfl (.tmp 3) rfl rfl ?_;simp only[Act.put,zQ,zZ,zJ];refine lE mM D6.out.o (lC _) (lC _) (nZ _) rfl (.tmp 6) (.tmp 141) rfl rfl rfl ?_;simp only[Act.put,zQ,zZ,zJ];have RE:=D6.out.o.store (cst {s with P:=⟨B,k,cb⟩});have BZ:=lU D6.out.low (show w.heap.size≤g+1+1+1 by have:=D6.out.at_;omega) (cst {s with P:=⟨B,k,cb⟩});have PZ:=vG (g:=none) OB.out (nC.setRow (cst {s with P:=⟨B,k,cb⟩})) (vY OB.out D6.out.o zBH) (fun _ e=>by cases e);generalize World.setRow _ _ _=wz at RE BZ PZ⊢;go_wp2_with fail;iterate 4 (try go_step)
 exact zT (zF rfl _ _ (g+1+1+1) _ _ _ _ rfl RE Tryz.underlying43 rfl zBU) rfl (vA.mk {z with P:=⟨B,k,cb⟩} (by rw[ME.out,←HS.out];rfl) (by rw[ME.out];exact(RR.out.step BZ).setP (wE PZ) (xU _ _ _)) BZ ⟨.inl ⟨rfl,zH _⟩,rfl,rfl,.inl rfl,.inr (fun _ e=>by have h1:=(D6.out).at_;have h2:=(VD PZ _ e);omega),.inl rfl,.inl rfl⟩)
theorem dI(N:Nat)(a:AS)(z:Sls)(op:Int)(x y n k:Nat)(nn addr len:Int)(q:Pr)(w:World)(H:RS N w z a)(O:OkA a)(hx:x<16)(hy:y<16)(hn:n<16)(hk:spN a.msk op x y n=k)(hop:op=32∨op=33∨op=34∨op=46∨op=47∨op=50):
  Calls Tryz.prog 71 #[.agg (cst (mT a z)),.agg (lI ⟨op,x,y,n,nn,addr,len⟩),.agg (prc q)] w (vA N z (xP a op x y k q.ki) w):=by
 rcases hop with rfl|rfl|rfl|rfl|rfl|rfl
 ·exact IW N a z x y n k nn addr len q w H O hx hy hn hk
 ·exact IV N a z x y n k nn addr len q w H O hx hy hn hk
 ·exact IK N a z x y n k nn addr len q w H O hx hy hn hk
 ·exact IX N a z x y n k nn addr len q w H O hx hy hn hk
 ·exact IJ N a z x y n k nn addr len q w H O hx hy hn hk
 ·exact IZ N a z x y n k nn addr len q w H O hx hy hn hk
end
end Go.Proofs.YtcjldabaekbdlaaGreatDoor
