/- CpuRef8. -/
import Derived.Test.YtcjldabaekbdlaaGreatDoorMk5a
set_option maxRecDepth 400000
set_option maxHeartbeats 64000000
set_option linter.unusedVariables false
set_option linter.unusedSimpArgs false
namespace Go.Proofs.YtcjldabaekbdlaaGreatDoor
section
open Go.RowKit Num Dec Cpu
theorem gC(x y:Nat)(w:World)(hx:x≤15)(hy:y≤15):
  Calls Tryz.prog 152 #[.int .i64 (x:Int),.int .i64 (y:Int)] w fun e w'=>∃A c,e=.returned (.slice A (vD x y) c)∧w'.ownsRow w.heap.size 3 1 (.slice A (vD x y) c) (vD x y) ((uM x y).map (Value.int .i64))∧Below w.heap.size w w':=by
 unfold vD uM;by_cases h:x≤y
 ·rw[zG h,zG h];exact zK2 x y w hx hy h
 ·rw[zL h,zL h];exact CN x y w hx hy zBY
theorem tD{w:World}{base n c:Nat}{e:TypeId}{A:Option Addr}{xs:List Value}(h:w.ownsRow base e 1 (.slice A n c) n xs):n≤c:=by
 rcases h.2 with⟨e1,e2⟩|⟨g,cap,cur,e1,_,_,h1,_⟩
 ·injection e1 with _ _ e3
  omega
 ·injection e1 with _ _ e3
  omega
theorem fN(x y j:Nat)(hx:x≤15)(hy:y≤15)(hj:j<vD x y):∃rn:Nat,rn<16∧(uM x y)[j]?=some (rn:Int):=by
 unfold vD at hj;unfold uM;split at hj
 ·rename_i h
  rw[zG h];exact⟨x+j,by omega,by simp[upL,hj]⟩
 ·rename_i h
  rw[zL h];exact⟨x-j,by omega,by simp[dnL,hj];omega⟩
theorem zVS{w:World}{base base' size size' n n':Nat}{e e':TypeId}{v v':Value}{xs xs':List Value}(h:w.ownsRow base e size v n xs)(h':w.ownsRow base' e' size' v' n' xs'){k:Nat}(hk:v'.ownBlock=some k)(hne:e≠e'):v.ownBlock≠some k:=by
 intro hv;obtain⟨_,cs,hc⟩:=XK h' hk;exact vY h hc hne hv
theorem DQ.grown{w w1 w2:World}{g n:Nat}{s z:CS}{i:Ins}{q:Pr}{v:Value}{xs:List Value}(h:DQ w g s z i q w1)(hg:w1.grownBy w2 v.ownBlock)(ho:w1.ownsRow (g+1+1+1+1) 5 1 v n xs):DQ w g s z i q w2:=by
 have t1:=vY ho h.s zBH;have t2:=vY ho h.i zBH;have t3:=vY ho h.p zBH;have t4:=vY ho h.o zBH;exact⟨(hg.block g h.s.lt (fun e=>t1 e.symm)).trans h.s,(hg.block _ h.i.lt (fun e=>t2 e.symm)).trans h.i,(hg.block _ h.p.lt (fun e=>t3 e.symm)).trans h.p,(hg.block _ h.o.lt (fun e=>t4 e.symm)).trans h.o,
  h.low.grown hg h.low.size fun j ej=>by have:=(ho.lt j ej).1;have:=h.at_;omega,h.at_⟩
theorem VD{w:World}{base n c:Nat}{e:TypeId}{A:Option Addr}{xs:List Value}(h:w.ownsRow base e 1 (.slice A n c) n xs)(ad:Addr)(ha:A=some ad):base≤ad.block:=by
 subst ha;exact(h.lt _ rfl).1
theorem zMZ(w:World)(a b c:Int):Rd (w.alloc (.cells #[.int .u8 a,.int .u8 b,.int .u8 c] 5)) (some ⟨w.heap.size,0,none⟩) [a,b,c]:=fun _=>
 ⟨⟨w.heap.size,0,none⟩,rfl,by simp,fun j hj=>by
  have h3:j<3:=hj;rw[yN,qB,(Blk.new w 5 #[.int .u8 a,.int .u8 b,.int .u8 c]).cell];rcases(show j=0∨j=1∨j=2 by omega)with rfl|rfl|rfl<;>rfl⟩
theorem IW(N:Nat)(a:AS)(z:Sls)(x y n k:Nat)(nn addr len:Int)(q:Pr)(w:World)(H:RS N w z a)(O:OkA a)(hx:x<16)(hy:y<16)(hn:n<16)(hk:spN a.msk 32 x y n=k):
  Calls Tryz.prog 71 #[.agg (cst (mT a z)),.agg (lI ⟨32,x,y,n,nn,addr,len⟩),.agg (prc q)] w (vA N z (xP a 32 x y k q.ki) w):=by
 obtain⟨ad,c,eM,rM⟩:=H.M;obtain⟨K,hK⟩:∃K,K=65536:=⟨_,rfl⟩;rw[←hK]at eM;obtain⟨s,hs⟩:∃s,mT a z=s:=⟨_,rfl⟩;obtain⟨I,hI⟩:∃I,a.i=I:=⟨_,rfl⟩;have FA:=zW (show s.M=⟨some ad,K,c⟩∧s.i=I∧s.v=a.v from⟨by rw[←hs];exact eM,by rw[←hs];exact hI,by rw[←hs];rfl⟩);have SP:=zW fun w0=>rZ s 32 x y n a.msk nn addr len w0 zTR O.msk hx hy hn;have SL:=sI a.msk 32 hx hy hn;rw[hk]at SP SL;have RB:=zW (fun(w':World) (h:Below w.heap.size w w')=>uN ad K c a.M I k w' hK zRE (rM.step h) zB7 zB7 zBY);have RG:=zW (fun w'=>gC x y w' zBY zBY);have PU:=zW (fun(B:Option Addr) (m d:Nat) (L:List Int) (w':World) (h:Below w.heap.size w w') (rd:Rd w' B L) (hl:L.length=m) (hm:m≤1000)=>rB ad K c a.M I B m d L w' hK zRE (rM.step h) zB7 zB7 hl zBY rd);rw[hs];have HS:=zW hs;have HI:=zW hI;have RR:=zW H;have HK:=zW hK;have OV:=zW O.v;have OM:=zW O.M;have OB8:=zW O.B;have i0:0≤I:=by have:=O.i;omega
 have i1:I≤65535:=by have:=O.i;omega
 have KL:=zW (zY SL hk);have HX:=zW (zY hx (zY hy hn));have xi:(x:Int)<16:=zBY;have yi:(y:Int)<16:=zBY;have ki:(k:Int)≤128:=zBY;have D0:=zW (DQ.new w s vP ⟨32,x,y,n,nn,addr,len⟩ q);clear H O hx hy hn hk hs hI hK eM rM SL;go_enter Tryz.func71,Tryz.ntmps71;go_upto_region 0 with fail;refine zN ?_;refine mZ rfl _ (.tmp 0) rfl (cst s) rfl ?_;simp only[Act.put,zQ,zZ,zJ];refine mZ rfl _ (.tmp 1) rfl (lI ⟨32,x,y,n,nn,addr,len⟩) rfl ?_;simp only[Act.put,zQ,zZ,zJ,zR];refine mZ rfl _ (.tmp 2) rfl (prc q) rfl ?_;simp only[Act.put,zQ,zZ,zJ,zR];refine qL rfl fun K hK=>nF xI rfl (hK _ _ ?_);clear hK K;simp only[Act.put,zQ,zZ,zJ,zR];obtain⟨g,hg⟩:∃g,w.heap.size=g:=⟨_,rfl⟩;rw[hg]at D0⊢;generalize World.alloc (World.alloc (World.alloc (World.alloc _ _) _) _) _=w1 at D0⊢;clear hg;go_upto_region 1 with fail;refine zN ?_;refine lP mM D0.out.s (lC _) rfl (.tmp 3) rfl rfl ?_;simp only[Act.put,zQ,zZ,zJ];refine lP mN D0.out.i rfl rfl (.tmp 4) rfl rfl ?_;simp only[Act.put,zQ,zZ,zJ];go_wp2_with fail;refine(SP.out _).mono ?_;rintro e w2 ⟨rfl,b2⟩;have D2:=zW (D0.out.step b2);clear b2 D0;have c19:w2.cell? ⟨g,19,none⟩=some (.slice (some ad) K c):=((D2.out.s.cell 19).trans (nW _ 3)).trans zBA;have c16:w2.cell? ⟨g,16,none⟩=some (.int .i64 I):=((D2.out.s.cell 16).trans (nW _ 0)).trans zB4;go_wp2_with fail;refine(RB.out _ D2.out.low).mono ?_;rintro e w3 ⟨B,cb,rfl,ob,b3⟩;have OB:=zW (cV ob (show g+1+1+1+1≤w2.heap.size from D2.out.o.lt));have OBC:=zW (tD ob);have D3:=zW (D2.out.step b3);clear b3 ob D2 c19 c16;have x1:w3.cell? ⟨g+1,1,none⟩=some (.int .i64 (x:Int)):=(D3.out.i.cell 1).trans rfl;have x2:w3.cell? ⟨g+1,2,none⟩=some (.int .i64 (y:Int)):=(D3.out.i.cell 2).trans rfl;go_wp2_with fail;refine(RG.out _).mono ?_;rintro e w4 ⟨G,cg,rfl,og,b4⟩;have OB:=zW (nE OB.out b4);have OG:=zW (cV og (show g+1+1+1+1≤w3.heap.size from D3.out.o.lt));have D4:=zW (D3.out.step b4);clear b4 og D3 x1 x2 RG RB SP;have x0:w4.cell? ⟨g+1,0,none⟩=some (.int .i64 32):=(D4.out.i.cell 0).trans rfl;have x1:w4.cell? ⟨g+1,1,none⟩=some (.int .i64 (x:Int)):=(D4.out.i.cell 1).trans rfl;obtain⟨vx,hv⟩:∃vx,a.v x=vx:=⟨_,rfl⟩;have v256:(vx:Int)<256:=by have:=OV.out x HX.out.1;omega
 have v0:0≤(vx:Int):=zBY;have ME:=zW (show xP a 32 x y k q.ki={a with M:=put a.M I [(vx:Int)/100,(vx:Int)/10%10,(vx:Int)%10]} by
  unfold xP sF M3;rw[zL (fun h=>by rcases h.1 with h|h<;>exact absurd h zBH),zG rfl,hv,HI.out];congr 2)
 have cx:w4.cell? ⟨g,x,none⟩=some (.int .u8 (vx:Int)):=by rw[D4.out.s.cell,wJ s HX.out.1,FA.out.2.2,hv]
 have HV:=zW hv;clear hv;go_upto_region 7 with fail;clear cx;have c19:w4.cell? ⟨g,19,none⟩=some (.slice (some ad) K c):=((D4.out.s.cell 19).trans (nW _ 3)).trans zBA;have c16:w4.cell? ⟨g,16,none⟩=some (.int .i64 I):=((D4.out.s.cell 16).trans (nW _ 0)).trans zB4;have Q0:=zW (zMZ w4 ((vx:Int)/100) ((vx:Int)/10%10) ((vx:Int)%10));have D4:=zW (D4.out.step (mJ w4 (.cells #[.int .u8 ((vx:Int)/100),.int .u8 ((vx:Int)/10%10),.int .u8 ((vx:Int)%10)] 5)));go_wp2_with fail;refine(PU.out _ 3 _ [(vx:Int)/100,(vx:Int)/10%10,(vx:Int)%10] _ D4.out.low Q0.out rfl zBY).mono ?_;intro e w5 h5;obtain⟨gm,cm,rfl,hgm,hlm,om,b5⟩:=wK.bytes h5 (show(put a.M I [(vx:Int)/100,(vx:Int)/10%10,(vx:Int)%10]).length=K by rw[cE,OM.out,HK.out]) (by rw[HK.out];decide);have GM:=zW (show g+1+1+1<gm from zS D4.out.o.lt hgm);have RM:=zW (show Rm ⟨gm,0,none⟩ (put a.M I [(vx:Int)/100,(vx:Int)/10%10,(vx:Int)%10]) w5 from⟨hlm,ZW om⟩);have D5:=zW (D4.out.step b5);clear b5 om hgm hlm h5 c19 c16;have c19:w5.cell? ⟨g,19,none⟩=some (.slice (some ad) K c):=((D5.out.s.cell 19).trans (nW _ 3)).trans zBA;have f19:=D5.out.s.frozen 19;go_upto_region 29 with fail;clear c19 f19;have D6:=zW (D5.out.put 19 (.slice (some ⟨gm,0,none⟩) K cm) (ZT s ⟨some ⟨gm,0,none⟩,K,cm⟩));have RM:=zW (RM.out.away (show(⟨gm,0,none⟩:Addr).block≠g by have:=GM.out;simp only;omega) (w':=World.setCell w5 ⟨g,19,none⟩ (.slice (some ⟨gm,0,none⟩) K cm)) zB3 (fun k hk=>qQ _ _ _ _ hk));generalize World.setCell _ _ _=w6 at D6 RM⊢;have x0:w6.cell? ⟨g+1,0,none⟩=some (.int .i64 32):=(D6.out.i.cell 0).trans rfl;go_upto_region 31 with fail;refine zN ?_;refine lP mM D6.out.s (lC _) rfl (.tmp 3) rfl rfl ?_;simp only[Act.put,zQ,zZ,zJ];refine lE mM D6.out.o (lC _) (lC _) (nZ _) rfl (.tmp 6) (.tmp 141) rfl rfl rfl ?_;simp only[Act.put,zQ,zZ,zJ];have RE:=D6.out.o.store (cst {s with M:=⟨some ⟨gm,0,none⟩,K,cm⟩});have BZ:=lU D6.out.low (show w.heap.size≤g+1+1+1 by have:=D6.out.at_;omega) (cst {s with M:=⟨some ⟨gm,0,none⟩,K,cm⟩});have PZ:=RM.out.away (show(⟨gm,0,none⟩:Addr).block≠g+1+1+1 by have:=GM.out;simp only;omega) (w':=World.setRow w6 (g+1+1+1) (cst {s with M:=⟨some ⟨gm,0,none⟩,K,cm⟩})) zBD (fun k hk=>zA _ _ _ _ hk);exact zDT
theorem IV(N:Nat)(a:AS)(z:Sls)(x y n k:Nat)(nn addr len:Int)(q:Pr)(w:World)(H:RS N w z a)(O:OkA a)(hx:x<16)(hy:y<16)(hn:n<16)(hk:spN a.msk 33 x y n=k):
  Calls Tryz.prog 71 #[.agg (cst (mT a z)),.agg (lI ⟨33,x,y,n,nn,addr,len⟩),.agg (prc q)] w (vA N z (xP a 33 x y k q.ki) w):=by
 obtain⟨ad,c,eM,rM⟩:=H.M;obtain⟨K,hK⟩:∃K,K=65536:=⟨_,rfl⟩;rw[←hK]at eM;obtain⟨s,hs⟩:∃s,mT a z=s:=⟨_,rfl⟩;obtain⟨I,hI⟩:∃I,a.i=I:=⟨_,rfl⟩;have FA:=zW (show s.M=⟨some ad,K,c⟩∧s.i=I∧s.v=a.v from⟨by rw[←hs];exact eM,by rw[←hs];exact hI,by rw[←hs];rfl⟩);have SP:=zW fun w0=>rZ s 33 x y n a.msk nn addr len w0 zTR O.msk hx hy hn;have SL:=sI a.msk 33 hx hy hn;rw[hk]at SP SL;have RB:=zW (fun(w':World) (h:Below w.heap.size w w')=>uN ad K c a.M I k w' hK zRE (rM.step h) zB7 zB7 zBY);have RG:=zW (fun w'=>gC x y w' zBY zBY);have PU:=zW (fun(B:Option Addr) (m d:Nat) (L:List Int) (w':World) (h:Below w.heap.size w w') (rd:Rd w' B L) (hl:L.length=m) (hm:m≤1000)=>rB ad K c a.M I B m d L w' hK zRE (rM.step h) zB7 zB7 hl zBY rd);rw[hs];have HS:=zW hs;have HI:=zW hI;have RR:=zW H;have HK:=zW hK;have OV:=zW O.v;have OM:=zW O.M;have OB8:=zW O.B;have i0:0≤I:=by have:=O.i;omega
 have i1:I≤65535:=by have:=O.i;omega
 have KL:=zW (zY SL hk);have HX:=zW (zY hx (zY hy hn));have xi:(x:Int)<16:=zBY;have yi:(y:Int)<16:=zBY;have ki:(k:Int)≤128:=zBY;have D0:=zW (DQ.new w s vP ⟨33,x,y,n,nn,addr,len⟩ q);clear H O hx hy hn hk hs hI hK eM rM SL;go_enter Tryz.func71,Tryz.ntmps71;go_upto_region 0 with fail;refine zN ?_;refine mZ rfl _ (.tmp 0) rfl (cst s) rfl ?_;simp only[Act.put,zQ,zZ,zJ];refine mZ rfl _ (.tmp 1) rfl (lI ⟨33,x,y,n,nn,addr,len⟩) rfl ?_;simp only[Act.put,zQ,zZ,zJ,zR];refine mZ rfl _ (.tmp 2) rfl (prc q) rfl ?_;simp only[Act.put,zQ,zZ,zJ,zR];refine qL rfl fun K hK=>nF xI rfl (hK _ _ ?_);clear hK K;simp only[Act.put,zQ,zZ,zJ,zR];obtain⟨g,hg⟩:∃g,w.heap.size=g:=⟨_,rfl⟩;rw[hg]at D0⊢;generalize World.alloc (World.alloc (World.alloc (World.alloc _ _) _) _) _=w1 at D0⊢;clear hg;go_upto_region 1 with fail;refine zN ?_;refine lP mM D0.out.s (lC _) rfl (.tmp 3) rfl rfl ?_;simp only[Act.put,zQ,zZ,zJ];refine lP mN D0.out.i rfl rfl (.tmp 4) rfl rfl ?_;simp only[Act.put,zQ,zZ,zJ];go_wp2_with fail;refine(SP.out _).mono ?_;rintro e w2 ⟨rfl,b2⟩;have D2:=zW (D0.out.step b2);clear b2 D0;have c19:w2.cell? ⟨g,19,none⟩=some (.slice (some ad) K c):=((D2.out.s.cell 19).trans (nW _ 3)).trans zBA;have c16:w2.cell? ⟨g,16,none⟩=some (.int .i64 I):=((D2.out.s.cell 16).trans (nW _ 0)).trans zB4;go_wp2_with fail;refine(RB.out _ D2.out.low).mono ?_;rintro e w3 ⟨B,cb,rfl,ob,b3⟩;have OB:=zW (cV ob (show g+1+1+1+1≤w2.heap.size from D2.out.o.lt));have OBC:=zW (tD ob);have D3:=zW (D2.out.step b3);clear b3 ob D2 c19 c16;have x1:w3.cell? ⟨g+1,1,none⟩=some (.int .i64 (x:Int)):=(D3.out.i.cell 1).trans rfl;have x2:w3.cell? ⟨g+1,2,none⟩=some (.int .i64 (y:Int)):=(D3.out.i.cell 2).trans rfl;go_wp2_with fail;refine(RG.out _).mono ?_;rintro e w4 ⟨G,cg,rfl,og,b4⟩;have OB:=zW (nE OB.out b4);have OG:=zW (cV og (show g+1+1+1+1≤w3.heap.size from D3.out.o.lt));have D4:=zW (D3.out.step b4);clear b4 og D3 x1 x2 RG RB SP;have x0:w4.cell? ⟨g+1,0,none⟩=some (.int .i64 33):=(D4.out.i.cell 0).trans rfl;have x1:w4.cell? ⟨g+1,1,none⟩=some (.int .i64 (x:Int)):=(D4.out.i.cell 1).trans rfl;have ME0:=zW (show q.ki=false→xP a 33 x y k q.ki={a with M:=put a.M I (vN a.v k),i:=(I+(k:Int))%65536}from fun h=>by
  unfold xP sF;rw[h,zG ⟨.inl rfl,rfl⟩,zL zBH,zG rfl,HI.out])
 have ME1:=zW (show q.ki=true→xP a 33 x y k q.ki={a with M:=put a.M I (vN a.v k)}from fun h=>by
  unfold xP sF;rw[h,zL (fun h=>by cases h.2),zL zBH,zG rfl,HI.out])
 have kk:k≤16:=by have:=KL.out.2;unfold spN at this;simp at this;have:=HX.out;omega
 have FR:=zW (fun w'=>(show _ from FA.out.2.2▸KH s k w' kk));have KK:=zW kk;clear kk;go_upto_region 9 with fail;clear x0 x1;have c19:w4.cell? ⟨g,19,none⟩=some (.slice (some ad) K c):=((D4.out.s.cell 19).trans (nW _ 3)).trans zBA;have c16:w4.cell? ⟨g,16,none⟩=some (.int .i64 I):=((D4.out.s.cell 16).trans (nW _ 0)).trans zB4;have k19:=mH.cell c19 D4.out.s.lt;have k16:=mH.cell c16 D4.out.s.lt;have FS:=zW (fun w' (hw:∃u:mH w4,w'=u.w)=>(show Blk g 43 (cst s) w' from by obtain⟨u,rfl⟩:=hw;exact D4.out.s.step u.below));refine mX (C:=fun w'=>∃u:mH w4,w'=u.w) 9 [([0,1,2,3,4,5],6,false),([],7,false)] [8] [] zBM zBM ?_ ?_ ⟨⟨w4.drew,(zB _ _).drew⟩,rfl⟩ ?_
 ·exact zT8
 ·exact zT0
 intro wd hwd;have bd:=zW (show Below w4.heap.size w4 wd by rw[hwd];exact(zB _ _).drew);clear hwd;refine vW zBN zBG ?_;repeat(first
  |(refine l9 mM FS.out (lC _) ?_ (.tmp 3) ?_ ?_ ?_;(focus rfl);(focus rfl);(focus(simp[Act.eval];done));simp only[Act.put,zQ,zZ,zJ])
  |go_big_quiet_step (rfl))
 refine zM ?_
 refine vV rfl ?_;intro w5 g5 C5 K7 hK;obtain⟨u5,rfl⟩:=C5;refine mF (g:=154) (caps:=#[]) (args:=#[.agg (cst s),.int .i64 (k:Int)]) (.func 154) #[.tmp 58,.tmp 59] #[43,3] rfl (enters_of Tryz.func154 zBM rfl) rfl zBR ?_;refine(FR.out _).mono ?_;rintro e w6 ⟨A5,c5,rfl,o5,b6⟩;have D6:=zW ((D4.out.step u5.below).step b6);have O6:=zW o5;have B6:=zW (u5.below.trans (b6.mono u5.below.size));refine⟨_,rfl,?_⟩;refine hK _ _ ⟨⟨w6,B6.out⟩,rfl⟩ ?_;clear hK K7 o5 b6 g5;simp only[Act.put,zQ,zZ,zJ];refine vW zBN zBG ?_;refine zM ?_;refine vV rfl ?_;intro w7 g7 C7 K7 hK;obtain⟨u7,rfl⟩:=C7;have D7:=zW (D6.out.step g7);refine mF (g:=153) (caps:=#[]) (args:=#[.slice (some ad) K c,.int .i64 I,.slice A5 k c5]) (.func 153) #[.tmp 55,.tmp 57,.tmp 60] #[22,3,22] rfl (enters_of Tryz.func153 zBM rfl) rfl zBR ?_;refine(PU.out A5 k c5 (vN a.v k) _ D7.out.low (wE (nE O6.out g7)) (bB _ _) (by have:=KK.out;omega)).mono ?_;intro e w5 h5;obtain⟨gm,cm,rfl,hgm,hlm,om,b5⟩:=wK.bytes h5 (show(put a.M I (vN a.v k)).length=K by rw[cE,OM.out,HK.out]) (by rw[HK.out];decide);have GM:=zW (show g+1+1+1<gm from zS D7.out.o.lt hgm);have RM:=zW (show Rm ⟨gm,0,none⟩ (put a.M I (vN a.v k)) w5 from⟨hlm,ZW om⟩);have D5:=zW (D7.out.step b5);have B7:=zW (u7.below.trans (b5.mono u7.below.size));clear hgm hlm h5 om b5;refine⟨_,rfl,?_⟩;refine hK _ _ ⟨⟨w5,B7.out⟩,rfl⟩ ?_;clear hK K7 g7;simp only[Act.put,zQ,zZ,zJ];refine mE zBN zBG ?_;repeat(go_big_quiet_step (rfl))
 refine zM ?_;refine mC rfl ?_;intro w8 g8 C8 K7 hK;obtain⟨u8,rfl⟩:=C8;have D5:=zW (D5.out.step g8);have RM:=zW (RM.out.step g8);refine bA D5.out.s 19 (.slice (some ⟨gm,0,none⟩) K cm) zBM rfl zB2 (.tmp 62) (.tmp 61) rfl rfl rfl ?_;refine hK _ _ ?_;clear hK K7;simp only[Act.put,zQ,zZ,zJ];simp only[lA];refine zM ?_;intro w9 g9;have D6:=zW (D5.out.put 19 (.slice (some ⟨gm,0,none⟩) K cm) (ZT s ⟨some ⟨gm,0,none⟩,K,cm⟩));have RM:=zW (RM.out.away (show(⟨gm,0,none⟩:Addr).block≠g by have:=GM.out;simp only;omega) (w':=World.setCell u8.w ⟨g,19,none⟩ (.slice (some ⟨gm,0,none⟩) K cm)) zB3 (fun k hk=>qQ _ _ _ _ hk));have D6:=zW (D6.out.step g9);have RM:=zW (RM.out.step g9);clear g9 g8;have x0:w9.cell? ⟨g+1,0,none⟩=some (.int .i64 33):=(D6.out.i.cell 0).trans rfl;clear k19 k16 c19 c16 FS O6 D7 D5 bd;go_upto_region 29 with fail;have c2:w9.cell? ⟨g+1+1,2,none⟩=some (.bool q.ki):=(D6.out.p.cell 2).trans rfl;cases hq:q.ki
 ·rw[hq]at c2;have ME:=zW (ME0.out hq);obtain⟨r,hr⟩:∃r:Nat,(I+(k:Int))%65536=(r:Int):=⟨((I+(k:Int))%65536).toNat,by omega⟩;have MD:=zW (fun w'=>dX (I+(k:Int)) r w' hr);have HR:=zW hr;clear hr hq;go_upto_region 30 with fail;have c16:w9.cell? ⟨g,16,none⟩=some (.int .i64 I):=((D6.out.s.cell 16).trans (nW _ 0)).trans (by rw[show(uI {s with M:=⟨some ⟨gm,0,none⟩,K,cm⟩})[0]?=some (.int .i64 s.i)from rfl,FA.out.2.1]);have f16:=D6.out.s.frozen 16;go_wp2_with fail;refine(MD.out _).mono ?_;rintro e w7 ⟨rfl,rfl⟩;go_upto_region 31 with fail;clear c16 f16 x0 c2;have D8:=zW (D6.out.put 16 (.int .i64 (r:Int)) (rX _ (r:Int)));have RM:=zW (RM.out.away (show(⟨gm,0,none⟩:Addr).block≠g by have:=GM.out;simp only;omega) (w':=World.setCell w9 ⟨g,16,none⟩ (.int .i64 (r:Int))) zB3 (fun k hk=>qQ _ _ _ _ hk));generalize World.setCell _ _ _=w8 at D8 RM⊢;go_upto_region 31 with fail;refine zN ?_;refine lP mM D8.out.s (lC _) rfl (.tmp 3) rfl rfl ?_;simp only[Act.put,zQ,zZ,zJ];refine lE mM D8.out.o (lC _) (lC _) (nZ _) rfl (.tmp 6) (.tmp 141) rfl rfl rfl ?_;simp only[Act.put,zQ,zZ,zJ];have RE:=D8.out.o.store (cst {{s with M:=⟨some ⟨gm,0,none⟩,K,cm⟩}with i:=(r:Int)});have BZ:=lU D8.out.low (show w.heap.size≤g+1+1+1 by have:=D8.out.at_;omega) (cst {{s with M:=⟨some ⟨gm,0,none⟩,K,cm⟩}with i:=(r:Int)});have PZ:=RM.out.away (show(⟨gm,0,none⟩:Addr).block≠g+1+1+1 by have:=GM.out;simp only;omega) (w':=World.setRow w8 (g+1+1+1) (cst {{s with M:=⟨some ⟨gm,0,none⟩,K,cm⟩}with i:=(r:Int)})) zBD (fun k hk=>zA _ _ _ _ hk);generalize World.setRow _ _ _=wz at RE BZ PZ⊢;go_wp2_with fail;iterate 4 (try go_step)
  exact zT (zF rfl _ _ (g+1+1+1) _ _ _ _ rfl RE Tryz.underlying43 rfl zBU) rfl (vA.mk {z with M:=⟨some ⟨gm,0,none⟩,65536,cm⟩} (by rw[ME.out,HR.out,HK.out,←HS.out];rfl) (by rw[ME.out,HR.out];exact(RR.out.step BZ).setMi PZ _) BZ ⟨.inl ⟨rfl,zH _⟩,rfl,rfl,.inr (fun _ e=>by cases e;have:=GM.out;have:=D8.out.at_;simp only;omega),.inl rfl,.inl rfl,.inl rfl⟩)
 ·rw[hq]at c2;have ME:=zW (ME1.out hq);clear hq;go_upto_region 31 with fail;clear x0 c2;go_upto_region 31 with fail;refine zN ?_;refine lP mM D6.out.s (lC _) rfl (.tmp 3) rfl rfl ?_;simp only[Act.put,zQ,zZ,zJ];refine lE mM D6.out.o (lC _) (lC _) (nZ _) rfl (.tmp 6) (.tmp 141) rfl rfl rfl ?_;simp only[Act.put,zQ,zZ,zJ];have RE:=D6.out.o.store (cst {s with M:=⟨some ⟨gm,0,none⟩,K,cm⟩});have BZ:=lU D6.out.low (show w.heap.size≤g+1+1+1 by have:=D6.out.at_;omega) (cst {s with M:=⟨some ⟨gm,0,none⟩,K,cm⟩});have PZ:=RM.out.away (show(⟨gm,0,none⟩:Addr).block≠g+1+1+1 by have:=GM.out;simp only;omega) (w':=World.setRow w9 (g+1+1+1) (cst {s with M:=⟨some ⟨gm,0,none⟩,K,cm⟩})) zBD (fun k hk=>zA _ _ _ _ hk);exact zDT
theorem IK(N:Nat)(a:AS)(z:Sls)(x y n k:Nat)(nn addr len:Int)(q:Pr)(w:World)(H:RS N w z a)(O:OkA a)(hx:x<16)(hy:y<16)(hn:n<16)(hk:spN a.msk 34 x y n=k):
  Calls Tryz.prog 71 #[.agg (cst (mT a z)),.agg (lI ⟨34,x,y,n,nn,addr,len⟩),.agg (prc q)] w (vA N z (xP a 34 x y k q.ki) w):=by
 obtain⟨ad,c,eM,rM⟩:=H.M;obtain⟨K,hK⟩:∃K,K=65536:=⟨_,rfl⟩;rw[←hK]at eM;obtain⟨s,hs⟩:∃s,mT a z=s:=⟨_,rfl⟩;obtain⟨I,hI⟩:∃I,a.i=I:=⟨_,rfl⟩;have FA:=zW (show s.M=⟨some ad,K,c⟩∧s.i=I∧s.v=a.v from⟨by rw[←hs];exact eM,by rw[←hs];exact hI,by rw[←hs];rfl⟩);have SP:=zW fun w0=>rZ s 34 x y n a.msk nn addr len w0 zTR O.msk hx hy hn;have SL:=sI a.msk 34 hx hy hn;rw[hk]at SP SL;have RB:=zW (fun(w':World) (h:Below w.heap.size w w')=>uN ad K c a.M I k w' hK zRE (rM.step h) zB7 zB7 zBY);have RG:=zW (fun w'=>gC x y w' zBY zBY);have PU:=zW (fun(B:Option Addr) (m d:Nat) (L:List Int) (w':World) (h:Below w.heap.size w w') (rd:Rd w' B L) (hl:L.length=m) (hm:m≤1000)=>rB ad K c a.M I B m d L w' hK zRE (rM.step h) zB7 zB7 hl zBY rd);rw[hs];have HS:=zW hs;have HI:=zW hI;have RR:=zW H;have HK:=zW hK;have OV:=zW O.v;have OM:=zW O.M;have OB8:=zW O.B;have i0:0≤I:=by have:=O.i;omega
 have i1:I≤65535:=by have:=O.i;omega
 have KL:=zW (zY SL hk);have HX:=zW (zY hx (zY hy hn));have xi:(x:Int)<16:=zBY;have yi:(y:Int)<16:=zBY;have ki:(k:Int)≤128:=zBY;have D0:=zW (DQ.new w s vP ⟨34,x,y,n,nn,addr,len⟩ q);clear H O hx hy hn hk hs hI hK eM rM SL;go_enter Tryz.func71,Tryz.ntmps71;go_upto_region 0 with fail;refine zN ?_;refine mZ rfl _ (.tmp 0) rfl (cst s) rfl ?_;simp only[Act.put,zQ,zZ,zJ];refine mZ rfl _ (.tmp 1) rfl (lI ⟨34,x,y,n,nn,addr,len⟩) rfl ?_;simp only[Act.put,zQ,zZ,zJ,zR];refine mZ rfl _ (.tmp 2) rfl (prc q) rfl ?_;simp only[Act.put,zQ,zZ,zJ,zR];refine qL rfl fun K hK=>nF xI rfl (hK _ _ ?_);clear hK K;simp only[Act.put,zQ,zZ,zJ,zR];obtain⟨g,hg⟩:∃g,w.heap.size=g:=⟨_,rfl⟩;rw[hg]at D0⊢;generalize World.alloc (World.alloc (World.alloc (World.alloc _ _) _) _) _=w1 at D0⊢;clear hg;go_upto_region 1 with fail;refine zN ?_;refine lP mM D0.out.s (lC _) rfl (.tmp 3) rfl rfl ?_;simp only[Act.put,zQ,zZ,zJ];refine lP mN D0.out.i rfl rfl (.tmp 4) rfl rfl ?_;simp only[Act.put,zQ,zZ,zJ];go_wp2_with fail;refine(SP.out _).mono ?_;rintro e w2 ⟨rfl,b2⟩;have D2:=zW (D0.out.step b2);clear b2 D0;have c19:w2.cell? ⟨g,19,none⟩=some (.slice (some ad) K c):=((D2.out.s.cell 19).trans (nW _ 3)).trans zBA;have c16:w2.cell? ⟨g,16,none⟩=some (.int .i64 I):=((D2.out.s.cell 16).trans (nW _ 0)).trans zB4;go_wp2_with fail;refine(RB.out _ D2.out.low).mono ?_;rintro e w3 ⟨B,cb,rfl,ob,b3⟩;have OB:=zW (cV ob (show g+1+1+1+1≤w2.heap.size from D2.out.o.lt));have OBC:=zW (tD ob);have D3:=zW (D2.out.step b3);clear b3 ob D2 c19 c16;have x1:w3.cell? ⟨g+1,1,none⟩=some (.int .i64 (x:Int)):=(D3.out.i.cell 1).trans rfl;have x2:w3.cell? ⟨g+1,2,none⟩=some (.int .i64 (y:Int)):=(D3.out.i.cell 2).trans rfl;go_wp2_with fail;refine(RG.out _).mono ?_;rintro e w4 ⟨G,cg,rfl,og,b4⟩;have OB:=zW (nE OB.out b4);have OG:=zW (cV og (show g+1+1+1+1≤w3.heap.size from D3.out.o.lt));have D4:=zW (D3.out.step b4);clear b4 og D3 x1 x2 RG RB SP;have x0:w4.cell? ⟨g+1,0,none⟩=some (.int .i64 34):=(D4.out.i.cell 0).trans rfl;have x1:w4.cell? ⟨g+1,1,none⟩=some (.int .i64 (x:Int)):=(D4.out.i.cell 1).trans rfl;have ME0:=zW (show q.ki=false→xP a 34 x y k q.ki={a with v:=ldN a.v (upL 0 k) (byC a.M I) k,i:=(I+(k:Int))%65536}from fun h=>by
  unfold xP sF;rw[h,zG ⟨.inr rfl,rfl⟩,zL zBH,zL zBH,zG rfl,HI.out])
 have ME1:=zW (show q.ki=true→xP a 34 x y k q.ki={a with v:=ldN a.v (upL 0 k) (byC a.M I) k}from fun h=>by
  unfold xP sF;rw[h,zL (fun h=>by cases h.2),zL zBH,zL zBH,zG rfl,HI.out])
 have kk:k≤16:=by have:=KL.out.2;unfold spN at this;simp at this;have:=HX.out;omega
 have KK:=zW kk;have BY:=zW (show∀j,j<k→∀u:World,u.ownsRow (g+1+1+1+1) 5 1 (.slice B k cb) k ((seg a.M I k).map (Value.int .u8))→∃ad2,B=some ad2∧u.cell? (ad2.add j)=some (.int .u8 (byC a.M I j:Int))from fun j hj u h=>by
  have h1:j<(seg a.M I k).length:=by rw[xU];exact hj
  obtain⟨ad2,eA,_,hc⟩:=wE h (by intro e;rw[e]at h1;cases h1);have h2:=o7 OB8.out OM.out I k j hj;rw[zP h1]at h2;exact⟨ad2,eA,by rw[hc j h1,qU h2]⟩)
 clear kk;have E0:cst s=cst {s with v:=ldN a.v (upL 0 k) (byC a.M I) 0}:=by rw[show ldN a.v (upL 0 k) (byC a.M I) 0=s.v from FA.out.2.2.symm]
 have D5:=zW (show DQ w g {s with v:=ldN a.v (upL 0 k) (byC a.M I) 0} vP ⟨34,x,y,n,nn,addr,len⟩ q w4 from⟨E0▸D4.out.s,D4.out.i,D4.out.p,D4.out.o,D4.out.low,D4.out.at_⟩);clear E0 D4 OG PU;have cb1:k≤cb:=OBC.out;go_upto_region 11 with fail;clear x0 x1;go_wp2;go_loopw [11] (fun i wr=>∃j:Nat,j≤k∧i=.int .i64 (j:Int)∧DQ w g {s with v:=ldN a.v (upL 0 k) (byC a.M I) j} vP ⟨34,x,y,n,nn,addr,len⟩ q wr∧wr.ownsRow (g+1+1+1+1) 5 1 (.slice B k cb) k ((seg a.M I k).map (Value.int .u8))) (fun i _=>k-(intOf i).toNat)
 case atStart=>exact⟨0,qE _,rfl,D5.out,OB.out⟩
 case round=>
  clear D5 OB
  obtain⟨j,hj,rfl,d,ob⟩:=hrel
  have D5:=zW d
  have OB:=zW ob
  clear d ob
  by_cases hlt:j<k
  ·have j16:j<16:=by have:=KK.out;omega
   have jI:(j:Int)<(k:Int):=zBY
   have j16I:(j:Int)<16:=zBY
   obtain⟨ad2,eB,cB⟩:=BY.out j hlt _ OB.out
   have c5:=(D5.out.s.cell j).trans (wJ _ j16)
   have f5:=D5.out.s.frozen j
   subst eB
   have HJ:=zW (zY hlt j16)
   have NB:=zW (vY OB.out D5.out.s zBH)
   obtain⟨bv,hbv⟩:∃bv,byC a.M I j=bv:=⟨_,rfl⟩
   have HB:=zW hbv
   rw[hbv]at cB
   clear hbv hj
   go_wp2
   clear c5 f5 cB
   have D6:=zW (D5.out.putv j16 bv)
   have OB:=zW (vG (g:=none) OB.out (nC.setCell j (.int .u8 (bv:Int))) NB.out (fun _ e=>by cases e))
   go_roundw
   case rel=>exact⟨j+1,HJ.out.1,by go_num,by
    have e:ldN a.v (upL 0 k) (byC a.M I) (j+1)=Cpu.upd (ldN a.v (upL 0 k) (byC a.M I) j) j bv:=by
     have:=HJ.out.1;show Cpu.upd _ _ _=_;rw[HB.out,show((upL 0 k).getD j 0).toNat=j by simp[upL,this]]
    rw[e]
    exact D6.out,OB.out⟩
   case measure=>simp[intOf];have:=HJ.out.1;omega
  ·obtain rfl:k=j:=by omega
   have jI:¬(k:Int)<(k:Int):=zBY
   clear hlt hj
   have x0:wr.cell? ⟨g+1,0,none⟩=some (.int .i64 34):=(D5.out.i.cell 0).trans rfl
   go_upto_region 29 with fail
   clear OB jI BY cb1
   have c2:wr.cell? ⟨g+1+1,2,none⟩=some (.bool q.ki):=(D5.out.p.cell 2).trans rfl
   cases hq:q.ki
   ·rw[hq]at c2
    have ME:=zW (ME0.out hq)
    obtain⟨r,hr⟩:∃r:Nat,(I+(k:Int))%65536=(r:Int):=⟨((I+(k:Int))%65536).toNat,by omega⟩
    have MD:=zW (fun w'=>dX (I+(k:Int)) r w' hr)
    have HR:=zW hr
    clear hr hq
    go_upto_region 30 with fail
    have c16:wr.cell? ⟨g,16,none⟩=some (.int .i64 I):=((D5.out.s.cell 16).trans (nW _ 0)).trans (by rw[show(uI {s with v:=ldN a.v (upL 0 k) (byC a.M I) k})[0]?=some (.int .i64 s.i)from rfl,FA.out.2.1])
    have f16:=D5.out.s.frozen 16
    go_wp2_with fail
    refine(MD.out _).mono ?_
    rintro e w7 ⟨rfl,rfl⟩
    go_upto_region 31 with fail
    clear c16 f16 x0 c2
    have D8:=zW (D5.out.put 16 (.int .i64 (r:Int)) (rX _ (r:Int)))
    generalize World.setCell _ _ _=w8 at D8⊢
    go_upto_region 31 with fail
    refine zN ?_
    refine lP mM D8.out.s (lC _) rfl (.tmp 3) rfl rfl ?_
    simp only[Act.put,zQ,zZ,zJ]
    refine lE mM D8.out.o (lC _) (lC _) (nZ _) rfl (.tmp 6) (.tmp 141) rfl rfl rfl ?_
    simp only[Act.put,zQ,zZ,zJ]
    have RE:=D8.out.o.store (cst {{s with v:=ldN a.v (upL 0 k) (byC a.M I) k}with i:=(r:Int)})
    have BZ:=lU D8.out.low (show w.heap.size≤g+1+1+1 by have:=D8.out.at_;omega) (cst {{s with v:=ldN a.v (upL 0 k) (byC a.M I) k}with i:=(r:Int)})
    generalize World.setRow _ _ _=wz at RE BZ⊢
    go_wp2_with fail
    iterate 4 (try go_step)
    exact zT (zF rfl _ _ (g+1+1+1) _ _ _ _ rfl RE Tryz.underlying43 rfl zBU) rfl (vA.mk z (by rw[ME.out,HR.out,←HS.out];rfl) (by rw[ME.out,HR.out];exact(RR.out.step BZ).nums _ _ _ _ _ _ _ _ _) BZ ⟨.inl ⟨rfl,zH _⟩,rfl,rfl,.inl rfl,.inl rfl,.inl rfl,.inl rfl⟩)
   ·rw[hq]at c2
    have ME:=zW (ME1.out hq)
    clear hq
    go_upto_region 31 with fail
    clear x0 c2
    go_upto_region 31 with fail
    refine zN ?_
    refine lP mM D5.out.s (lC _) rfl (.tmp 3) rfl rfl ?_
    simp only[Act.put,zQ,zZ,zJ]
    refine lE mM D5.out.o (lC _) (lC _) (nZ _) rfl (.tmp 6) (.tmp 141) rfl rfl rfl ?_
    simp only[Act.put,zQ,zZ,zJ]
    have RE:=D5.out.o.store (cst {s with v:=ldN a.v (upL 0 k) (byC a.M I) k})
    have BZ:=lU D5.out.low (show w.heap.size≤g+1+1+1 by have:=D5.out.at_;omega) (cst {s with v:=ldN a.v (upL 0 k) (byC a.M I) k})
    generalize World.setRow _ _ _=wz at RE BZ⊢
    go_wp2_with fail
    iterate 4 (try go_step)
    exact zT (zF rfl _ _ (g+1+1+1) _ _ _ _ rfl RE Tryz.underlying43 rfl zBU) rfl (vA.mk z (by rw[ME.out,←HS.out];rfl) (by rw[ME.out];exact(RR.out.step BZ).nums _ _ _ _ _ _ _ _ _) BZ ⟨.inl ⟨rfl,zH _⟩,rfl,rfl,.inl rfl,.inl rfl,.inl rfl,.inl rfl⟩)
end
end Go.Proofs.YtcjldabaekbdlaaGreatDoor
