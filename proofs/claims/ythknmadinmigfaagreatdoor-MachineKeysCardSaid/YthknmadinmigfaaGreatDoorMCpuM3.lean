/- CpuM3. -/
import Derived.Test.YthknmadinmigfaaGreatDoorMk3a
set_option maxRecDepth 400000
set_option maxHeartbeats 64000000
set_option linter.unusedVariables false
set_option linter.unusedSimpArgs false
namespace Go.Proofs.YthknmadinmigfaaGreatDoor
section
open Go.RowKit Num Dec Cpu
theorem dZ:nB Tryz.prog 48 (mH []):=by unfold nB;kernel_rfl
theorem zQ7{M:List Int}(B:Bts M)(hM:M.length=65536)(a:Int)(j:Nat):M[((a+(j:Int))%65536).toNat]?=some ((byC M a j:Nat):Int):=by
 have h:((a+(j:Int))%65536).toNat<M.length:=zYX;have h2:=B _ h;unfold byC;rw[qJ,zP h,Option.getD_some,Int.toNat_of_nonneg h2.1]
theorem zX4(ks:List Ev)(c:Nat):zX5 (dnA ks) (c:Int)=dn ks ((c%16:Nat):Int):=by
 unfold zX5 dnA;rw[qZ (qW c),Bool.true_and];congr 1
theorem t7{cs:Array Value}{n:Nat}(h:cs.size=n):cs.extract 0 (0+n)=cs:=by subst h;simp
def skP(a:AS)(pc:Int)(t:Bool)(lv:Int):Int:=if t=true then(pc+skl (byC a.M pc 0) (byC a.M pc 1) lv)%65536 else pc
theorem skl_bd(h l:Nat)(lv:Int):0≤skl h l lv∧skl h l lv≤4:=by unfold skl;split<;>omega
section
variable {base:Nat} {lg:Lg} {b m g rb:Nat} {v:Value} {a:AS} {op:Int} {x y n nn:Nat} {ad ln:Int} {q:Pr} {pc:Int} {f:Ef} {w:World}
theorem KY(X:XR base lg b m g rb v a ⟨op,x,y,n,nn,ad,ln⟩ q pc f w)(t:Bool)(O:OkA a)(hp:0≤pc∧pc≤65535):Calls Tryz.prog 121 #[.pointer (some ⟨rb,0,none⟩),.bool t] w (Did base lg b m g rb v ⟨op,x,y,n,nn,ad,ln⟩ q w (a) (skP a pc t q.lv) (f)):=by
 have D:=zW (DD.refl X);cases t
 ·go_enter Tryz.func121,Tryz.ntmps121;go_wp2_with fail;go_end0
  exact⟨rfl,_,D.out⟩
 ·have r0:=X.rk 0 (.pointer (some ⟨b,0,none⟩)) rfl;have r16:=X.rk 16 (.int .i64 pc) rfl;have s35:=X.sk 35 _ (mX _ m g zYX);rw[gF]at s35;obtain⟨h,hh⟩:∃h,byC a.M pc 0=h:=⟨_,rfl⟩;obtain⟨l,hl⟩:∃l,byC a.M pc 1=l:=⟨_,rfl⟩;have e0:=zQ7 O.B O.M pc 0;have e1:=zQ7 O.B O.M pc 1;rw[hh]at e0;rw[hl]at e1;have R1:=zW (fun(u:lB w)=>(LQ m a.M v pc (h:Int) ((pc+((0:Nat):Int))%65536).toNat u.w O.M (X.step u.below).rc.mem zYX e0).mono (fun e w' r=>(show e=.returned (.int .u8 (h:Int))∧Below u.w.heap.size u.w w' from by obtain⟨r1,k,r2⟩:=r;exact⟨r1,by rw[r2];exact below_drewN (zG _ _) k⟩)));have R2:=zW (fun(u:lB w)=>(LQ m a.M v (pc+1) (l:Int) ((pc+((1:Nat):Int))%65536).toNat u.w O.M (X.step u.below).rc.mem zYX e1).mono (fun e w' r=>(show e=.returned (.int .u8 (l:Int))∧Below u.w.heap.size u.w w' from by obtain⟨r1,k,r2⟩:=r;exact⟨r1,by rw[r2];exact below_drewN (zG _ _) k⟩)));have wr:IntKind.i64.wrap (pc+1)=pc+1:=by rw[zU];omega
  have HP:=zW hp;rw[show skP a pc true q.lv=(pc+skl h l q.lv)%65536 from by unfold skP;rw[zN rfl,hh,hl]];have SL:=zW (fun w=>dW h l q.lv w);have hb:=skl_bd h l q.lv;generalize skl h l q.lv=z at*;have HZ:=zW hb;clear X O hp e0 e1 hh hl hb;go_enter Tryz.func121,Tryz.ntmps121;go_upto_region 1 with fail;refine mW zYV zYV ?_;iterate 11 (go_big_quiet_step (fail))
  go_big_quiet_step ((go_at_call 162;exact mG (R1.out _)))
  iterate 12 (go_big_quiet_step (fail))
  go_big_quiet_step ((go_at_call 162;exact mG (R2.out _)))
  iterate 2 (go_big_quiet_step (fail))
  refine zY ?_;intro _ hw';obtain⟨x',rfl⟩:=hw';have b1:=x'.below;generalize x'.w=w1 at*;clear r0 r16 s35 R1 R2 wr;have D:=zW (D.out.step b1);clear b1;have r8:=D.out.x.rk 8 (.int .i64 q.lv) rfl;have r16:=D.out.x.rk 16 (.int .i64 pc) rfl;have wr:IntKind.i64.wrap (pc+z)=pc+z:=by have h1:=HZ.out;have h2:=HP.out;rw[zU];omega
  have WR:=zW (fun w=>tB (pc+z) w);go_upto_region 2 with fail;refine lY (C:=fun w'=>∃u:lB w1,w'=u.w) 17 [([0,1,2,3,4,5,6,7,8,9,10,11],12,true),([13],14,true)] [15,16] [] zYV zYV ?_ ?_ ⟨⟨w1.drew,(zG _ _).drew⟩,rfl⟩ ?_
  ·exact zLB
  ·exact zLL
  intro wd hwd;clear hwd;refine lA zYW zYL ?_;iterate 12 (go_big_quiet_step (fail))
  refine zY ?_;refine lU (v:=.int .i64 z) (mT (g:=82) (caps:=#[]) (args:=#[.int .u8 (h:Int),.int .u8 (l:Int),.int .i64 q.lv]) (.func 82) _ _ rfl rfl (enters_of Tryz.func82 zYV rfl) (fun w' hw=>by obtain⟨u,rfl⟩:=hw;exact(SL.out u.w).mono fun e w'' h=>⟨h.1,by rw[←h.2];exact Gr.refl _⟩) rfl zYK) ?_;simp only[Act.put,zQ,zZ,zJ];refine lA zYW zYL ?_;iterate 1 (go_big_quiet_step (fail))
  refine zY ?_;refine lU (v:=.int .i64 ((pc+z)%65536)) (mT (g:=71) (caps:=#[]) (args:=#[.int .i64 (pc+z)]) (.func 71) _ _ rfl rfl (enters_of Tryz.func71 zYV rfl) (fun w' hw=>by obtain⟨u,rfl⟩:=hw;exact(WR.out u.w).mono fun e w'' h=>⟨h.1,by rw[←h.2];exact Gr.refl _⟩) rfl zYK) ?_;simp only[Act.put,zQ,zZ,zJ];refine lS zYW zYL ?_;iterate 2 (go_big_quiet_step (fail))
  refine zY ?_;refine lP rfl ?_;intro w5 g5 C5 K hK;obtain⟨u5,rfl⟩:=C5;have D5:=zW (D.out.step u5.below);have cc:=D5.out.x.r.cell 16;have fc:=D5.out.x.r.frozen 16;go_wp2_with fail;have D:=zW (D5.out.rput (pc':=(pc+z)%65536) (f':=f) 16 (.int .i64 ((pc+z)%65536)) (rfl));exact zM1
theorem gD(X:XR base lg b m g rb v a ⟨op,x,y,n,nn,ad,ln⟩ q pc f w)(O:OkA a)(hp:0≤pc∧pc≤65535)(hx:x<16)(hy:y<16)(hn:nn<256):Calls Tryz.prog 84 #[.pointer (some ⟨rb,0,none⟩)] w (Did base lg b m g rb v ⟨op,x,y,n,nn,ad,ln⟩ q w (a) (skP a pc (skB a.v ⟨op,x,y,n,nn,ad,ln⟩) q.lv) (f)):=by
 have D:=zW (DD.refl X);have SB:=zW (lN X.rc.st);have RBh:=zW (lN X.r);have r0:=X.rk 0 (.pointer (some ⟨b,0,none⟩)) rfl;have SK:=zW (fun w=>fV.sk a.v op x y nn n ad ln w O.v hx hy hn);have OO:=zW (zM O hp);clear X O hp;go_enter Tryz.func84,Tryz.ntmps84;go_upto_region 0 with fail;refine mW zYV zYV ?_;iterate 6 (go_big_quiet_step (fail))
 refine lL (o:=0) zZG SB.out zYB rfl (.tmp 10) rfl zYK ?_;rw[RM];simp only[Act.put,zQ,zZ,zJ];iterate 3 (go_big_quiet_step (fail))
 refine lL (o:=1) uH RBh.out (by show _≤21;decide) rfl (.tmp 14) rfl zYK ?_;rw[IR];simp only[Act.put,zQ,zZ,zJ];go_big_quiet_step ((go_at_call 120;exact mG (SK.out _)))
 iterate 5 (go_big_quiet_step (fail))
 refine zY ?_;intro _ hw';obtain⟨x',rfl⟩:=hw';have b1:=x'.below;generalize x'.w=w1 at*;clear r0 SK SB RBh;have D:=zW (D.out.step b1);clear b1;go_wp2_with fail;refine(KY D.out.x (skB a.v ⟨op,x,y,n,nn,ad,ln⟩) OO.out.1 OO.out.2).mono ?_;rintro e w2 ⟨rfl,v',D2h⟩;have D:=zW (D.out.then D2h);clear D2h;go_wp2_with fail;go_end0
 exact⟨rfl,v',D.out⟩
theorem oQ(X:XR base lg b m g rb v a ⟨op,x,y,n,nn,ad,ln⟩ q pc f w)(O:OkA a)(hp:0≤pc∧pc≤65535)(hx:x<16):Calls Tryz.prog 85 #[.pointer (some ⟨rb,0,none⟩)] w (Did base lg b m g rb v ⟨op,x,y,n,nn,ad,ln⟩ q w (a) (skP a pc (dn a.ks ((a.v x%16:Nat):Int)==(op==24)) q.lv) (f)):=by
 have D:=zW (DD.refl X);have SB:=zW (lN X.rc.st);have RBh:=zW (lN X.r);have VX:=zW (fun(u:lB w)=>eK (X.step u.below) hx);have r0:=X.rk 0 (.pointer (some ⟨b,0,none⟩)) rfl;have r1:=X.rk 1 (.int .i64 op) rfl;have sx:=X.vk hx;have hv:=O.v x hx;have v0:(0:Int)≤(a.v x:Int):=qW _;have v1:(a.v x:Int)<256:=zYX;have ID:=zW (fun w=>zX4 a.ks (a.v x)▸VK (dnA a.ks) (a.v x:Int) w zYX);have OO:=zW (zM O hp);clear X O hp hv;go_enter Tryz.func85,Tryz.ntmps85;refine lY (C:=fun w'=>∃u:lB w,w'=u.w) 21 [([0,1,2,3,4,5,6,7,8,14,15,16,17,18,19],9,true),([10,11,12],13,true)] [20] [] zYV zYV ?_ ?_ ⟨⟨w.drew,(zG _ _).drew⟩,rfl⟩ ?_
 ·exact zLB
 ·exact zLL
 intro wd hwd;clear hwd;refine lA zYW zYL ?_;iterate 7 (go_big_quiet_step (fail))
 refine lL (o:=550) zWN SB.out zYB rfl (.tmp 8) rfl zYK ?_;rw[pC];simp only[Act.put,zQ,zZ,zJ];iterate 7 (go_big_quiet_step (fail))
 refine zY ?_;refine lU (v:=.pointer (some ⟨b,x,none⟩)) (mT (g:=123) (caps:=#[]) (args:=#[.pointer (some ⟨rb,0,none⟩)]) (.func 123) _ _ rfl rfl (enters_of Tryz.func123 zYV rfl) (fun w' hw=>by obtain⟨u,rfl⟩:=hw;exact VX.out u) rfl zYK) ?_;simp only[Act.put,zQ,zZ,zJ];refine lA zYW zYL ?_;iterate 3 (go_big_quiet_step (fail))
 refine zY ?_;refine lU (v:=.bool (dn a.ks ((a.v x%16:Nat):Int))) (mT (g:=122) (caps:=#[]) (args:=#[.agg (kc (dnA a.ks)),.int .i64 (a.v x:Int)]) (.func 122) _ _ rfl rfl (enters_of Tryz.func122 zYV rfl) (fun w' hw=>by obtain⟨u,rfl⟩:=hw;exact ID.out u.w) rfl zYK) ?_;simp only[Act.put,zQ,zZ,zJ];refine lS zYW zYL ?_;iterate 1 (go_big_quiet_step (fail))
 refine zY ?_;refine lP rfl ?_;intro w5 g5 C5 K hK;obtain⟨u5,rfl⟩:=C5;have D5:=zW (D.out.step u5.below);refine mQ (g:=121) (caps:=#[]) (args:=#[.pointer (some ⟨rb,0,none⟩),.bool (dn a.ks ((a.v x%16:Nat):Int)==(op==24))]) (.func 121) _ _ rfl (enters_of Tryz.func121 zYV rfl) rfl zYK ?_;refine(KY D5.out.x (dn a.ks ((a.v x%16:Nat):Int)==(op==24)) OO.out.1 OO.out.2).mono ?_;rintro e w7 ⟨rfl,v',D2h⟩;have D:=zW (D5.out.then D2h);clear D2h D5;refine⟨_,rfl,?_⟩;refine hK _ _ ?_;clear hK K;simp only[Act.put,zQ,zZ,zJ];exact zLM
theorem EC(X:XR base lg b m g rb v a ⟨op,x,y,n,nn,ad,ln⟩ q pc f w)(O:OkA a)(hx:x<16)(ha:0≤ad∧ad≤65535):Calls Tryz.prog 87 #[.pointer (some ⟨rb,0,none⟩)] w (Did base lg b m g rb v ⟨op,x,y,n,nn,ad,ln⟩ q w (a) ((ad+(a.v (if q.jx=true then x else 0):Int))%65536) (f)):=by
 have XX:=zW X;have D:=zW (DD.refl X);have HA:=zW ha;have HX:=zW hx;have r0:w.cell? ⟨rb,0,none⟩=some (.pointer (some ⟨b,0,none⟩)):=(X.r.cell 0).trans rfl;have r6:w.cell? ⟨rb,6,none⟩=some (.int .i64 ad):=(X.r.cell 6).trans rfl;have r11:w.cell? ⟨rb,11,none⟩=some (.bool q.jx):=(X.r.cell 11).trans rfl;have r16:w.cell? ⟨rb,16,none⟩=some (.int .i64 pc):=(X.r.cell 16).trans rfl;have c0:=X.vc (show 0<16 by decide);obtain⟨lv,sh,ki,jx,lr,cl,dw,fa⟩:=q;cases jx
 ·have OV:=zW (O.v 0 zYY);have v0:(0:Int)≤(a.v 0:Int):=qW _;have v1:(a.v 0:Int)<256:=by have:=OV.out;omega
  clear X O ha hx;go_enter Tryz.func87,Tryz.ntmps87;have f16:=D.out.x.r.frozen 16;have WR:=zW (fun w=>tB (ad+(a.v 0:Int)) w);have wr:IntKind.i64.wrap (ad+(a.v 0:Int))=ad+(a.v 0:Int):=by rw[zU];have h1:=OV.out;have h2:=HA.out;omega
  go_wp2_with fail;refine(WR.out _).mono ?_;rintro e w' ⟨rfl,rfl⟩;exact zL3
 ·have OV:=zW (O.v x hx);have v0:(0:Int)≤(a.v x:Int):=qW _;have v1:(a.v x:Int)<256:=by have:=OV.out;omega
  clear X O ha hx;go_enter Tryz.func87,Tryz.ntmps87;go_wp2_with fail;refine(eK XX.out HX.out).mono ?_;rintro e w1 ⟨rfl,b1⟩;clear r0 r6 r11 r16 c0;have D:=zW (D.out.step b1);clear b1;have r0:w1.cell? ⟨rb,0,none⟩=some (.pointer (some ⟨b,0,none⟩)):=(D.out.x.r.cell 0).trans rfl;have r6:w1.cell? ⟨rb,6,none⟩=some (.int .i64 ad):=(D.out.x.r.cell 6).trans rfl;have r16:w1.cell? ⟨rb,16,none⟩=some (.int .i64 pc):=(D.out.x.r.cell 16).trans rfl;have cv:=D.out.x.vc HX.out;have f16:=D.out.x.r.frozen 16;have WR:=zW (fun w=>tB (ad+(a.v x:Int)) w);have wr:IntKind.i64.wrap (ad+(a.v x:Int))=ad+(a.v x:Int):=by rw[zU];have h1:=OV.out;have h2:=HA.out;omega
  go_wp2_with fail;refine(WR.out _).mono ?_;rintro e w' ⟨rfl,rfl⟩;exact zL3
theorem call19(X:XR base lg b m g rb v a ⟨op,x,y,n,nn,ad,ln⟩ q pc f w)(h16:a.sk.length<16):Calls Tryz.prog 88 #[.pointer (some ⟨rb,0,none⟩)] w (Did base lg b m g rb v ⟨op,x,y,n,nn,ad,ln⟩ q w ({a with sk:=a.sk++[pc]}) (ad) (f)):=by
 have D:=zW (DD.refl X);have SB:=zW (lN X.rc.st);have RBh:=zW (lN X.r);have r0:=X.rk 0 (.pointer (some ⟨b,0,none⟩)) rfl;have r16:=X.rk 16 (.int .i64 pc) rfl;have PU:=zW (fun w=>UX a.sk pc h16 w);clear X h16;go_enter Tryz.func88,Tryz.ntmps88;go_upto_region 0 with fail;refine lY (C:=fun w'=>∃u:lB w,w'=u.w) 16 [([0,1,2,3,4,5,6,7,8,9,10],11,true),([12,13,14],15,false)] [] [17] zYV zYV ?_ ?_ ⟨⟨w.drew,(zG _ _).drew⟩,rfl⟩ ?_
 ·exact zLB
 ·exact zLL
 intro wd hwd;clear hwd;refine lA zYW zYL ?_;iterate 6 (go_big_quiet_step (fail))
 refine lL (o:=18) xJ SB.out zYB rfl (.tmp 10) rfl zYK ?_;rw[pE];simp only[Act.put,zQ,zZ,zJ];iterate 4 (go_big_quiet_step (fail))
 refine zY ?_;refine lU (v:=.tuple #[.agg (mH (a.sk++[pc])),.int .i64 0]) (mT (g:=124) (caps:=#[]) (args:=#[.agg (mH a.sk),.int .i64 pc]) (.func 124) _ _ rfl rfl (enters_of Tryz.func124 zYV rfl) (fun w' hw=>by obtain⟨u,rfl⟩:=hw;exact PU.out u.w) rfl zYK) ?_;simp only[Act.put,zQ,zZ,zJ];refine vT zYW zYL ?_;iterate 3 (go_big_quiet_step (fail))
 refine zY ?_;refine vB rfl ?_;intro w4 g4 C4 K hK;obtain⟨u4,rfl⟩:=C4;refine nF dZ rfl ?_;have B6:=zW (u4.below.trans ((lM u4.w (.cells (mH []) 48)).mono u4.below.size));have G6:=zW (Blk.new u4.w 48 (mH []));have L6:=zW u4.below.size;refine hK _ _ ⟨⟨_,B6.out⟩,rfl⟩ ?_;clear hK K g4;obtain⟨gs,hgs⟩:∃gs,u4.w.heap.size=gs:=⟨_,rfl⟩;rw[hgs]at G6 L6⊢;generalize World.alloc u4.w _=w6 at*;clear hgs u4;simp only[Act.put,zQ,zZ,zJ];refine lS zYW zYL ?_;refine zY ?_;refine lP rfl ?_;intro w5 g5 C5 K hK;obtain⟨u5,rfl⟩:=C5;have D5:=zW (D.out.step u5.below);have G5:=zW (G6.out.step g5);refine nH (ds:=mH (a.sk++[pc])) xJ G5.out (lF _) (lF _) (cC _) (.tmp 2) (.tmp 17) rfl zYK zYK ?_;have B7:=zW (lO u5.below L6.out (mH (a.sk++[pc])));have G7:=zW (G5.out.store (mH (a.sk++[pc])));refine hK _ _ ?_;generalize World.setRow u5.w gs (mH (a.sk++[pc]))=w7 at*;clear G5 D5 G6;clear hK K;simp only[Act.put,zQ,zZ,zJ];try simp only[lQ,zX,zK,zV]
 iterate 1 (go_big_quiet_step (fail))
 refine zY ?_;intro w8 g8;have D:=zW (D.out.step (B7.out.trans (g8.mono B7.out.size)));have BW:=zW (B7.out.trans (g8.mono B7.out.size));have G:=zW (G7.out.step g8);clear g8 g5 G7 B7 B6 L6 SB RBh r0 r16 PU u5;go_wp2_with fail;refine(gR _).mono ?_;rintro e w9 ⟨rfl,rfl⟩;have r0:=D.out.x.rk 0 (.pointer (some ⟨b,0,none⟩)) rfl;have GB:=zW (lN G.out);go_upto_region 2 with fail;refine lY (C:=fun w'=>∃u:lB w8,w'=u.w) 7 [] [0,1,2,3,4,5,6] [] zYV zYV ?_ ?_ ⟨⟨w8.drew,(zG _ _).drew⟩,rfl⟩ ?_
 ·exact zLB
 ·exact zLL
 intro wd hwd;clear hwd;refine lS zYW zYL ?_;iterate 4 (go_big_quiet_step (fail))
 refine lL (o:=0) xJ GB.out (by rw[lF];decide) rfl (.tmp 2) rfl zYK ?_;rw[t7 (lF (a.sk++[pc]))];simp only[Act.put,zQ,zZ,zJ];iterate 2 (go_big_quiet_step (fail))
 refine zY ?_;refine lP rfl ?_;intro w5 g5 C5 K hK;obtain⟨u5,rfl⟩:=C5;have D5:=zW (D.out.step u5.below);refine mM (o:=18) (ds:=mH (a.sk++[pc])) xJ D5.out.x.rc.st (lF _) zYB (cC _) (.tmp 27) (.tmp 25) rfl zYK zYK ?_;have D:=zW (D5.out.row (a':={a with sk:=(a.sk++[pc])}) (cs:=lG (stC a m g) 18 (mH (a.sk++[pc]))) (fB a m g (a.sk++[pc])) rfl rfl rfl (D5.out.x.rc.res));refine hK _ _ ?_;generalize World.setRow u5.w b (lG (stC a m g) 18 (mH (a.sk++[pc])))=w7 at D⊢;clear D5;clear hK K;simp only[Act.put,zQ,zZ,zJ];try simp only[lQ,zX,zK,zV]
 refine zY ?_;intro wa g8;have D:=zW (D.out.step g8);clear g8 g5;clear r0 GB G BW;have r6:wa.cell? ⟨rb,6,none⟩=some (.int .i64 ad):=(D.out.x.r.cell 6).trans rfl;exact zM3
theorem PH(X:XR base lg b m g rb v a ⟨op,x,y,n,nn,ad,ln⟩ q pc f w)(h16:a.sk.length=16):Calls Tryz.prog 88 #[.pointer (some ⟨rb,0,none⟩)] w (sK 2 w):=by
 have D:=zW (DD.refl X);have SB:=zW (lN X.rc.st);have RBh:=zW (lN X.r);have r0:=X.rk 0 (.pointer (some ⟨b,0,none⟩)) rfl;have r16:=X.rk 16 (.int .i64 pc) rfl;have PU:=zW (fun w=>zXQ a.sk pc h16 w);clear X h16;go_enter Tryz.func88,Tryz.ntmps88;go_upto_region 0 with fail;refine lY (C:=fun w'=>∃u:lB w,w'=u.w) 16 [([0,1,2,3,4,5,6,7,8,9,10],11,true),([12,13,14],15,false)] [] [17] zYV zYV ?_ ?_ ⟨⟨w.drew,(zG _ _).drew⟩,rfl⟩ ?_
 ·exact zLB
 ·exact zLL
 intro wd hwd;clear hwd;refine lA zYW zYL ?_;iterate 6 (go_big_quiet_step (fail))
 refine lL (o:=18) xJ SB.out zYB rfl (.tmp 10) rfl zYK ?_;rw[pE];simp only[Act.put,zQ,zZ,zJ];iterate 4 (go_big_quiet_step (fail))
 refine zY ?_;refine lU (v:=.tuple #[.agg (mH a.sk),.int .i64 2]) (mT (g:=124) (caps:=#[]) (args:=#[.agg (mH a.sk),.int .i64 pc]) (.func 124) _ _ rfl rfl (enters_of Tryz.func124 zYV rfl) (fun w' hw=>by obtain⟨u,rfl⟩:=hw;exact PU.out u.w) rfl zYK) ?_;simp only[Act.put,zQ,zZ,zJ];refine vT zYW zYL ?_;iterate 3 (go_big_quiet_step (fail))
 refine zY ?_;refine vB rfl ?_;intro w4 g4 C4 K hK;obtain⟨u4,rfl⟩:=C4;refine nF dZ rfl ?_;have B6:=zW (u4.below.trans ((lM u4.w (.cells (mH []) 48)).mono u4.below.size));have G6:=zW (Blk.new u4.w 48 (mH []));have L6:=zW u4.below.size;refine hK _ _ ⟨⟨_,B6.out⟩,rfl⟩ ?_;clear hK K g4;obtain⟨gs,hgs⟩:∃gs,u4.w.heap.size=gs:=⟨_,rfl⟩;rw[hgs]at G6 L6⊢;generalize World.alloc u4.w _=w6 at*;clear hgs u4;simp only[Act.put,zQ,zZ,zJ];refine lS zYW zYL ?_;refine zY ?_;refine lP rfl ?_;intro w5 g5 C5 K hK;obtain⟨u5,rfl⟩:=C5;have D5:=zW (D.out.step u5.below);have G5:=zW (G6.out.step g5);refine nH (ds:=mH a.sk) xJ G5.out (lF _) (lF _) (cC _) (.tmp 2) (.tmp 17) rfl zYK zYK ?_;have B7:=zW (lO u5.below L6.out (mH a.sk));have G7:=zW (G5.out.store (mH a.sk));refine hK _ _ ?_;generalize World.setRow u5.w gs (mH a.sk)=w7 at*;clear G5 D5 G6;clear hK K;simp only[Act.put,zQ,zZ,zJ];try simp only[lQ,zX,zK,zV]
 iterate 1 (go_big_quiet_step (fail))
 refine zY ?_;intro w8 g8;have D:=zW (D.out.step (B7.out.trans (g8.mono B7.out.size)));have BW:=zW (B7.out.trans (g8.mono B7.out.size));have G:=zW (G7.out.step g8);clear g8 g5 G7 B7 B6 L6 SB RBh r0 r16 PU u5;go_wp2_with fail;refine(rG 2 zYY _).mono ?_;rintro e w9 ⟨rfl,rfl⟩;exact⟨rfl,rfl,BW.out⟩
theorem O5(X:XR base lg b m g rb v a ⟨op,x,y,n,nn,ad,ln⟩ q pc f w)(L:List Int)(t:Int)(hL:a.sk=L++[t])(h16:L.length<16):Calls Tryz.prog 89 #[.pointer (some ⟨rb,0,none⟩)] w (Did base lg b m g rb v ⟨op,x,y,n,nn,ad,ln⟩ q w ({a with sk:=L}) (t) (f)):=by
 have D:=zW (DD.refl X);have r0:w.cell? ⟨rb,0,none⟩=some (.pointer (some ⟨b,0,none⟩)):=(X.r.cell 0).trans rfl;have PO:=zW (fun w=>zXZ L t h16 w);have HS:=zW (show(stC a m g).extract 18 (18+17)=mH (L++[t]) by rw[pE,hL]);have ST:=zW X.rc.st;clear X hL h16;go_enter Tryz.func89,Tryz.ntmps89;go_upto_region 0 with fail;refine zB ?_;iterate 18 go_step
 refine vY (o:=18) xJ ST.out zYB rfl (.tmp 11) rfl zYK ?_;rw[HS.out];simp only[Act.put,zQ,zZ,zJ];go_wp2_with fail;refine(PO.out _).mono ?_;rintro e w1 ⟨rfl,b1⟩;clear r0 HS ST PO;have D:=zW (D.out.step b1);clear b1;simp only[];go_at_K
 iterate 13 go_step
 refine m3 (ds:=mH L) xJ dZ (lF _) (lF _) (cC _) rfl rfl rfl (.tmp 2) (.tmp 14) rfl zYK zYK ?_;simp only[Act.put,zQ,zZ,zJ];have G:=zW (Blk.new w1 48 (mH L));have b2:=lM w1 (.cells (mH L) 48);have D:=zW (D.out.step b2);have BW:=zW b2;clear b2;obtain⟨gs,hgs⟩:∃gs,w1.heap.size=gs:=⟨_,rfl⟩;rw[hgs]at G⊢;generalize World.alloc w1 _=w8 at*;clear hgs;go_wp2_with fail;refine(gR _).mono ?_;rintro e w9 ⟨rfl,rfl⟩;have r0:=D.out.x.rk 0 (.pointer (some ⟨b,0,none⟩)) rfl;have GB:=zW (lN G.out);go_upto_region 2 with fail;refine lY (C:=fun w'=>∃u:lB w8,w'=u.w) 7 [] [0,1,2,3,4,5,6] [] zYV zYV ?_ ?_ ⟨⟨w8.drew,(zG _ _).drew⟩,rfl⟩ ?_
 ·exact zLB
 ·exact zLL
 intro wd hwd;clear hwd;refine lS zYW zYL ?_;iterate 4 (go_big_quiet_step (fail))
 refine lL (o:=0) xJ GB.out (by rw[lF];decide) rfl (.tmp 2) rfl zYK ?_;rw[t7 (lF L)];simp only[Act.put,zQ,zZ,zJ];iterate 2 (go_big_quiet_step (fail))
 refine zY ?_;refine lP rfl ?_;intro w5 g5 C5 K hK;obtain⟨u5,rfl⟩:=C5;have D5:=zW (D.out.step u5.below);refine mM (o:=18) (ds:=mH L) xJ D5.out.x.rc.st (lF _) zYB (cC _) (.tmp 25) (.tmp 23) rfl zYK zYK ?_;have D:=zW (D5.out.row (a':={a with sk:=L}) (cs:=lG (stC a m g) 18 (mH L)) (fB a m g L) rfl rfl rfl (D5.out.x.rc.res));refine hK _ _ ?_;generalize World.setRow u5.w b (lG (stC a m g) 18 (mH L))=w7 at D⊢;clear D5;clear hK K;simp only[Act.put,zQ,zZ,zJ];try simp only[lQ,zX,zK,zV]
 refine zY ?_;intro wa g8;have D:=zW (D.out.step g8);clear g8 g5;clear r0 GB G BW;exact zM3
theorem MC(X:XR base lg b m g rb v a ⟨op,x,y,n,nn,ad,ln⟩ q pc f w)(hL:a.sk=[]):Calls Tryz.prog 89 #[.pointer (some ⟨rb,0,none⟩)] w (sK 3 w):=by
 have D:=zW (DD.refl X);have r0:w.cell? ⟨rb,0,none⟩=some (.pointer (some ⟨b,0,none⟩)):=(X.r.cell 0).trans rfl;have PO:=zW (fun w=>pop_no w);have HS:=zW (show(stC a m g).extract 18 (18+17)=mH [] by rw[pE,hL]);have ST:=zW X.rc.st;clear X hL;go_enter Tryz.func89,Tryz.ntmps89;go_upto_region 0 with fail;refine zB ?_;iterate 18 go_step
 refine vY (o:=18) xJ ST.out zYB rfl (.tmp 11) rfl zYK ?_;rw[HS.out];simp only[Act.put,zQ,zZ,zJ];go_wp2_with fail;refine(PO.out _).mono ?_;rintro e w1 ⟨rfl,b1⟩;have BQ:=zW b1;clear r0 HS ST PO;have D:=zW (D.out.step b1);clear b1;simp only[];go_at_K
 iterate 13 go_step
 refine m3 (ds:=mH []) xJ dZ (lF _) (lF _) (cC _) rfl rfl rfl (.tmp 2) (.tmp 14) rfl zYK zYK ?_;simp only[Act.put,zQ,zZ,zJ];have G:=zW (Blk.new w1 48 (mH []));have b2:=lM w1 (.cells (mH []) 48);have D:=zW (D.out.step b2);have BW:=zW (BQ.out.trans (b2.mono BQ.out.size));clear b2;obtain⟨gs,hgs⟩:∃gs,w1.heap.size=gs:=⟨_,rfl⟩;rw[hgs]at G⊢;generalize World.alloc w1 _=w8 at*;clear hgs;go_wp2_with fail;refine(rG 3 zYY _).mono ?_;rintro e w9 ⟨rfl,rfl⟩;exact⟨rfl,rfl,BW.out⟩
end
end
end Go.Proofs.YthknmadinmigfaaGreatDoor
