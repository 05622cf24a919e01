/- CpuM3. -/
import Derived.Test.YthknmadinmigfaaGreatDoorMk3a
set_option maxRecDepth 400000
set_option maxHeartbeats 64000000
set_option linter.unusedVariables false
set_option linter.unusedSimpArgs false
namespace Go.Proofs.YthknmadinmigfaaGreatDoor
section
open Go.RowKit Num Dec Cpu
theorem dU:nG Tryz.prog 48 (mL []):=by unfold nG;kernel_rfl
theorem zJK{M:List Int}(B:Bts M)(hM:M.length=65536)(a:Int)(j:Nat):M[((a+(j:Int))%65536).toNat]?=some ((byC M a j:Nat):Int):=by
 have h:((a+(j:Int))%65536).toNat<M.length:=zLS;have h2:=B _ h;unfold byC;rw[qV,zP h,Option.getD_some,Int.toNat_of_nonneg h2.1]
theorem zVZ(ks:List Ev)(c:Nat):zVJ (dnA ks) (c:Int)=dn ks ((c%16:Nat):Int):=by
 unfold zVJ dnA;rw[qJ (qM c),Bool.true_and];congr 1
theorem gH{cs:Array Value}{n:Nat}(h:cs.size=n):cs.extract 0 (0+n)=cs:=by subst h;simp
def skP(a:AS)(pc:Int)(t:Bool)(lv:Int):Int:=if t=true then(pc+skl (byC a.M pc 0) (byC a.M pc 1) lv)%65536 else pc
theorem skl_bd(h l:Nat)(lv:Int):0≤skl h l lv∧skl h l lv≤4:=by unfold skl;split<;>omega
section
variable {base:Nat} {lg:Lg} {b m g rb:Nat} {v:Value} {a:AS} {op:Int} {x y n nn:Nat} {ad ln:Int} {q:Pr} {pc:Int} {f:Ef} {w:World}
theorem MC(X:XR base lg b m g rb v a ⟨op,x,y,n,nn,ad,ln⟩ q pc f w)(t:Bool)(O:OkA a)(hp:0≤pc∧pc≤65535):Calls Tryz.prog 121 #[.pointer (some ⟨rb,0,none⟩),.bool t] w (Did base lg b m g rb v ⟨op,x,y,n,nn,ad,ln⟩ q w (a) (skP a pc t q.lv) (f)):=by
 have D:=zW (DD.refl X);cases t
 ·go_enter Tryz.func121,Tryz.ntmps121;go_wp2_with fail;go_end0
  exact⟨rfl,_,D.out⟩
 ·have r0:=X.rk 0 (.pointer (some ⟨b,0,none⟩)) rfl;have r16:=X.rk 16 (.int .i64 pc) rfl;have s35:=X.sk 35 _ (mK _ m g zLS);rw[bN]at s35;obtain⟨h,hh⟩:∃h,byC a.M pc 0=h:=⟨_,rfl⟩;obtain⟨l,hl⟩:∃l,byC a.M pc 1=l:=⟨_,rfl⟩;have e0:=zJK O.B O.M pc 0;have e1:=zJK O.B O.M pc 1;rw[hh]at e0;rw[hl]at e1;have R1:=zW (fun(u:lH w)=>(NY m a.M v pc (h:Int) ((pc+((0:Nat):Int))%65536).toNat u.w O.M (X.step u.below).rc.mem zLS e0).mono (fun e w' r=>(show e=.returned (.int .u8 (h:Int))∧Below u.w.heap.size u.w w' from by obtain⟨r1,k,r2⟩:=r;exact⟨r1,by rw[r2];exact below_drewN (zB _ _) k⟩)));have R2:=zW (fun(u:lH w)=>(NY m a.M v (pc+1) (l:Int) ((pc+((1:Nat):Int))%65536).toNat u.w O.M (X.step u.below).rc.mem zLS e1).mono (fun e w' r=>(show e=.returned (.int .u8 (l:Int))∧Below u.w.heap.size u.w w' from by obtain⟨r1,k,r2⟩:=r;exact⟨r1,by rw[r2];exact below_drewN (zB _ _) k⟩)));have wr:IntKind.i64.wrap (pc+1)=pc+1:=by rw[qQ];omega
  have HP:=zW hp;rw[show skP a pc true q.lv=(pc+skl h l q.lv)%65536 from by unfold skP;rw[zN rfl,hh,hl]];have SL:=zW (fun w=>eJ h l q.lv w);have hb:=skl_bd h l q.lv;generalize skl h l q.lv=z at*;have HZ:=zW hb;clear X O hp e0 e1 hh hl hb;go_enter Tryz.func121,Tryz.ntmps121;go_upto_region 1 with fail;refine mE zLE zLE ?_;iterate 11 (go_big_quiet_step (fail))
  go_big_quiet_step ((go_at_call 162;exact mZ (R1.out _)))
  iterate 12 (go_big_quiet_step (fail))
  go_big_quiet_step ((go_at_call 162;exact mZ (R2.out _)))
  iterate 2 (go_big_quiet_step (fail))
  refine zY ?_;intro _ hw';obtain⟨x',rfl⟩:=hw';have b1:=x'.below;generalize x'.w=w1 at*;clear r0 r16 s35 R1 R2 wr;have D:=zW (D.out.step b1);clear b1;have r8:=D.out.x.rk 8 (.int .i64 q.lv) rfl;have r16:=D.out.x.rk 16 (.int .i64 pc) rfl;have wr:IntKind.i64.wrap (pc+z)=pc+z:=by have h1:=HZ.out;have h2:=HP.out;rw[qQ];omega
  have WR:=zW (fun w=>t6 (pc+z) w);go_upto_region 2 with fail;refine lK (C:=fun w'=>∃u:lH w1,w'=u.w) 17 [([0,1,2,3,4,5,6,7,8,9,10,11],12,true),([13],14,true)] [15,16] [] zLE zLE ?_ ?_ ⟨⟨w1.drew,(zB _ _).drew⟩,rfl⟩ ?_
  ·exact zMO
  ·exact zMA
  intro wd hwd;clear hwd;refine lF zLC zLU ?_;iterate 12 (go_big_quiet_step (fail))
  refine zY ?_;refine lS (v:=.int .i64 z) (mM (g:=82) (caps:=#[]) (args:=#[.int .u8 (h:Int),.int .u8 (l:Int),.int .i64 q.lv]) (.func 82) _ _ rfl rfl (enters_of Tryz.func82 zLE rfl) (fun w' hw=>by obtain⟨u,rfl⟩:=hw;exact(SL.out u.w).mono fun e w'' h=>⟨h.1,by rw[←h.2];exact Gr.refl _⟩) rfl zLP) ?_;simp only[Act.put,zQ,zZ,zJ];refine lF zLC zLU ?_;iterate 1 (go_big_quiet_step (fail))
  refine zY ?_;refine lS (v:=.int .i64 ((pc+z)%65536)) (mM (g:=71) (caps:=#[]) (args:=#[.int .i64 (pc+z)]) (.func 71) _ _ rfl rfl (enters_of Tryz.func71 zLE rfl) (fun w' hw=>by obtain⟨u,rfl⟩:=hw;exact(WR.out u.w).mono fun e w'' h=>⟨h.1,by rw[←h.2];exact Gr.refl _⟩) rfl zLP) ?_;simp only[Act.put,zQ,zZ,zJ];refine lR zLC zLU ?_;iterate 2 (go_big_quiet_step (fail))
  refine zY ?_;refine lT rfl ?_;intro w5 g5 C5 K hK;obtain⟨u5,rfl⟩:=C5;have D5:=zW (D.out.step u5.below);have cc:=D5.out.x.r.cell 16;have fc:=D5.out.x.r.frozen 16;go_wp2_with fail;have D:=zW (D5.out.rput (pc':=(pc+z)%65536) (f':=f) 16 (.int .i64 ((pc+z)%65536)) (rfl));exact zHK
theorem bL(X:XR base lg b m g rb v a ⟨op,x,y,n,nn,ad,ln⟩ q pc f w)(O:OkA a)(hp:0≤pc∧pc≤65535)(hx:x<16)(hy:y<16)(hn:nn<256):Calls Tryz.prog 84 #[.pointer (some ⟨rb,0,none⟩)] w (Did base lg b m g rb v ⟨op,x,y,n,nn,ad,ln⟩ q w (a) (skP a pc (skB a.v ⟨op,x,y,n,nn,ad,ln⟩) q.lv) (f)):=by
 have D:=zW (DD.refl X);have SB:=zW (lY X.rc.st);have RBh:=zW (lY X.r);have r0:=X.rk 0 (.pointer (some ⟨b,0,none⟩)) rfl;have SK:=zW (fun w=>aX.sk a.v op x y nn n ad ln w O.v hx hy hn);have OO:=zW (zM O hp);clear X O hp;go_enter Tryz.func84,Tryz.ntmps84;go_upto_region 0 with fail;refine mE zLE zLE ?_;iterate 6 (go_big_quiet_step (fail))
 refine lV (o:=0) zJD SB.out zL1 rfl (.tmp 10) rfl zLP ?_;rw[zY6];simp only[Act.put,zQ,zZ,zJ];iterate 3 (go_big_quiet_step (fail))
 refine lV (o:=1) gD RBh.out (by show _≤21;decide) rfl (.tmp 14) rfl zLP ?_;rw[OJ];simp only[Act.put,zQ,zZ,zJ];go_big_quiet_step ((go_at_call 120;exact mZ (SK.out _)))
 iterate 5 (go_big_quiet_step (fail))
 refine zY ?_;intro _ hw';obtain⟨x',rfl⟩:=hw';have b1:=x'.below;generalize x'.w=w1 at*;clear r0 SK SB RBh;have D:=zW (D.out.step b1);clear b1;go_wp2_with fail;refine(MC D.out.x (skB a.v ⟨op,x,y,n,nn,ad,ln⟩) OO.out.1 OO.out.2).mono ?_;rintro e w2 ⟨rfl,v',D2h⟩;have D:=zW (D.out.then D2h);clear D2h;go_wp2_with fail;go_end0
 exact⟨rfl,v',D.out⟩
theorem o8(X:XR base lg b m g rb v a ⟨op,x,y,n,nn,ad,ln⟩ q pc f w)(O:OkA a)(hp:0≤pc∧pc≤65535)(hx:x<16):Calls Tryz.prog 85 #[.pointer (some ⟨rb,0,none⟩)] w (Did base lg b m g rb v ⟨op,x,y,n,nn,ad,ln⟩ q w (a) (skP a pc (dn a.ks ((a.v x%16:Nat):Int)==(op==24)) q.lv) (f)):=by
 have D:=zW (DD.refl X);have SB:=zW (lY X.rc.st);have RBh:=zW (lY X.r);have VX:=zW (fun(u:lH w)=>sK (X.step u.below) hx);have r0:=X.rk 0 (.pointer (some ⟨b,0,none⟩)) rfl;have r1:=X.rk 1 (.int .i64 op) rfl;have sx:=X.vk hx;have hv:=O.v x hx;have v0:(0:Int)≤(a.v x:Int):=qM _;have v1:(a.v x:Int)<256:=zLS;have ID:=zW (fun w=>zVZ a.ks (a.v x)▸WE (dnA a.ks) (a.v x:Int) w zLS);have OO:=zW (zM O hp);clear X O hp hv;go_enter Tryz.func85,Tryz.ntmps85;refine lK (C:=fun w'=>∃u:lH w,w'=u.w) 21 [([0,1,2,3,4,5,6,7,8,14,15,16,17,18,19],9,true),([10,11,12],13,true)] [20] [] zLE zLE ?_ ?_ ⟨⟨w.drew,(zB _ _).drew⟩,rfl⟩ ?_
 ·exact zMO
 ·exact zMA
 intro wd hwd;clear hwd;refine lF zLC zLU ?_;iterate 7 (go_big_quiet_step (fail))
 refine lV (o:=550) zYD SB.out zL1 rfl (.tmp 8) rfl zLP ?_;rw[QO];simp only[Act.put,zQ,zZ,zJ];iterate 7 (go_big_quiet_step (fail))
 refine zY ?_;refine lS (v:=.pointer (some ⟨b,x,none⟩)) (mM (g:=123) (caps:=#[]) (args:=#[.pointer (some ⟨rb,0,none⟩)]) (.func 123) _ _ rfl rfl (enters_of Tryz.func123 zLE rfl) (fun w' hw=>by obtain⟨u,rfl⟩:=hw;exact VX.out u) rfl zLP) ?_;simp only[Act.put,zQ,zZ,zJ];refine lF zLC zLU ?_;iterate 3 (go_big_quiet_step (fail))
 refine zY ?_;refine lS (v:=.bool (dn a.ks ((a.v x%16:Nat):Int))) (mM (g:=122) (caps:=#[]) (args:=#[.agg (kc (dnA a.ks)),.int .i64 (a.v x:Int)]) (.func 122) _ _ rfl rfl (enters_of Tryz.func122 zLE rfl) (fun w' hw=>by obtain⟨u,rfl⟩:=hw;exact ID.out u.w) rfl zLP) ?_;simp only[Act.put,zQ,zZ,zJ];refine lR zLC zLU ?_;iterate 1 (go_big_quiet_step (fail))
 refine zY ?_;refine lT rfl ?_;intro w5 g5 C5 K hK;obtain⟨u5,rfl⟩:=C5;have D5:=zW (D.out.step u5.below);refine lE (g:=121) (caps:=#[]) (args:=#[.pointer (some ⟨rb,0,none⟩),.bool (dn a.ks ((a.v x%16:Nat):Int)==(op==24))]) (.func 121) _ _ rfl (enters_of Tryz.func121 zLE rfl) rfl zLP ?_;refine(MC D5.out.x (dn a.ks ((a.v x%16:Nat):Int)==(op==24)) OO.out.1 OO.out.2).mono ?_;rintro e w7 ⟨rfl,v',D2h⟩;have D:=zW (D5.out.then D2h);clear D2h D5;refine⟨_,rfl,?_⟩;refine hK _ _ ?_;clear hK K;simp only[Act.put,zQ,zZ,zJ];exact zMU
theorem F4(X:XR base lg b m g rb v a ⟨op,x,y,n,nn,ad,ln⟩ q pc f w)(O:OkA a)(hx:x<16)(ha:0≤ad∧ad≤65535):Calls Tryz.prog 87 #[.pointer (some ⟨rb,0,none⟩)] w (Did base lg b m g rb v ⟨op,x,y,n,nn,ad,ln⟩ q w (a) ((ad+(a.v (if q.jx=true then x else 0):Int))%65536) (f)):=by
 have XX:=zW X;have D:=zW (DD.refl X);have HA:=zW ha;have HX:=zW hx;have r0:w.cell? ⟨rb,0,none⟩=some (.pointer (some ⟨b,0,none⟩)):=(X.r.cell 0).trans rfl;have r6:w.cell? ⟨rb,6,none⟩=some (.int .i64 ad):=(X.r.cell 6).trans rfl;have r11:w.cell? ⟨rb,11,none⟩=some (.bool q.jx):=(X.r.cell 11).trans rfl;have r16:w.cell? ⟨rb,16,none⟩=some (.int .i64 pc):=(X.r.cell 16).trans rfl;have c0:=X.vc (show 0<16 by decide);obtain⟨lv,sh,ki,jx,lr,cl,dw,fa⟩:=q;cases jx
 ·have OV:=zW (O.v 0 zLA);have v0:(0:Int)≤(a.v 0:Int):=qM _;have v1:(a.v 0:Int)<256:=by have:=OV.out;omega
  clear X O ha hx;go_enter Tryz.func87,Tryz.ntmps87;have f16:=D.out.x.r.frozen 16;have WR:=zW (fun w=>t6 (ad+(a.v 0:Int)) w);have wr:IntKind.i64.wrap (ad+(a.v 0:Int))=ad+(a.v 0:Int):=by rw[qQ];have h1:=OV.out;have h2:=HA.out;omega
  go_wp2_with fail;refine(WR.out _).mono ?_;rintro e w' ⟨rfl,rfl⟩;exact zNY
 ·have OV:=zW (O.v x hx);have v0:(0:Int)≤(a.v x:Int):=qM _;have v1:(a.v x:Int)<256:=by have:=OV.out;omega
  clear X O ha hx;go_enter Tryz.func87,Tryz.ntmps87;go_wp2_with fail;refine(sK XX.out HX.out).mono ?_;rintro e w1 ⟨rfl,b1⟩;clear r0 r6 r11 r16 c0;have D:=zW (D.out.step b1);clear b1;have r0:w1.cell? ⟨rb,0,none⟩=some (.pointer (some ⟨b,0,none⟩)):=(D.out.x.r.cell 0).trans rfl;have r6:w1.cell? ⟨rb,6,none⟩=some (.int .i64 ad):=(D.out.x.r.cell 6).trans rfl;have r16:w1.cell? ⟨rb,16,none⟩=some (.int .i64 pc):=(D.out.x.r.cell 16).trans rfl;have cv:=D.out.x.vc HX.out;have f16:=D.out.x.r.frozen 16;have WR:=zW (fun w=>t6 (ad+(a.v x:Int)) w);have wr:IntKind.i64.wrap (ad+(a.v x:Int))=ad+(a.v x:Int):=by rw[qQ];have h1:=OV.out;have h2:=HA.out;omega
  go_wp2_with fail;refine(WR.out _).mono ?_;rintro e w' ⟨rfl,rfl⟩;exact zNY
theorem call19(X:XR base lg b m g rb v a ⟨op,x,y,n,nn,ad,ln⟩ q pc f w)(h16:a.sk.length<16):Calls Tryz.prog 88 #[.pointer (some ⟨rb,0,none⟩)] w (Did base lg b m g rb v ⟨op,x,y,n,nn,ad,ln⟩ q w ({a with sk:=a.sk++[pc]}) (ad) (f)):=by
 have D:=zW (DD.refl X);have SB:=zW (lY X.rc.st);have RBh:=zW (lY X.r);have r0:=X.rk 0 (.pointer (some ⟨b,0,none⟩)) rfl;have r16:=X.rk 16 (.int .i64 pc) rfl;have PU:=zW (fun w=>OI a.sk pc h16 w);clear X h16;go_enter Tryz.func88,Tryz.ntmps88;go_upto_region 0 with fail;refine lK (C:=fun w'=>∃u:lH w,w'=u.w) 16 [([0,1,2,3,4,5,6,7,8,9,10],11,true),([12,13,14],15,false)] [] [17] zLE zLE ?_ ?_ ⟨⟨w.drew,(zB _ _).drew⟩,rfl⟩ ?_
 ·exact zMO
 ·exact zMA
 intro wd hwd;clear hwd;refine lF zLC zLU ?_;iterate 6 (go_big_quiet_step (fail))
 refine lV (o:=18) xS SB.out zL1 rfl (.tmp 10) rfl zLP ?_;rw[fP];simp only[Act.put,zQ,zZ,zJ];iterate 4 (go_big_quiet_step (fail))
 refine zY ?_;refine lS (v:=.tuple #[.agg (mL (a.sk++[pc])),.int .i64 0]) (mM (g:=124) (caps:=#[]) (args:=#[.agg (mL a.sk),.int .i64 pc]) (.func 124) _ _ rfl rfl (enters_of Tryz.func124 zLE rfl) (fun w' hw=>by obtain⟨u,rfl⟩:=hw;exact PU.out u.w) rfl zLP) ?_;simp only[Act.put,zQ,zZ,zJ];refine vF zLC zLU ?_;iterate 3 (go_big_quiet_step (fail))
 refine zY ?_;refine vT rfl ?_;intro w4 g4 C4 K hK;obtain⟨u4,rfl⟩:=C4;refine nD dU rfl ?_;have B6:=zW (u4.below.trans ((lW u4.w (.cells (mL []) 48)).mono u4.below.size));have G6:=zW (Blk.new u4.w 48 (mL []));have L6:=zW u4.below.size;refine hK _ _ ⟨⟨_,B6.out⟩,rfl⟩ ?_;clear hK K g4;obtain⟨gs,hgs⟩:∃gs,u4.w.heap.size=gs:=⟨_,rfl⟩;rw[hgs]at G6 L6⊢;generalize World.alloc u4.w _=w6 at*;clear hgs u4;simp only[Act.put,zQ,zZ,zJ];refine lR zLC zLU ?_;refine zY ?_;refine lT rfl ?_;intro w5 g5 C5 K hK;obtain⟨u5,rfl⟩:=C5;have D5:=zW (D.out.step u5.below);have G5:=zW (G6.out.step g5);refine nM (ds:=mL (a.sk++[pc])) xS G5.out (lD _) (lD _) (xY _) (.tmp 2) (.tmp 17) rfl zLP zLP ?_;have B7:=zW (lC u5.below L6.out (mL (a.sk++[pc])));have G7:=zW (G5.out.store (mL (a.sk++[pc])));refine hK _ _ ?_;generalize World.setRow u5.w gs (mL (a.sk++[pc]))=w7 at*;clear G5 D5 G6;clear hK K;simp only[Act.put,zQ,zZ,zJ];try simp only[kC,zX,zK,zV]
 iterate 1 (go_big_quiet_step (fail))
 refine zY ?_;intro w8 g8;have D:=zW (D.out.step (B7.out.trans (g8.mono B7.out.size)));have BW:=zW (B7.out.trans (g8.mono B7.out.size));have G:=zW (G7.out.step g8);clear g8 g5 G7 B7 B6 L6 SB RBh r0 r16 PU u5;go_wp2_with fail;refine(bV _).mono ?_;rintro e w9 ⟨rfl,rfl⟩;have r0:=D.out.x.rk 0 (.pointer (some ⟨b,0,none⟩)) rfl;have GB:=zW (lY G.out);go_upto_region 2 with fail;refine lK (C:=fun w'=>∃u:lH w8,w'=u.w) 7 [] [0,1,2,3,4,5,6] [] zLE zLE ?_ ?_ ⟨⟨w8.drew,(zB _ _).drew⟩,rfl⟩ ?_
 ·exact zMO
 ·exact zMA
 intro wd hwd;clear hwd;refine lR zLC zLU ?_;iterate 4 (go_big_quiet_step (fail))
 refine lV (o:=0) xS GB.out (by rw[lD];decide) rfl (.tmp 2) rfl zLP ?_;rw[gH (lD (a.sk++[pc]))];simp only[Act.put,zQ,zZ,zJ];iterate 2 (go_big_quiet_step (fail))
 refine zY ?_;refine lT rfl ?_;intro w5 g5 C5 K hK;obtain⟨u5,rfl⟩:=C5;have D5:=zW (D.out.step u5.below);refine mW (o:=18) (ds:=mL (a.sk++[pc])) xS D5.out.x.rc.st (lD _) zL1 (xY _) (.tmp 27) (.tmp 25) rfl zLP zLP ?_;have D:=zW (D5.out.row (a':={a with sk:=(a.sk++[pc])}) (cs:=lM (stC a m g) 18 (mL (a.sk++[pc]))) (aG a m g (a.sk++[pc])) rfl rfl rfl (D5.out.x.rc.res));refine hK _ _ ?_;generalize World.setRow u5.w b (lM (stC a m g) 18 (mL (a.sk++[pc])))=w7 at D⊢;clear D5;clear hK K;simp only[Act.put,zQ,zZ,zJ];try simp only[kC,zX,zK,zV]
 refine zY ?_;intro wa g8;have D:=zW (D.out.step g8);clear g8 g5;clear r0 GB G BW;have r6:wa.cell? ⟨rb,6,none⟩=some (.int .i64 ad):=(D.out.x.r.cell 6).trans rfl;exact zHW
theorem CW(X:XR base lg b m g rb v a ⟨op,x,y,n,nn,ad,ln⟩ q pc f w)(h16:a.sk.length=16):Calls Tryz.prog 88 #[.pointer (some ⟨rb,0,none⟩)] w (pK 2 w):=by
 have D:=zW (DD.refl X);have SB:=zW (lY X.rc.st);have RBh:=zW (lY X.r);have r0:=X.rk 0 (.pointer (some ⟨b,0,none⟩)) rfl;have r16:=X.rk 16 (.int .i64 pc) rfl;have PU:=zW (fun w=>zKL a.sk pc h16 w);clear X h16;go_enter Tryz.func88,Tryz.ntmps88;go_upto_region 0 with fail;refine lK (C:=fun w'=>∃u:lH w,w'=u.w) 16 [([0,1,2,3,4,5,6,7,8,9,10],11,true),([12,13,14],15,false)] [] [17] zLE zLE ?_ ?_ ⟨⟨w.drew,(zB _ _).drew⟩,rfl⟩ ?_
 ·exact zMO
 ·exact zMA
 intro wd hwd;clear hwd;refine lF zLC zLU ?_;iterate 6 (go_big_quiet_step (fail))
 refine lV (o:=18) xS SB.out zL1 rfl (.tmp 10) rfl zLP ?_;rw[fP];simp only[Act.put,zQ,zZ,zJ];iterate 4 (go_big_quiet_step (fail))
 refine zY ?_;refine lS (v:=.tuple #[.agg (mL a.sk),.int .i64 2]) (mM (g:=124) (caps:=#[]) (args:=#[.agg (mL a.sk),.int .i64 pc]) (.func 124) _ _ rfl rfl (enters_of Tryz.func124 zLE rfl) (fun w' hw=>by obtain⟨u,rfl⟩:=hw;exact PU.out u.w) rfl zLP) ?_;simp only[Act.put,zQ,zZ,zJ];refine vF zLC zLU ?_;iterate 3 (go_big_quiet_step (fail))
 refine zY ?_;refine vT rfl ?_;intro w4 g4 C4 K hK;obtain⟨u4,rfl⟩:=C4;refine nD dU rfl ?_;have B6:=zW (u4.below.trans ((lW u4.w (.cells (mL []) 48)).mono u4.below.size));have G6:=zW (Blk.new u4.w 48 (mL []));have L6:=zW u4.below.size;refine hK _ _ ⟨⟨_,B6.out⟩,rfl⟩ ?_;clear hK K g4;obtain⟨gs,hgs⟩:∃gs,u4.w.heap.size=gs:=⟨_,rfl⟩;rw[hgs]at G6 L6⊢;generalize World.alloc u4.w _=w6 at*;clear hgs u4;simp only[Act.put,zQ,zZ,zJ];refine lR zLC zLU ?_;refine zY ?_;refine lT rfl ?_;intro w5 g5 C5 K hK;obtain⟨u5,rfl⟩:=C5;have D5:=zW (D.out.step u5.below);have G5:=zW (G6.out.step g5);refine nM (ds:=mL a.sk) xS G5.out (lD _) (lD _) (xY _) (.tmp 2) (.tmp 17) rfl zLP zLP ?_;have B7:=zW (lC u5.below L6.out (mL a.sk));have G7:=zW (G5.out.store (mL a.sk));refine hK _ _ ?_;generalize World.setRow u5.w gs (mL a.sk)=w7 at*;clear G5 D5 G6;clear hK K;simp only[Act.put,zQ,zZ,zJ];try simp only[kC,zX,zK,zV]
 iterate 1 (go_big_quiet_step (fail))
 refine zY ?_;intro w8 g8;have D:=zW (D.out.step (B7.out.trans (g8.mono B7.out.size)));have BW:=zW (B7.out.trans (g8.mono B7.out.size));have G:=zW (G7.out.step g8);clear g8 g5 G7 B7 B6 L6 SB RBh r0 r16 PU u5;go_wp2_with fail;refine(r9 2 zLA _).mono ?_;rintro e w9 ⟨rfl,rfl⟩;exact⟨rfl,rfl,BW.out⟩
theorem zZB(X:XR base lg b m g rb v a ⟨op,x,y,n,nn,ad,ln⟩ q pc f w)(L:List Int)(t:Int)(hL:a.sk=L++[t])(h16:L.length<16):Calls Tryz.prog 89 #[.pointer (some ⟨rb,0,none⟩)] w (Did base lg b m g rb v ⟨op,x,y,n,nn,ad,ln⟩ q w ({a with sk:=L}) (t) (f)):=by
 have D:=zW (DD.refl X);have r0:w.cell? ⟨rb,0,none⟩=some (.pointer (some ⟨b,0,none⟩)):=(X.r.cell 0).trans rfl;have PO:=zW (fun w=>zKM L t h16 w);have HS:=zW (show(stC a m g).extract 18 (18+17)=mL (L++[t]) by rw[fP,hL]);have ST:=zW X.rc.st;clear X hL h16;go_enter Tryz.func89,Tryz.ntmps89;go_upto_region 0 with fail;refine zG ?_;iterate 18 go_step
 refine nA (o:=18) xS ST.out zL1 rfl (.tmp 11) rfl zLP ?_;rw[HS.out];simp only[Act.put,zQ,zZ,zJ];go_wp2_with fail;refine(PO.out _).mono ?_;rintro e w1 ⟨rfl,b1⟩;clear r0 HS ST PO;have D:=zW (D.out.step b1);clear b1;simp only[];go_at_K
 iterate 13 go_step
 refine mT (ds:=mL L) xS dU (lD _) (lD _) (xY _) rfl rfl rfl (.tmp 2) (.tmp 14) rfl zLP zLP ?_;simp only[Act.put,zQ,zZ,zJ];have G:=zW (Blk.new w1 48 (mL L));have b2:=lW w1 (.cells (mL L) 48);have D:=zW (D.out.step b2);have BW:=zW b2;clear b2;obtain⟨gs,hgs⟩:∃gs,w1.heap.size=gs:=⟨_,rfl⟩;rw[hgs]at G⊢;generalize World.alloc w1 _=w8 at*;clear hgs;go_wp2_with fail;refine(bV _).mono ?_;rintro e w9 ⟨rfl,rfl⟩;have r0:=D.out.x.rk 0 (.pointer (some ⟨b,0,none⟩)) rfl;have GB:=zW (lY G.out);go_upto_region 2 with fail;refine lK (C:=fun w'=>∃u:lH w8,w'=u.w) 7 [] [0,1,2,3,4,5,6] [] zLE zLE ?_ ?_ ⟨⟨w8.drew,(zB _ _).drew⟩,rfl⟩ ?_
 ·exact zMO
 ·exact zMA
 intro wd hwd;clear hwd;refine lR zLC zLU ?_;iterate 4 (go_big_quiet_step (fail))
 refine lV (o:=0) xS GB.out (by rw[lD];decide) rfl (.tmp 2) rfl zLP ?_;rw[gH (lD L)];simp only[Act.put,zQ,zZ,zJ];iterate 2 (go_big_quiet_step (fail))
 refine zY ?_;refine lT rfl ?_;intro w5 g5 C5 K hK;obtain⟨u5,rfl⟩:=C5;have D5:=zW (D.out.step u5.below);refine mW (o:=18) (ds:=mL L) xS D5.out.x.rc.st (lD _) zL1 (xY _) (.tmp 25) (.tmp 23) rfl zLP zLP ?_;have D:=zW (D5.out.row (a':={a with sk:=L}) (cs:=lM (stC a m g) 18 (mL L)) (aG a m g L) rfl rfl rfl (D5.out.x.rc.res));refine hK _ _ ?_;generalize World.setRow u5.w b (lM (stC a m g) 18 (mL L))=w7 at D⊢;clear D5;clear hK K;simp only[Act.put,zQ,zZ,zJ];try simp only[kC,zX,zK,zV]
 refine zY ?_;intro wa g8;have D:=zW (D.out.step g8);clear g8 g5;clear r0 GB G BW;exact zHW
theorem XV(X:XR base lg b m g rb v a ⟨op,x,y,n,nn,ad,ln⟩ q pc f w)(hL:a.sk=[]):Calls Tryz.prog 89 #[.pointer (some ⟨rb,0,none⟩)] w (pK 3 w):=by
 have D:=zW (DD.refl X);have r0:w.cell? ⟨rb,0,none⟩=some (.pointer (some ⟨b,0,none⟩)):=(X.r.cell 0).trans rfl;have PO:=zW (fun w=>pop_no w);have HS:=zW (show(stC a m g).extract 18 (18+17)=mL [] by rw[fP,hL]);have ST:=zW X.rc.st;clear X hL;go_enter Tryz.func89,Tryz.ntmps89;go_upto_region 0 with fail;refine zG ?_;iterate 18 go_step
 refine nA (o:=18) xS ST.out zL1 rfl (.tmp 11) rfl zLP ?_;rw[HS.out];simp only[Act.put,zQ,zZ,zJ];go_wp2_with fail;refine(PO.out _).mono ?_;rintro e w1 ⟨rfl,b1⟩;have BQ:=zW b1;clear r0 HS ST PO;have D:=zW (D.out.step b1);clear b1;simp only[];go_at_K
 iterate 13 go_step
 refine mT (ds:=mL []) xS dU (lD _) (lD _) (xY _) rfl rfl rfl (.tmp 2) (.tmp 14) rfl zLP zLP ?_;simp only[Act.put,zQ,zZ,zJ];have G:=zW (Blk.new w1 48 (mL []));have b2:=lW w1 (.cells (mL []) 48);have D:=zW (D.out.step b2);have BW:=zW (BQ.out.trans (b2.mono BQ.out.size));clear b2;obtain⟨gs,hgs⟩:∃gs,w1.heap.size=gs:=⟨_,rfl⟩;rw[hgs]at G⊢;generalize World.alloc w1 _=w8 at*;clear hgs;go_wp2_with fail;refine(r9 3 zLA _).mono ?_;rintro e w9 ⟨rfl,rfl⟩;exact⟨rfl,rfl,BW.out⟩
end
end
end Go.Proofs.YthknmadinmigfaaGreatDoor
