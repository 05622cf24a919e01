/- CpuM3, CpuM4, CpuM5, CpuAwake, CpuLaw. -/
import Derived.Test.YtbpniahcjbagmaaGreatDoorMk2b
set_option maxRecDepth 400000
set_option maxHeartbeats 64000000
set_option linter.unusedVariables false
set_option linter.unusedSimpArgs false
namespace Go.Proofs.YtbpniahcjbagmaaGreatDoor
section
open Go.RowKit Num Dec Cpu
theorem sM:nH Tryz.prog 77 (mE []):=by unfold nH;kernel_rfl
theorem zVC{M:List Int}(B:Bts M)(hM:M.length=65536)(a:Int)(j:Nat):M[((a+(j:Int))%65536).toNat]?=some ((byC M a j:Nat):Int):=by
 have h:((a+(j:Int))%65536).toNat<M.length:=zGX;have h2:=B _ h;unfold byC;rw[qJ,zS h,Option.getD_some,Int.toNat_of_nonneg h2.1]
theorem zLE(ks:List Ev)(c:Nat):zLC (dnA ks) (c:Int)=dn ks ((c%16:Nat):Int):=by
 unfold zLC dnA;rw[qY (qG c),Bool.true_and];congr 1
theorem bA{cs:Array Value}{n:Nat}(h:cs.size=n):cs.extract 0 (0+n)=cs:=by subst h;simp
def skP(a:AS)(pc:Int)(t:Bool)(lv:Int):Int:=if t=true then(pc+skl (byC a.M pc 0) (byC a.M pc 1) lv)%65536 else pc
theorem skl_bd(h l:Nat)(lv:Int):0≤skl h l lv∧skl h l lv≤4:=by unfold skl;split<;>omega
section
variable {base:Nat} {lg:Lg} {b m g rb:Nat} {v:Value} {a:AS} {op:Int} {x y n nn:Nat} {ad ln:Int} {q:Pr} {pc:Int} {f:Ef} {w:World}
theorem YC(X:XR base lg b m g rb v a ⟨op,x,y,n,nn,ad,ln⟩ q pc f w)(t:Bool)(O:OkA a)(hp:0≤pc∧pc≤65535):Calls Tryz.prog 124 #[.pointer (some ⟨rb,0,none⟩),.bool t] w (Did base lg b m g rb v ⟨op,x,y,n,nn,ad,ln⟩ q w (a) (skP a pc t q.lv) (f)):=by
 have D:=zW (DD.refl X);cases t
 ·go_enter Tryz.func124,Tryz.ntmps124;go_wp2_with fail;go_end0
  exact⟨rfl,_,D.out⟩
 ·have r0:=X.rk 0 (.pointer (some ⟨b,0,none⟩)) rfl;have r16:=X.rk 16 (.int .i64 pc) rfl;have s35:=X.sk 35 _ (mO _ m g zGX);rw[dE]at s35;obtain⟨h,hh⟩:∃h,byC a.M pc 0=h:=⟨_,rfl⟩;obtain⟨l,hl⟩:∃l,byC a.M pc 1=l:=⟨_,rfl⟩;have e0:=zVC O.B O.M pc 0;have e1:=zVC O.B O.M pc 1;rw[hh]at e0;rw[hl]at e1;have R1:=zW (fun(u:lA w)=>(VZ m a.M v pc (h:Int) ((pc+((0:Nat):Int))%65536).toNat u.w O.M (X.step u.below).rc.mem zGX e0).mono (fun e w' r=>(show e=.returned (.int .u8 (h:Int))∧Below u.w.heap.size u.w w' from by obtain⟨r1,k,r2⟩:=r;exact⟨r1,by rw[r2];exact below_drewN (zB _ _) k⟩)));have R2:=zW (fun(u:lA w)=>(VZ m a.M v (pc+1) (l:Int) ((pc+((1:Nat):Int))%65536).toNat u.w O.M (X.step u.below).rc.mem zGX e1).mono (fun e w' r=>(show e=.returned (.int .u8 (l:Int))∧Below u.w.heap.size u.w w' from by obtain⟨r1,k,r2⟩:=r;exact⟨r1,by rw[r2];exact below_drewN (zB _ _) k⟩)));have wr:IntKind.i64.wrap (pc+1)=pc+1:=by rw[zU];omega
  have HP:=zW hp;rw[show skP a pc true q.lv=(pc+skl h l q.lv)%65536 from by unfold skP;rw[zN rfl,hh,hl]];have SL:=zW (fun w=>sD h l q.lv w);have hb:=skl_bd h l q.lv;generalize skl h l q.lv=z at*;have HZ:=zW hb;clear X O hp e0 e1 hh hl hb;go_enter Tryz.func124,Tryz.ntmps124;go_upto_region 1 with fail;refine m7 zGV zGV ?_;iterate 11 (go_big_quiet_step (fail))
  go_big_quiet_step ((go_at_call 165;exact nK (R1.out _)))
  iterate 12 (go_big_quiet_step (fail))
  go_big_quiet_step ((go_at_call 165;exact nK (R2.out _)))
  iterate 2 (go_big_quiet_step (fail))
  refine zY ?_;intro _ hw';obtain⟨x',rfl⟩:=hw';have b1:=x'.below;generalize x'.w=w1 at*;clear r0 r16 s35 R1 R2 wr;have D:=zW (D.out.step b1);clear b1;have r8:=D.out.x.rk 8 (.int .i64 q.lv) rfl;have r16:=D.out.x.rk 16 (.int .i64 pc) rfl;have wr:IntKind.i64.wrap (pc+z)=pc+z:=by have h1:=HZ.out;have h2:=HP.out;rw[zU];omega
  have WR:=zW (fun w=>bJ (pc+z) w);go_upto_region 2 with fail;refine lT (C:=fun w'=>∃u:lA w1,w'=u.w) 17 [([0,1,2,3,4,5,6,7,8,9,10,11],12,true),([13],14,true)] [15,16] [] zGV zGV ?_ ?_ ⟨⟨w1.drew,(zB _ _).drew⟩,rfl⟩ ?_
  ·exact zBB
  ·exact zBN
  intro wd hwd;clear hwd;refine mV zGW zGY ?_;iterate 12 (go_big_quiet_step (fail))
  refine zY ?_;refine mW (v:=.int .i64 z) (mC (g:=87) (caps:=#[]) (args:=#[.int .u8 (h:Int),.int .u8 (l:Int),.int .i64 q.lv]) (.func 87) _ _ rfl rfl (enters_of Tryz.func87 zGV rfl) (fun w' hw=>by obtain⟨u,rfl⟩:=hw;exact(SL.out u.w).mono fun e w'' h=>⟨h.1,by rw[←h.2];exact Gr.refl _⟩) rfl zGK) ?_;simp only[Act.put,zQ,zZ,zJ];refine mV zGW zGY ?_;iterate 1 (go_big_quiet_step (fail))
  refine zY ?_;refine mW (v:=.int .i64 ((pc+z)%65536)) (mC (g:=77) (caps:=#[]) (args:=#[.int .i64 (pc+z)]) (.func 77) _ _ rfl rfl (enters_of Tryz.func77 zGV rfl) (fun w' hw=>by obtain⟨u,rfl⟩:=hw;exact(WR.out u.w).mono fun e w'' h=>⟨h.1,by rw[←h.2];exact Gr.refl _⟩) rfl zGK) ?_;simp only[Act.put,zQ,zZ,zJ];refine mZ zGW zGY ?_;iterate 2 (go_big_quiet_step (fail))
  refine zY ?_;refine mJ rfl ?_;intro w5 g5 C5 K hK;obtain⟨u5,rfl⟩:=C5;have D5:=zW (D.out.step u5.below);have cc:=D5.out.x.r.cell 16;have fc:=D5.out.x.r.frozen 16;go_wp2_with fail;have D:=zW (D5.out.rput (pc':=(pc+z)%65536) (f':=f) 16 (.int .i64 ((pc+z)%65536)) (rfl));exact zR4
theorem dP(X:XR base lg b m g rb v a ⟨op,x,y,n,nn,ad,ln⟩ q pc f w)(O:OkA a)(hp:0≤pc∧pc≤65535)(hx:x<16)(hy:y<16)(hn:nn<256):Calls Tryz.prog 89 #[.pointer (some ⟨rb,0,none⟩)] w (Did base lg b m g rb v ⟨op,x,y,n,nn,ad,ln⟩ q w (a) (skP a pc (skB a.v ⟨op,x,y,n,nn,ad,ln⟩) q.lv) (f)):=by
 have D:=zW (DD.refl X);have SB:=zW (lD X.rc.st);have RBh:=zW (lD X.r);have r0:=X.rk 0 (.pointer (some ⟨b,0,none⟩)) rfl;have SK:=zW (fun w=>iP.sk a.v op x y nn n ad ln w O.v hx hy hn);have OO:=zW (zM O hp);clear X O hp;go_enter Tryz.func89,Tryz.ntmps89;go_upto_region 0 with fail;refine m7 zGV zGV ?_;iterate 6 (go_big_quiet_step (fail))
 refine lR (o:=0) zWX SB.out zGG rfl (.tmp 10) rfl zGK ?_;rw[zHC];simp only[Act.put,zQ,zZ,zJ];iterate 3 (go_big_quiet_step (fail))
 refine lR (o:=1) dJ RBh.out (by show _≤21;decide) rfl (.tmp 14) rfl zGK ?_;rw[zJ1];simp only[Act.put,zQ,zZ,zJ];go_big_quiet_step ((go_at_call 123;exact nK (SK.out _)))
 iterate 5 (go_big_quiet_step (fail))
 refine zY ?_;intro _ hw';obtain⟨x',rfl⟩:=hw';have b1:=x'.below;generalize x'.w=w1 at*;clear r0 SK SB RBh;have D:=zW (D.out.step b1);clear b1;go_wp2_with fail;refine(YC D.out.x (skB a.v ⟨op,x,y,n,nn,ad,ln⟩) OO.out.1 OO.out.2).mono ?_;rintro e w2 ⟨rfl,v',D2h⟩;have D:=zW (D.out.then D2h);clear D2h;go_wp2_with fail;go_end0
 exact⟨rfl,v',D.out⟩
theorem JV(X:XR base lg b m g rb v a ⟨op,x,y,n,nn,ad,ln⟩ q pc f w)(O:OkA a)(hp:0≤pc∧pc≤65535)(hx:x<16):Calls Tryz.prog 90 #[.pointer (some ⟨rb,0,none⟩)] w (Did base lg b m g rb v ⟨op,x,y,n,nn,ad,ln⟩ q w (a) (skP a pc (dn a.ks ((a.v x%16:Nat):Int)==(op==24)) q.lv) (f)):=by
 have D:=zW (DD.refl X);have SB:=zW (lD X.rc.st);have RBh:=zW (lD X.r);have VX:=zW (fun(u:lA w)=>fZ (X.step u.below) hx);have r0:=X.rk 0 (.pointer (some ⟨b,0,none⟩)) rfl;have r1:=X.rk 1 (.int .i64 op) rfl;have sx:=X.vk hx;have hv:=O.v x hx;have v0:(0:Int)≤(a.v x:Int):=qG _;have v1:(a.v x:Int)<256:=zGX;have ID:=zW (fun w=>zLE a.ks (a.v x)▸DU (dnA a.ks) (a.v x:Int) w zGX);have OO:=zW (zM O hp);clear X O hp hv;go_enter Tryz.func90,Tryz.ntmps90;refine lT (C:=fun w'=>∃u:lA w,w'=u.w) 21 [([0,1,2,3,4,5,6,7,8,14,15,16,17,18,19],9,true),([10,11,12],13,true)] [20] [] zGV zGV ?_ ?_ ⟨⟨w.drew,(zB _ _).drew⟩,rfl⟩ ?_
 ·exact zBB
 ·exact zBN
 intro wd hwd;clear hwd;refine mV zGW zGY ?_;iterate 7 (go_big_quiet_step (fail))
 refine lR (o:=550) zHJ SB.out zGG rfl (.tmp 8) rfl zGK ?_;rw[AZ];simp only[Act.put,zQ,zZ,zJ];iterate 7 (go_big_quiet_step (fail))
 refine zY ?_;refine mW (v:=.pointer (some ⟨b,x,none⟩)) (mC (g:=126) (caps:=#[]) (args:=#[.pointer (some ⟨rb,0,none⟩)]) (.func 126) _ _ rfl rfl (enters_of Tryz.func126 zGV rfl) (fun w' hw=>by obtain⟨u,rfl⟩:=hw;exact VX.out u) rfl zGK) ?_;simp only[Act.put,zQ,zZ,zJ];refine mV zGW zGY ?_;iterate 3 (go_big_quiet_step (fail))
 refine zY ?_;refine mW (v:=.bool (dn a.ks ((a.v x%16:Nat):Int))) (mC (g:=125) (caps:=#[]) (args:=#[.agg (kc (dnA a.ks)),.int .i64 (a.v x:Int)]) (.func 125) _ _ rfl rfl (enters_of Tryz.func125 zGV rfl) (fun w' hw=>by obtain⟨u,rfl⟩:=hw;exact ID.out u.w) rfl zGK) ?_;simp only[Act.put,zQ,zZ,zJ];refine mZ zGW zGY ?_;iterate 1 (go_big_quiet_step (fail))
 refine zY ?_;refine mJ rfl ?_;intro w5 g5 C5 K hK;obtain⟨u5,rfl⟩:=C5;have D5:=zW (D.out.step u5.below);refine mK (g:=124) (caps:=#[]) (args:=#[.pointer (some ⟨rb,0,none⟩),.bool (dn a.ks ((a.v x%16:Nat):Int)==(op==24))]) (.func 124) _ _ rfl (enters_of Tryz.func124 zGV rfl) rfl zGK ?_;refine(YC D5.out.x (dn a.ks ((a.v x%16:Nat):Int)==(op==24)) OO.out.1 OO.out.2).mono ?_;rintro e w7 ⟨rfl,v',D2h⟩;have D:=zW (D5.out.then D2h);clear D2h D5;refine⟨_,rfl,?_⟩;refine hK _ _ ?_;clear hK K;simp only[Act.put,zQ,zZ,zJ];exact zBH
theorem OU(X:XR base lg b m g rb v a ⟨op,x,y,n,nn,ad,ln⟩ q pc f w)(O:OkA a)(hx:x<16)(ha:0≤ad∧ad≤65535):Calls Tryz.prog 92 #[.pointer (some ⟨rb,0,none⟩)] w (Did base lg b m g rb v ⟨op,x,y,n,nn,ad,ln⟩ q w (a) ((ad+(a.v (if q.jx=true then x else 0):Int))%65536) (f)):=by
 have XX:=zW X;have D:=zW (DD.refl X);have HA:=zW ha;have HX:=zW hx;have r0:w.cell? ⟨rb,0,none⟩=some (.pointer (some ⟨b,0,none⟩)):=(X.r.cell 0).trans rfl;have r6:w.cell? ⟨rb,6,none⟩=some (.int .i64 ad):=(X.r.cell 6).trans rfl;have r11:w.cell? ⟨rb,11,none⟩=some (.bool q.jx):=(X.r.cell 11).trans rfl;have r16:w.cell? ⟨rb,16,none⟩=some (.int .i64 pc):=(X.r.cell 16).trans rfl;have c0:=X.vc (show 0<16 by decide);obtain⟨lv,sh,ki,jx,lr,cl,dw,fa⟩:=q;cases jx
 ·have OV:=zW (O.v 0 zGL);have v0:(0:Int)≤(a.v 0:Int):=qG _;have v1:(a.v 0:Int)<256:=by have:=OV.out;omega
  clear X O ha hx;go_enter Tryz.func92,Tryz.ntmps92;have f16:=D.out.x.r.frozen 16;have WR:=zW (fun w=>bJ (ad+(a.v 0:Int)) w);have wr:IntKind.i64.wrap (ad+(a.v 0:Int))=ad+(a.v 0:Int):=by rw[zU];have h1:=OV.out;have h2:=HA.out;omega
  go_wp2_with fail;refine(WR.out _).mono ?_;rintro e w' ⟨rfl,rfl⟩;exact zB5
 ·have OV:=zW (O.v x hx);have v0:(0:Int)≤(a.v x:Int):=qG _;have v1:(a.v x:Int)<256:=by have:=OV.out;omega
  clear X O ha hx;go_enter Tryz.func92,Tryz.ntmps92;go_wp2_with fail;refine(fZ XX.out HX.out).mono ?_;rintro e w1 ⟨rfl,b1⟩;clear r0 r6 r11 r16 c0;have D:=zW (D.out.step b1);clear b1;have r0:w1.cell? ⟨rb,0,none⟩=some (.pointer (some ⟨b,0,none⟩)):=(D.out.x.r.cell 0).trans rfl;have r6:w1.cell? ⟨rb,6,none⟩=some (.int .i64 ad):=(D.out.x.r.cell 6).trans rfl;have r16:w1.cell? ⟨rb,16,none⟩=some (.int .i64 pc):=(D.out.x.r.cell 16).trans rfl;have cv:=D.out.x.vc HX.out;have f16:=D.out.x.r.frozen 16;have WR:=zW (fun w=>bJ (ad+(a.v x:Int)) w);have wr:IntKind.i64.wrap (ad+(a.v x:Int))=ad+(a.v x:Int):=by rw[zU];have h1:=OV.out;have h2:=HA.out;omega
  go_wp2_with fail;refine(WR.out _).mono ?_;rintro e w' ⟨rfl,rfl⟩;exact zB5
theorem call19(X:XR base lg b m g rb v a ⟨op,x,y,n,nn,ad,ln⟩ q pc f w)(h16:a.sk.length<16):Calls Tryz.prog 93 #[.pointer (some ⟨rb,0,none⟩)] w (Did base lg b m g rb v ⟨op,x,y,n,nn,ad,ln⟩ q w ({a with sk:=a.sk++[pc]}) (ad) (f)):=by
 have D:=zW (DD.refl X);have SB:=zW (lD X.rc.st);have RBh:=zW (lD X.r);have r0:=X.rk 0 (.pointer (some ⟨b,0,none⟩)) rfl;have r16:=X.rk 16 (.int .i64 pc) rfl;have PU:=zW (fun w=>zXW a.sk pc h16 w);clear X h16;go_enter Tryz.func93,Tryz.ntmps93;go_upto_region 0 with fail;refine lT (C:=fun w'=>∃u:lA w,w'=u.w) 16 [([0,1,2,3,4,5,6,7,8,9,10],11,true),([12,13,14],15,false)] [] [17] zGV zGV ?_ ?_ ⟨⟨w.drew,(zB _ _).drew⟩,rfl⟩ ?_
 ·exact zBB
 ·exact zBN
 intro wd hwd;clear hwd;refine mV zGW zGY ?_;iterate 6 (go_big_quiet_step (fail))
 refine lR (o:=18) yG SB.out zGG rfl (.tmp 10) rfl zGK ?_;rw[iL];simp only[Act.put,zQ,zZ,zJ];iterate 4 (go_big_quiet_step (fail))
 refine zY ?_;refine mW (v:=.tuple #[.agg (mE (a.sk++[pc])),.int .i64 0]) (mC (g:=127) (caps:=#[]) (args:=#[.agg (mE a.sk),.int .i64 pc]) (.func 127) _ _ rfl rfl (enters_of Tryz.func127 zGV rfl) (fun w' hw=>by obtain⟨u,rfl⟩:=hw;exact PU.out u.w) rfl zGK) ?_;simp only[Act.put,zQ,zZ,zJ];refine cD zGW zGY ?_;iterate 3 (go_big_quiet_step (fail))
 refine zY ?_;refine cR rfl ?_;intro w4 g4 C4 K hK;obtain⟨u4,rfl⟩:=C4;refine nJ sM rfl ?_;have B6:=zW (u4.below.trans ((lV u4.w (.cells (mE []) 77)).mono u4.below.size));have G6:=zW (Blk.new u4.w 77 (mE []));have L6:=zW u4.below.size;refine hK _ _ ⟨⟨_,B6.out⟩,rfl⟩ ?_;clear hK K g4;obtain⟨gs,hgs⟩:∃gs,u4.w.heap.size=gs:=⟨_,rfl⟩;rw[hgs]at G6 L6⊢;generalize World.alloc u4.w _=w6 at*;clear hgs u4;simp only[Act.put,zQ,zZ,zJ];refine mZ zGW zGY ?_;refine zY ?_;refine mJ rfl ?_;intro w5 g5 C5 K hK;obtain⟨u5,rfl⟩:=C5;have D5:=zW (D.out.step u5.below);have G5:=zW (G6.out.step g5);refine nY (ds:=mE (a.sk++[pc])) yG G5.out (mX _) (mX _) (yJ _) (.tmp 2) (.tmp 17) rfl zGK zGK ?_;have B7:=zW (lU u5.below L6.out (mE (a.sk++[pc])));have G7:=zW (G5.out.store (mE (a.sk++[pc])));refine hK _ _ ?_;generalize World.setRow u5.w gs (mE (a.sk++[pc]))=w7 at*;clear G5 D5 G6;clear hK K;simp only[Act.put,zQ,zZ,zJ];try simp only[lW,zX,zK,zV]
 iterate 1 (go_big_quiet_step (fail))
 refine zY ?_;intro w8 g8;have D:=zW (D.out.step (B7.out.trans (g8.mono B7.out.size)));have BW:=zW (B7.out.trans (g8.mono B7.out.size));have G:=zW (G7.out.step g8);clear g8 g5 G7 B7 B6 L6 SB RBh r0 r16 PU u5;go_wp2_with fail;refine(dF _).mono ?_;rintro e w9 ⟨rfl,rfl⟩;have r0:=D.out.x.rk 0 (.pointer (some ⟨b,0,none⟩)) rfl;have GB:=zW (lD G.out);go_upto_region 2 with fail;refine lT (C:=fun w'=>∃u:lA w8,w'=u.w) 7 [] [0,1,2,3,4,5,6] [] zGV zGV ?_ ?_ ⟨⟨w8.drew,(zB _ _).drew⟩,rfl⟩ ?_
 ·exact zBB
 ·exact zBN
 intro wd hwd;clear hwd;refine mZ zGW zGY ?_;iterate 4 (go_big_quiet_step (fail))
 refine lR (o:=0) yG GB.out (by rw[mX];decide) rfl (.tmp 2) rfl zGK ?_;rw[bA (mX (a.sk++[pc]))];simp only[Act.put,zQ,zZ,zJ];iterate 2 (go_big_quiet_step (fail))
 refine zY ?_;refine mJ rfl ?_;intro w5 g5 C5 K hK;obtain⟨u5,rfl⟩:=C5;have D5:=zW (D.out.step u5.below);refine mS (o:=18) (ds:=mE (a.sk++[pc])) yG D5.out.x.rc.st (mX _) zGG (yJ _) (.tmp 27) (.tmp 25) rfl zGK zGK ?_;have D:=zW (D5.out.row (a':={a with sk:=(a.sk++[pc])}) (cs:=lP (stC a m g) 18 (mE (a.sk++[pc]))) (i9 a m g (a.sk++[pc])) rfl rfl rfl (D5.out.x.rc.res));refine hK _ _ ?_;generalize World.setRow u5.w b (lP (stC a m g) 18 (mE (a.sk++[pc])))=w7 at D⊢;clear D5;clear hK K;simp only[Act.put,zQ,zZ,zJ];try simp only[lW,zX,zK,zV]
 refine zY ?_;intro wa g8;have D:=zW (D.out.step g8);clear g8 g5;clear r0 GB G BW;have r6:wa.cell? ⟨rb,6,none⟩=some (.int .i64 ad):=(D.out.x.r.cell 6).trans rfl;exact zR6
theorem zQI(X:XR base lg b m g rb v a ⟨op,x,y,n,nn,ad,ln⟩ q pc f w)(h16:a.sk.length=16):Calls Tryz.prog 93 #[.pointer (some ⟨rb,0,none⟩)] w (f8 2 w):=by
 have D:=zW (DD.refl X);have SB:=zW (lD X.rc.st);have RBh:=zW (lD X.r);have r0:=X.rk 0 (.pointer (some ⟨b,0,none⟩)) rfl;have r16:=X.rk 16 (.int .i64 pc) rfl;have PU:=zW (fun w=>zY2 a.sk pc h16 w);clear X h16;go_enter Tryz.func93,Tryz.ntmps93;go_upto_region 0 with fail;refine lT (C:=fun w'=>∃u:lA w,w'=u.w) 16 [([0,1,2,3,4,5,6,7,8,9,10],11,true),([12,13,14],15,false)] [] [17] zGV zGV ?_ ?_ ⟨⟨w.drew,(zB _ _).drew⟩,rfl⟩ ?_
 ·exact zBB
 ·exact zBN
 intro wd hwd;clear hwd;refine mV zGW zGY ?_;iterate 6 (go_big_quiet_step (fail))
 refine lR (o:=18) yG SB.out zGG rfl (.tmp 10) rfl zGK ?_;rw[iL];simp only[Act.put,zQ,zZ,zJ];iterate 4 (go_big_quiet_step (fail))
 refine zY ?_;refine mW (v:=.tuple #[.agg (mE a.sk),.int .i64 2]) (mC (g:=127) (caps:=#[]) (args:=#[.agg (mE a.sk),.int .i64 pc]) (.func 127) _ _ rfl rfl (enters_of Tryz.func127 zGV rfl) (fun w' hw=>by obtain⟨u,rfl⟩:=hw;exact PU.out u.w) rfl zGK) ?_;simp only[Act.put,zQ,zZ,zJ];refine cD zGW zGY ?_;iterate 3 (go_big_quiet_step (fail))
 refine zY ?_;refine cR rfl ?_;intro w4 g4 C4 K hK;obtain⟨u4,rfl⟩:=C4;refine nJ sM rfl ?_;have B6:=zW (u4.below.trans ((lV u4.w (.cells (mE []) 77)).mono u4.below.size));have G6:=zW (Blk.new u4.w 77 (mE []));have L6:=zW u4.below.size;refine hK _ _ ⟨⟨_,B6.out⟩,rfl⟩ ?_;clear hK K g4;obtain⟨gs,hgs⟩:∃gs,u4.w.heap.size=gs:=⟨_,rfl⟩;rw[hgs]at G6 L6⊢;generalize World.alloc u4.w _=w6 at*;clear hgs u4;simp only[Act.put,zQ,zZ,zJ];refine mZ zGW zGY ?_;refine zY ?_;refine mJ rfl ?_;intro w5 g5 C5 K hK;obtain⟨u5,rfl⟩:=C5;have D5:=zW (D.out.step u5.below);have G5:=zW (G6.out.step g5);refine nY (ds:=mE a.sk) yG G5.out (mX _) (mX _) (yJ _) (.tmp 2) (.tmp 17) rfl zGK zGK ?_;have B7:=zW (lU u5.below L6.out (mE a.sk));have G7:=zW (G5.out.store (mE a.sk));refine hK _ _ ?_;generalize World.setRow u5.w gs (mE a.sk)=w7 at*;clear G5 D5 G6;clear hK K;simp only[Act.put,zQ,zZ,zJ];try simp only[lW,zX,zK,zV]
 iterate 1 (go_big_quiet_step (fail))
 refine zY ?_;intro w8 g8;have D:=zW (D.out.step (B7.out.trans (g8.mono B7.out.size)));have BW:=zW (B7.out.trans (g8.mono B7.out.size));have G:=zW (G7.out.step g8);clear g8 g5 G7 B7 B6 L6 SB RBh r0 r16 PU u5;go_wp2_with fail;refine(t9 2 zGL _).mono ?_;rintro e w9 ⟨rfl,rfl⟩;exact⟨rfl,rfl,BW.out⟩
theorem zKA(X:XR base lg b m g rb v a ⟨op,x,y,n,nn,ad,ln⟩ q pc f w)(L:List Int)(t:Int)(hL:a.sk=L++[t])(h16:L.length<16):Calls Tryz.prog 94 #[.pointer (some ⟨rb,0,none⟩)] w (Did base lg b m g rb v ⟨op,x,y,n,nn,ad,ln⟩ q w ({a with sk:=L}) (t) (f)):=by
 have D:=zW (DD.refl X);have r0:w.cell? ⟨rb,0,none⟩=some (.pointer (some ⟨b,0,none⟩)):=(X.r.cell 0).trans rfl;have PO:=zW (fun w=>zY3 L t h16 w);have HS:=zW (show(stC a m g).extract 18 (18+17)=mE (L++[t]) by rw[iL,hL]);have ST:=zW X.rc.st;clear X hL h16;go_enter Tryz.func94,Tryz.ntmps94;go_upto_region 0 with fail;refine zH ?_;iterate 18 go_step
 refine m6 (o:=18) yG ST.out zGG rfl (.tmp 11) rfl zGK ?_;rw[HS.out];simp only[Act.put,zQ,zZ,zJ];go_wp2_with fail;refine(PO.out _).mono ?_;rintro e w1 ⟨rfl,b1⟩;clear r0 HS ST PO;have D:=zW (D.out.step b1);clear b1;simp only[];go_at_K
 iterate 13 go_step
 refine lO (ds:=mE L) yG sM (mX _) (mX _) (yJ _) rfl rfl rfl (.tmp 2) (.tmp 14) rfl zGK zGK ?_;simp only[Act.put,zQ,zZ,zJ];have G:=zW (Blk.new w1 77 (mE L));have b2:=lV w1 (.cells (mE L) 77);have D:=zW (D.out.step b2);have BW:=zW b2;clear b2;obtain⟨gs,hgs⟩:∃gs,w1.heap.size=gs:=⟨_,rfl⟩;rw[hgs]at G⊢;generalize World.alloc w1 _=w8 at*;clear hgs;go_wp2_with fail;refine(dF _).mono ?_;rintro e w9 ⟨rfl,rfl⟩;have r0:=D.out.x.rk 0 (.pointer (some ⟨b,0,none⟩)) rfl;have GB:=zW (lD G.out);go_upto_region 2 with fail;refine lT (C:=fun w'=>∃u:lA w8,w'=u.w) 7 [] [0,1,2,3,4,5,6] [] zGV zGV ?_ ?_ ⟨⟨w8.drew,(zB _ _).drew⟩,rfl⟩ ?_
 ·exact zBB
 ·exact zBN
 intro wd hwd;clear hwd;refine mZ zGW zGY ?_;iterate 4 (go_big_quiet_step (fail))
 refine lR (o:=0) yG GB.out (by rw[mX];decide) rfl (.tmp 2) rfl zGK ?_;rw[bA (mX L)];simp only[Act.put,zQ,zZ,zJ];iterate 2 (go_big_quiet_step (fail))
 refine zY ?_;refine mJ rfl ?_;intro w5 g5 C5 K hK;obtain⟨u5,rfl⟩:=C5;have D5:=zW (D.out.step u5.below);refine mS (o:=18) (ds:=mE L) yG D5.out.x.rc.st (mX _) zGG (yJ _) (.tmp 25) (.tmp 23) rfl zGK zGK ?_;have D:=zW (D5.out.row (a':={a with sk:=L}) (cs:=lP (stC a m g) 18 (mE L)) (i9 a m g L) rfl rfl rfl (D5.out.x.rc.res));refine hK _ _ ?_;generalize World.setRow u5.w b (lP (stC a m g) 18 (mE L))=w7 at D⊢;clear D5;clear hK K;simp only[Act.put,zQ,zZ,zJ];try simp only[lW,zX,zK,zV]
 refine zY ?_;intro wa g8;have D:=zW (D.out.step g8);clear g8 g5;clear r0 GB G BW;exact zR6
theorem WY(X:XR base lg b m g rb v a ⟨op,x,y,n,nn,ad,ln⟩ q pc f w)(hL:a.sk=[]):Calls Tryz.prog 94 #[.pointer (some ⟨rb,0,none⟩)] w (f8 3 w):=by
 have D:=zW (DD.refl X);have r0:w.cell? ⟨rb,0,none⟩=some (.pointer (some ⟨b,0,none⟩)):=(X.r.cell 0).trans rfl;have PO:=zW (fun w=>pop_no w);have HS:=zW (show(stC a m g).extract 18 (18+17)=mE [] by rw[iL,hL]);have ST:=zW X.rc.st;clear X hL;go_enter Tryz.func94,Tryz.ntmps94;go_upto_region 0 with fail;refine zH ?_;iterate 18 go_step
 refine m6 (o:=18) yG ST.out zGG rfl (.tmp 11) rfl zGK ?_;rw[HS.out];simp only[Act.put,zQ,zZ,zJ];go_wp2_with fail;refine(PO.out _).mono ?_;rintro e w1 ⟨rfl,b1⟩;have BQ:=zW b1;clear r0 HS ST PO;have D:=zW (D.out.step b1);clear b1;simp only[];go_at_K
 iterate 13 go_step
 refine lO (ds:=mE []) yG sM (mX _) (mX _) (yJ _) rfl rfl rfl (.tmp 2) (.tmp 14) rfl zGK zGK ?_;simp only[Act.put,zQ,zZ,zJ];have G:=zW (Blk.new w1 77 (mE []));have b2:=lV w1 (.cells (mE []) 77);have D:=zW (D.out.step b2);have BW:=zW (BQ.out.trans (b2.mono BQ.out.size));clear b2;obtain⟨gs,hgs⟩:∃gs,w1.heap.size=gs:=⟨_,rfl⟩;rw[hgs]at G⊢;generalize World.alloc w1 _=w8 at*;clear hgs;go_wp2_with fail;refine(t9 3 zGL _).mono ?_;rintro e w9 ⟨rfl,rfl⟩;exact⟨rfl,rfl,BW.out⟩
end
theorem zY7(M:List Int)(i:Int)(j:Nat)(hj:j<16):pad (seg M i 16) j=(seg M i 16).getD j 0:=by
 have h:j<(seg M i 16).length:=by rw[cO];exact hj
 rw[zXR _ j h,qJ,zS h,Option.getD_some]
theorem MH{M:List Int}(B:Bts M)(hM:M.length=65536)(i:Int)(k:Nat):∀j (h:j<(seg M i k).length),(seg M i k)[j]=((byC M i j:Nat):Int):=fun j h=>by
 have e:=seg_at B hM i k j (by rw[cO]at h;exact h);rw[zS h]at e;exact jZ e
theorem cut3(p:Nat)(w:World):(Instr.sliceAt 232 (.pointer (some ⟨p,0,none⟩)) none none none).run Tryz.prog w=.ok (.slice (some ⟨p,0,none⟩) 3 3) w:=by
 have h:=run_sliceAt_array_all (P:=Tryz.prog) w 232 ⟨p,0,none⟩ Tryz.underlying232;exact zRP
theorem dig_rd{p c:Nat}{w:World}(h:Blk p 232 (d3 c) w):Rd w (some ⟨p,0,none⟩) (N9 c):=iR h 0 _ fun j hj=>by
 rcases j with _|_|_|j
 ·simp[d3,N9]
 ·simp[d3,N9]
 ·simp[d3,N9]
 ·exact absurd hj (by simp[N9])
theorem IK{b p:Nat}{T:TypeId}{cs:Array Value}{M:List Int}{v:Value}{w:World}(h:Blk b T cs w)(k:nV p M v w)(e:T≠144):b≠p:=fun hb=>by
 have h:w.heap[b]?=some (.cells cs T (0,0)):=h;have k:w.heap[p]?=some (.cells (cells M v) 144 (0,0)):=k;rw[hb,k]at h;injection h with h
 injection h with _ h
 exact e h.symm
theorem DV(v:Nat→Nat)(B:Nat→Nat)(K:Nat):∀k,k≤K→∀j,ldN v (upL 0 K) B k j=if j<k then B j else v j
 |0,_,j=>by rw[zL zGX];rfl
 |k+1,hk,j=>by
  have e:((upL 0 K).getD k 0).toNat=k:=by unfold upL;rw[qJ,jX,List.getElem?_range zGX];simp
  unfold ldN Cpu.upd;rw[e,DV v B K k zGX j];by_cases h:j=k
  ·subst h;rw[zN rfl,zN zGX]
  ·rw[zL h];by_cases h2:j<k
   ·rw[zN h2,zN zGX]
   ·rw[zL h2,zL zGX]
theorem zJL(c:Array Value)(ys:List Value):(splice c.toList 0 ys).toArray=lP c 0 ys.toArray:=by unfold splice lP;simp
theorem YT(a:AS)(m g:Nat)(L:List Int)(B:Nat→Nat)(k:Nat)(hk:L.length=k)(h16:k≤16)(hB:∀j (h:j<L.length),L[j]=((B j:Nat):Int)):
  (splice (stC a m g).toList 0 ((L.take 16).map (Value.int .u8))).toArray=stC {a with v:=ldN a.v (upL 0 k) B k} m g:=by
 rw[zJL,qV zGX];have hs:(L.map (Value.int .u8)).toArray.size=k:=by simp[hk]
 refine nI (by rw[hs];omega) (fun j hj=>?_) fun j hj h=>?_
 ·rw[hs]at hj;rw[qL,gT _ m g zGX,zX,jX,zS zGX];simp only[Option.map_some];rw[hB j zGX,DV a.v B k k (zG _) j,zN hj]
 ·rw[hs]at h;refine n7 _ _ _ _ _ (fun _=>?_) (fun _=>rfl) (fun _=>rfl) (fun _=>rfl) (fun _=>rfl) (fun _=>rfl) (fun _=>rfl) (fun _=>rfl) (fun _=>rfl) (fun _=>rfl) (fun _=>rfl);show a.v j=ldN a.v (upL 0 k) B k j;rw[DV a.v B k k (zG _) j,zL zGX]
theorem J0{a:AS}{b m g:Nat}{w:World}(h:Blk b 89 (stC a m g) w)(k:Nat)(hk:k≤16):Rd w (some ⟨b,0,none⟩) (vY a.v k):=iR h 0 _ fun j hj=>by
 rw[sZ]at hj;rw[qL,mO _ _ _ zGX,gT _ _ _ zGX];simp[vY]
theorem cutV(p k:Nat)(hk:k≤16)(w:World):(Instr.sliceAt 43 (.pointer (some ⟨p,0,none⟩)) none (some (.int .i64 (k:Int))) none).run Tryz.prog w=.ok (.slice (some ⟨p,0,none⟩) k 16) w:=by
 have hl:Tryz.prog.arrayLen 43=16:=zGV;have h:=run_sliceAt_array_h (P:=Tryz.prog) w 43 ⟨p,0,none⟩ Tryz.underlying43 .i64 (k:Int) zGX (by rw[hl];omega);rw[h,hl];show Result.ok (slicedAt _ _ _ _ 1) w=_;unfold slicedAt;rw[zL (by first|omega|decide|(simp;done)),xE];simp
theorem WU{base:Nat}{lg:Lg}{b m g rb:Nat}{v v1:Value}{i:Ins}{q:Pr}{w w1 w2:World}{a a':AS}{pc:Int}{f:Ef}(D:DD base lg b m g rb v v1 i q w a pc f w1)(hb:w2.heap[b]?=some (.cells (stC a' m g) 89 (0,0)))(ha:∀k,nW b k w1 w2)(eM:a'.M=a.M)(eL:a'.L=a.L)(eR:a'.rd=a.rd)(hres:∀i,i<4→yL (a'.F i) (wid a'.hi) (hei a'.hi)):DD base lg b m g rb v v1 i q w a' pc f w2:=by
 have kk:lS (fun k=>k=b∨some k=none) w1 w2:=lS.of_apart (ha none);have no:∀p,p<w1.heap.size→p≠b→w2.heap[p]?=w1.heap[p]?:=fun p h1 h2=>kk.block p h1 (fun c=>by rcases c with c|c;exact h2 c;cases c);obtain⟨n1,n2,n3,n4,n5,n6⟩:=D.x.rc.ne;refine D.to ⟨⟨hb,?_,?_,?_,hres,D.x.rc.bb,D.x.rc.bm⟩,(no rb D.x.r.lt D.x.ne).trans D.x.r⟩ (kk.mono fun k _ c=>by rcases c with c|c;exact .inl (.inl c);cases c)
 ·rw[eM];exact(no m D.x.rc.mem.lt (fun e=>n1 e.symm)).trans D.x.rc.mem
 ·rw[eM];obtain⟨n,xs,o,r⟩:=D.x.rc.log;exact⟨n,xs,cV o kk (fun k ek c=>c.elim (fun c=>n4 (c▸ek)) (fun c=>by cases c)),r⟩
 ·rw[eL,eR];obtain⟨A,c,hg,o⟩:=D.x.rc.rnd.held;exact⟨D.x.rc.rnd.low,A,c,(no g D.x.rc.rnd.lt (fun e=>n2 e.symm)).trans hg,cV o kk (fun k ek c=>c.elim (fun c=>D.x.rc.row_off o ⟨by decide,by decide,by decide,by decide⟩ k ek (.inl c)) (fun c=>by cases c))⟩
section
variable {base:Nat} {lg:Lg} {b m g rb:Nat} {v:Value} {a:AS} {op:Int} {x y n nn:Nat} {ad ln:Int} {q:Pr} {pc:Int} {f:Ef} {w:World}
theorem YO(X:XR base lg b m g rb v a ⟨op,x,y,n,nn,ad,ln⟩ q pc f w)(hx:x<16):Calls Tryz.prog 113 #[.pointer (some ⟨rb,0,none⟩)] w (Did base lg b m g rb v ⟨op,x,y,n,nn,ad,ln⟩ q w ({a with fl:=ov a.fl (vY a.v (x+1))}) (pc) (f)):=by
 obtain⟨k,hk⟩:∃k,x+1=k:=⟨_,rfl⟩;rw[hk];have wr:IntKind.i64.wrap ((x:Int)+1)=(k:Int):=by rw[zU];omega
 have k16:k≤16:=zGX;have cut:=fun w=>cutV b k k16 w;have D:=zW (DD.refl X);have SB:=zW (lD X.rc.st);have RBh:=zW (lD X.r);have r0:=X.rk 0 (.pointer (some ⟨b,0,none⟩)) rfl;have r2:=X.rk 2 (.int .i64 (x:Int)) rfl;have RG:=zW (fun w=>vT x hx w);have SF:=zW (fun(u:lA w)=>zJP a.fl (some ⟨b,0,none⟩) k 16 (vY a.v k) u.w (J0 (X.step u.below).rc.st k k16) (sZ _ _));clear X hx hk;go_enter Tryz.func113,Tryz.ntmps113;refine lT (C:=fun w'=>∃u:lA w,w'=u.w) 28 [([0,1,2,3,4,5,6,7,8,9,10,11,12,13,14,15,16,17,18,19,20,21],22,true),([23,24],25,true)] [26,27] [] zGV zGV ?_ ?_ ⟨⟨w.drew,(zB _ _).drew⟩,rfl⟩ ?_
 ·exact zBB
 ·exact zBN
 intro wd hwd;clear hwd;refine mV zGW zGY ?_;iterate 10 (go_big_quiet_step (fail))
 refine lR (o:=585) FY SB.out zGG rfl (.tmp 11) rfl zGK ?_;rw[zJV];simp only[Act.put,zQ,zZ,zJ];iterate 11 (go_big_quiet_step (fail))
 refine zY ?_;refine mW (v:=.int .i64 (x:Int)) (mC (g:=134) (caps:=#[]) (args:=#[.int .i64 (x:Int)]) (.func 134) _ _ rfl rfl (enters_of Tryz.func134 zGV rfl) (fun w' hw=>by obtain⟨u,rfl⟩:=hw;exact(RG.out u.w).mono fun e w'' h=>⟨h.1,by rw[←h.2];exact Gr.refl _⟩) rfl zGK) ?_;simp only[Act.put,zQ,zZ,zJ];refine mV zGW zGY ?_;iterate 2 (go_big_quiet_step (fail))
 refine zY ?_;refine mW (v:=.agg (Go.Proofs.YtbpniahcjbagmaaGreatDoor.pc (ov a.fl (vY a.v k)))) (mC (g:=146) (caps:=#[]) (args:=#[.agg (Go.Proofs.YtbpniahcjbagmaaGreatDoor.pc a.fl),.slice (some ⟨b,0,none⟩) k 16]) (.func 146) _ _ rfl rfl (enters_of Tryz.func146 zGV rfl) (fun w' hw=>by obtain⟨u,rfl⟩:=hw;exact SF.out u) rfl zGK) ?_;simp only[Act.put,zQ,zZ,zJ];refine mZ zGW zGY ?_;iterate 2 (go_big_quiet_step (fail))
 refine zY ?_;refine mJ rfl ?_;intro w5 g5 C5 K hK;obtain⟨u5,rfl⟩:=C5;have D5:=zW (D.out.step u5.below);refine mS (o:=585) (ds:=Go.Proofs.YtbpniahcjbagmaaGreatDoor.pc (ov a.fl (vY a.v k))) FY D5.out.x.rc.st (nF _) zGG (NY _) (.tmp 29) (.tmp 27) rfl zGK zGK ?_;have D:=zW (D5.out.row (a':={a with fl:=ov a.fl (vY a.v k)}) (cs:=lP (stC a m g) 585 (Go.Proofs.YtbpniahcjbagmaaGreatDoor.pc (ov a.fl (vY a.v k)))) (IE a m g (ov a.fl (vY a.v k))) rfl rfl rfl (D5.out.x.rc.res));refine hK _ _ ?_;generalize World.setRow u5.w b (lP (stC a m g) 585 (Go.Proofs.YtbpniahcjbagmaaGreatDoor.pc (ov a.fl (vY a.v k))))=w7 at D⊢;exact zR3
theorem V5(X:XR base lg b m g rb v a ⟨op,x,y,n,nn,ad,ln⟩ q pc f w)(O:OkA a)(hx:x<16):Calls Tryz.prog 114 #[.pointer (some ⟨rb,0,none⟩)] w (Did base lg b m g rb v ⟨op,x,y,n,nn,ad,ln⟩ q w ({a with v:=ldN a.v (upL 0 (x+1)) (fun j=>(a.fl j).toNat) (x+1)}) (pc) (f)):=by
 obtain⟨k,hk⟩:∃k,x+1=k:=⟨_,rfl⟩;rw[hk];have wr:IntKind.i64.wrap ((x:Int)+1)=(k:Int):=by rw[zU];omega
 have k16:k≤16:=zGX;have cut:=fun w=>zVR b 0 w;have D:=zW (DD.refl X);have SB:=zW (lD X.rc.st);have RBh:=zW (lD X.r);have r0:=X.rk 0 (.pointer (some ⟨b,0,none⟩)) rfl;have r2:=X.rk 2 (.int .i64 (x:Int)) rfl;have RG:=zW (fun w=>vT x hx w);have LF:=zW (fun w=>zKK a.fl (k:Int) w);rw[cl_nat k k16]at LF;have TL:=zW (show((xB a.fl).take k).length=k by rw[qX,m5];omega);have TB:=zW (show∀j (h:j<((xB a.fl).take k).length),((xB a.fl).take k)[j]=(((fun j=>(a.fl j).toNat) j:Nat):Int)from fun j h=>by
  have hj:j<16:=by rw[TL.out]at h;omega
  rw[jB,wT _ _ hj];have:=O.fl j hj;simp only;omega)
 have K1:=zW (show 0<k by omega);clear X hx hk O;go_enter Tryz.func114,Tryz.ntmps114;refine lT (C:=fun w'=>∃u:lA w,w'=u.w) 22 [([0,1,2,3,4,5,6,7,8,9,10,11,12,13,14,15,16,17,18],19,true),([20],21,false)] [] [] zGV zGV ?_ ?_ ⟨⟨w.drew,(zB _ _).drew⟩,rfl⟩ ?_
 ·exact zBB
 ·exact zBN
 intro wd hwd;clear hwd;refine mV zGW zGY ?_;iterate 13 (go_big_quiet_step (fail))
 refine lR (o:=585) FY SB.out zGG rfl (.tmp 14) rfl zGK ?_;rw[zJV];simp only[Act.put,zQ,zZ,zJ];iterate 5 (go_big_quiet_step (fail))
 refine zY ?_;refine mW (v:=.int .i64 (x:Int)) (mC (g:=134) (caps:=#[]) (args:=#[.int .i64 (x:Int)]) (.func 134) _ _ rfl rfl (enters_of Tryz.func134 zGV rfl) (fun w' hw=>by obtain⟨u,rfl⟩:=hw;exact(RG.out u.w).mono fun e w'' h=>⟨h.1,by rw[←h.2];exact Gr.refl _⟩) rfl zGK) ?_;simp only[Act.put,zQ,zZ,zJ];refine cD zGW zGY ?_;iterate 1 (go_big_quiet_step (fail))
 refine zY ?_;refine cR rfl ?_;intro w4 g4 C4 K hK;obtain⟨u4,rfl⟩:=C4;refine mK (g:=147) (caps:=#[]) (args:=#[.agg (Go.Proofs.YtbpniahcjbagmaaGreatDoor.pc a.fl),.int .i64 (k:Int)]) (.func 147) _ _ rfl (enters_of Tryz.func147 zGV rfl) rfl zGK ?_;refine(LF.out u4.w).mono ?_;rintro e w6 hG;obtain⟨gg,cp,rfl,hcp,hg,hR,b6⟩:=hG.slice TL.out K1.out;have B6:=zW (u4.below.trans (b6.mono u4.below.size));have R6:=zW hR;clear hR b6 hg hG g4;refine⟨_,rfl,?_⟩;refine hK _ _ ⟨⟨w6,B6.out⟩,rfl⟩ ?_;clear hK K;simp only[Act.put,zQ,zZ,zJ];refine mZ zGW zGY ?_;refine zY ?_;refine mJ rfl ?_;intro w5 g5 C5 K hK;obtain⟨u5,rfl⟩:=C5;have D5:=zW (D.out.step u5.below);obtain⟨w7,hrun,hw7,hap⟩:=xQ 3 b 0 16 16 (some ⟨b,0,none⟩) (fun _=>rfl) (some ⟨gg,0,none⟩) k cp k zGX ((xB a.fl).take k) (TL.out) (R6.out.below g5) (stC a m g).toList 89 D5.out.x.rc.st (by rw[Array.length_toList,lI];omega);refine cK (.tmp 8) (.tmp 23) rfl 3 rfl (.slice (some ⟨b,0,none⟩) 16 16) (.slice (some ⟨gg,0,none⟩) k cp) (.int .i64 ((k:Nat):Int)) zGK zGK hrun 24 rfl ?_;rw[YT a m g _ (fun j=>(a.fl j).toNat) k TL.out k16 TB.out]at hw7;have D:=zW (WU (a':={a with v:=ldN a.v (upL 0 k) (fun j=>(a.fl j).toNat) k}) D5.out hw7 hap rfl rfl rfl D5.out.x.rc.res);clear hrun hw7 hap D5;refine hK _ _ ?_;clear hK K;simp only[Act.put,zQ,zZ,zJ];exact zBH
theorem MW(X:XR base lg b m g rb v a ⟨op,x,y,n,nn,ad,ln⟩ q pc f w)(O:OkA a)(hc:chk a.i 16 q.fa=0):Calls Tryz.prog 118 #[.pointer (some ⟨rb,0,none⟩)] w (Did base lg b m g rb v ⟨op,x,y,n,nn,ad,ln⟩ q w ({a with P:=seg a.M a.i 16}) (pc) (f)):=by
 have D:=zW (DD.refl X);have SB:=zW (lD X.rc.st);have RBh:=zW (lD X.r);have r0:=X.rk 0 (.pointer (some ⟨b,0,none⟩)) rfl;have RX:=zW (fun(u:lA w)=>NZ (X.step u.below) 16 O zGL hc);clear X hc O;go_enter Tryz.func118,Tryz.ntmps118;refine lT (C:=fun w'=>∃u:lA w,w'=u.w) 16 [([0,1,2,3,4,5,6,7,8,9,10,11],12,false),([],13,false)] [14,15] [] zGV zGV ?_ ?_ ⟨⟨w.drew,(zB _ _).drew⟩,rfl⟩ ?_
 ·exact zBB
 ·exact zBN
 intro wd hwd;clear hwd;refine cD zGW zGY ?_;iterate 10 (go_big_quiet_step (fail))
 refine lR (o:=568) pC SB.out zGG rfl (.tmp 11) rfl zGK ?_;rw[sR];simp only[Act.put,zQ,zZ,zJ];iterate 1 (go_big_quiet_step (fail))
 refine zY ?_;refine cR rfl ?_;intro w4 g4 C4 K hK;obtain⟨u4,rfl⟩:=C4;refine mK (g:=136) (caps:=#[]) (args:=#[.pointer (some ⟨rb,0,none⟩),.int .i64 16]) (.func 136) _ _ rfl (enters_of Tryz.func136 zGV rfl) rfl zGK ?_;refine(RX.out u4).mono ?_;rintro e w6 ⟨gg,rfl,hg,hR,b6⟩;have B6:=zW (u4.below.trans (b6.mono u4.below.size));have R6:=zW hR;clear hR b6 hg g4;refine⟨_,rfl,?_⟩;refine hK _ _ ⟨⟨w6,B6.out⟩,rfl⟩ ?_;clear hK K;simp only[Act.put,zQ,zZ,zJ];refine cD zGW zGY ?_;refine zY ?_;refine cR rfl ?_;intro w4 g4 C4 K hK;obtain⟨u4,rfl⟩:=C4;refine mK (g:=148) (caps:=#[]) (args:=#[.agg (ac (ptA a) (a.pt:Int)),.slice (some ⟨gg,0,none⟩) 16 16]) (.func 148) _ _ rfl (enters_of Tryz.func148 zGV rfl) rfl zGK ?_;refine(TV (ptA a) (a.pt:Int) _ 16 16 (seg a.M a.i 16) u4.w (R6.out.below g4) (cO _ _ _)).mono ?_;rintro e w7 ⟨rfl,b7⟩;have B7:=zW (u4.below.trans (b7.mono u4.below.size));clear b7 g4 B6 R6;refine⟨_,rfl,?_⟩;refine hK _ _ ⟨⟨w7,B7.out⟩,rfl⟩ ?_;clear hK K;simp only[Act.put,zQ,zZ,zJ];refine mZ zGW zGY ?_;iterate 2 (go_big_quiet_step (fail))
 refine zY ?_;refine mJ rfl ?_;intro w5 g5 C5 K hK;obtain⟨u5,rfl⟩:=C5;have D5:=zW (D.out.step u5.below);refine mS (o:=568) (ds:=ac (pad (seg a.M a.i 16)) (a.pt:Int)) pC D5.out.x.rc.st (nP _ _) zGG (QQ _ _) (.tmp 17) (.tmp 15) rfl zGK zGK ?_;have D:=zW (D5.out.row (a':={a with P:=seg a.M a.i 16}) (cs:=lP (stC a m g) 568 (ac (pad (seg a.M a.i 16)) (a.pt:Int))) (oQ a m g (seg a.M a.i 16) a.pt (fun j hj=>zY7 a.M a.i j hj)) rfl rfl rfl (D5.out.x.rc.res));refine hK _ _ ?_;generalize World.setRow u5.w b (lP (stC a m g) 568 (ac (pad (seg a.M a.i 16)) (a.pt:Int)))=w7 at D⊢;exact zR3
theorem iQ(X:XR base lg b m g rb v a ⟨op,x,y,n,nn,ad,ln⟩ q pc f w)(O:OkA a)(hc:chk a.i 16 q.fa≠0):Calls Tryz.prog 118 #[.pointer (some ⟨rb,0,none⟩)] w (f8 4 w):=by
 have D:=zW (DD.refl X);have SB:=zW (lD X.rc.st);have RBh:=zW (lD X.r);have r0:=X.rk 0 (.pointer (some ⟨b,0,none⟩)) rfl;have RX:=zW (fun(u:lA w)=>dL (X.step u.below) 16 O zGL hc);clear X hc O;go_enter Tryz.func118,Tryz.ntmps118;refine lT (C:=fun w'=>∃u:lA w,w'=u.w) 16 [([0,1,2,3,4,5,6,7,8,9,10,11],12,false),([],13,false)] [14,15] [] zGV zGV ?_ ?_ ⟨⟨w.drew,(zB _ _).drew⟩,rfl⟩ ?_
 ·exact zBB
 ·exact zBN
 intro wd hwd;clear hwd;refine cD zGW zGY ?_;iterate 10 (go_big_quiet_step (fail))
 refine lR (o:=568) pC SB.out zGG rfl (.tmp 11) rfl zGK ?_;rw[sR];simp only[Act.put,zQ,zZ,zJ];iterate 1 (go_big_quiet_step (fail))
 refine zY ?_;refine cR rfl ?_;intro w4 g4 C4 K hK;obtain⟨u4,rfl⟩:=C4;refine wG (g:=136) (caps:=#[]) (args:=#[.pointer (some ⟨rb,0,none⟩),.int .i64 16]) (.func 136) _ _ rfl (enters_of Tryz.func136 zGV rfl) rfl zGK ?_;exact zRS
theorem zYZ(X:XR base lg b m g rb v a ⟨op,x,y,n,nn,ad,ln⟩ q pc f w)(O:OkA a)(hx:x<16)(hb:base≤w.heap.size)(hg:lg.n≤950)(hc:chk a.i (x+1:Nat) q.fa=0):Calls Tryz.prog 103 #[.pointer (some ⟨rb,0,none⟩)] w (Did base (lg+1) b m g rb v ⟨op,x,y,n,nn,ad,ln⟩ q w ((if q.ki=true then{a with M:=put a.M a.i (vY a.v (x+1))}else{a with M:=put a.M a.i (vY a.v (x+1)),i:=(a.i+((x+1:Nat):Int))%65536})) (pc) (f)):=by
 obtain⟨k,hk⟩:∃k,x+1=k:=⟨_,rfl⟩;rw[hk]at hc⊢;have wr:IntKind.i64.wrap ((x:Int)+1)=(k:Int):=by rw[zU];omega
 have k16:k≤16:=zGX;obtain⟨Z,hZ⟩:∃Z,(if q.ki=true then{a with M:=put a.M a.i (vY a.v k)}else{a with M:=put a.M a.i (vY a.v k),i:=(a.i+(k:Int))%65536})=Z:=⟨_,rfl⟩;rw[hZ];have HZ:=zW hZ;clear hZ;have cut:=fun w=>cutV b k k16 w;have D:=zW (DD.refl X);have r0:w.cell? ⟨rb,0,none⟩=some (.pointer (some ⟨b,0,none⟩)):=(X.r.cell 0).trans rfl;have r2:w.cell? ⟨rb,2,none⟩=some (.int .i64 (x:Int)):=(X.r.cell 2).trans rfl;have RG:=zW (fun w=>vT x hx w);have WR:=zW (LG X (some ⟨b,0,none⟩) k 16 (vY a.v k) O hb hg zGX zGX k16 (sZ _ _) (J0 X.rc.st k k16) (fun ad e=>by cases e;exact X.rc.ne.1) hc);have K3:=zW (show(k:Int)≤300 by omega);have O2:=zW (A6 (i:=a.i) O (b:=vY a.v k) (fun c hc=>by unfold vY at hc;simp only[jG,jD]at hc;obtain⟨j,hj,rfl⟩:=hc;have:=O.v j zGX;omega));clear X O hx hb hg hc hk;go_enter Tryz.func103,Tryz.ntmps103;go_wp2_with fail;refine(RG.out _).mono ?_;rintro e w1 ⟨rfl,rfl⟩;go_wp2_with fail;refine WR.out.mono ?_;rintro e w2 ⟨rfl,v2,D2h⟩;have D:=zW D2h;clear D2h r0 r2;go_wp2_with fail;refine(AO D.out.x (k:Int) O2.out (qG k) K3.out).mono ?_;rintro e w3 ⟨rfl,v3,D3h⟩;have D:=zW (D.out.then D3h);clear D3h;go_wp2_with fail;go_end0
 exact⟨rfl,v3,HZ.out▸D.out⟩
theorem T4(X:XR base lg b m g rb v a ⟨op,x,y,n,nn,ad,ln⟩ q pc f w)(O:OkA a)(hx:x<16)(hc:chk a.i (x+1:Nat) q.fa≠0):Calls Tryz.prog 103 #[.pointer (some ⟨rb,0,none⟩)] w (f8 4 w):=by
 obtain⟨k,hk⟩:∃k,x+1=k:=⟨_,rfl⟩;rw[hk]at hc;have wr:IntKind.i64.wrap ((x:Int)+1)=(k:Int):=by rw[zU];omega
 have k16:k≤16:=zGX;have cut:=fun w=>cutV b k k16 w;have r0:w.cell? ⟨rb,0,none⟩=some (.pointer (some ⟨b,0,none⟩)):=(X.r.cell 0).trans rfl;have r2:w.cell? ⟨rb,2,none⟩=some (.int .i64 (x:Int)):=(X.r.cell 2).trans rfl;have RG:=zW (fun w=>vT x hx w);have WR:=zW (eG X (some ⟨b,0,none⟩) k 16 O zGX hc);clear X O hx hc hk;go_enter Tryz.func103,Tryz.ntmps103;go_wp2_with fail;refine(RG.out _).mono ?_;rintro e w1 ⟨rfl,rfl⟩;go_wp2_with fail;refine WR.out.mono ?_;rintro e w2 ⟨rfl,b2⟩;exact⟨rfl,rfl,b2⟩
theorem load19(X:XR base lg b m g rb v a ⟨op,x,y,n,nn,ad,ln⟩ q pc f w)(O:OkA a)(hx:x<16)(hc:chk a.i (x+1:Nat) q.fa=0):Calls Tryz.prog 104 #[.pointer (some ⟨rb,0,none⟩)] w (Did base lg b m g rb v ⟨op,x,y,n,nn,ad,ln⟩ q w ((if q.ki=true then{a with v:=ldN a.v (upL 0 (x+1)) (byC a.M a.i) (x+1)}else{a with v:=ldN a.v (upL 0 (x+1)) (byC a.M a.i) (x+1),i:=(a.i+((x+1:Nat):Int))%65536})) (pc) (f)):=by
 obtain⟨k,hk⟩:∃k,x+1=k:=⟨_,rfl⟩;rw[hk]at hc⊢;have wr:IntKind.i64.wrap ((x:Int)+1)=(k:Int):=by rw[zU];omega
 have k16:k≤16:=zGX;obtain⟨Z,hZ⟩:∃Z,(if q.ki=true then{a with v:=ldN a.v (upL 0 k) (byC a.M a.i) k}else{a with v:=ldN a.v (upL 0 k) (byC a.M a.i) k,i:=(a.i+(k:Int))%65536})=Z:=⟨_,rfl⟩;rw[hZ];have HZ:=zW hZ;clear hZ;have cut:=fun w=>zVR b 0 w;have D:=zW (DD.refl X);have r0:w.cell? ⟨rb,0,none⟩=some (.pointer (some ⟨b,0,none⟩)):=(X.r.cell 0).trans rfl;have r2:w.cell? ⟨rb,2,none⟩=some (.int .i64 (x:Int)):=(X.r.cell 2).trans rfl;have q0:=X.rk 0 (.pointer (some ⟨b,0,none⟩)) rfl;have RG:=zW (fun w=>vT x hx w);have RX:=zW (fun(u:lA w)=>NZ (X.step u.below) k O zGX hc);have K3:=zW (show(k:Int)≤300 by omega);have TB:=zW (MH O.B O.M a.i k);have O2:=zW (JR O (DY O.v (upL 0 k) (byC a.M a.i) (fun j=>by have:=EO O.B a.i j;omega) k));clear X O hx hc hk;go_enter Tryz.func104,Tryz.ntmps104;go_wp2_with fail;refine(RG.out _).mono ?_;rintro e w1 ⟨rfl,rfl⟩;go_upto_region 1 with fail;clear r0 r2;refine lT (C:=fun w'=>∃u:lA w,w'=u.w) 10 [([0,1,2,3,4,5,6,7,8],9,false)] [] [] zGV zGV ?_ ?_ ⟨⟨w.drew,(zB _ _).drew⟩,rfl⟩ ?_
 ·exact zBB
 ·exact zBN
 intro wd hwd;clear hwd;refine cD zGW zGY ?_;iterate 9 (go_big_quiet_step (fail))
 refine zY ?_;refine cR rfl ?_;intro w4 g4 C4 K hK;obtain⟨u4,rfl⟩:=C4;refine mK (g:=136) (caps:=#[]) (args:=#[.pointer (some ⟨rb,0,none⟩),.int .i64 (k:Int)]) (.func 136) _ _ rfl (enters_of Tryz.func136 zGV rfl) rfl zGK ?_;refine(RX.out u4).mono ?_;rintro e w6 ⟨gg,rfl,hg,hR,b6⟩;have B6:=zW (u4.below.trans (b6.mono u4.below.size));have R6:=zW hR;clear hR b6 hg g4;refine⟨_,rfl,?_⟩;refine hK _ _ ⟨⟨w6,B6.out⟩,rfl⟩ ?_;clear hK K;simp only[Act.put,zQ,zZ,zJ];refine mZ zGW zGY ?_;refine zY ?_;refine mJ rfl ?_;intro w5 g5 C5 K hK;obtain⟨u5,rfl⟩:=C5;have D5:=zW (D.out.step u5.below);obtain⟨w7,hrun,hw7,hap⟩:=xQ 3 b 0 16 16 (some ⟨b,0,none⟩) (fun _=>rfl) (some ⟨gg,0,none⟩) k k k zGX (seg a.M a.i k) (cO _ _ _) (R6.out.below g5) (stC a m g).toList 89 D5.out.x.rc.st (by rw[Array.length_toList,lI];omega);refine cK (.tmp 16) (.tmp 19) rfl 3 rfl (.slice (some ⟨b,0,none⟩) 16 16) (.slice (some ⟨gg,0,none⟩) k k) (.int .i64 ((k:Nat):Int)) zGK zGK hrun 20 rfl ?_;rw[YT a m g _ (byC a.M a.i) k (cO _ _ _) k16 TB.out]at hw7;have D:=zW (WU (a':={a with v:=ldN a.v (upL 0 k) (byC a.M a.i) k}) D5.out hw7 hap rfl rfl rfl D5.out.x.rc.res);clear hrun hw7 hap D5;refine hK _ _ ?_;clear hK K;simp only[Act.put,zQ,zZ,zJ];try simp only[lW,zX,zK,zV]
 refine zY ?_;intro w8 g8;have D:=zW (D.out.step g8);clear g8 g5;clear q0 R6 B6;go_wp2_with fail;refine(AO D.out.x (k:Int) O2.out (qG k) K3.out).mono ?_;rintro e w9 ⟨rfl,v3,D3h⟩;have D:=zW (D.out.then D3h);clear D3h;go_wp2_with fail;go_end0
 exact⟨rfl,v3,HZ.out▸D.out⟩
theorem OE(X:XR base lg b m g rb v a ⟨op,x,y,n,nn,ad,ln⟩ q pc f w)(O:OkA a)(hx:x<16)(hc:chk a.i (x+1:Nat) q.fa≠0):Calls Tryz.prog 104 #[.pointer (some ⟨rb,0,none⟩)] w (f8 4 w):=by
 obtain⟨k,hk⟩:∃k,x+1=k:=⟨_,rfl⟩;rw[hk]at hc;have wr:IntKind.i64.wrap ((x:Int)+1)=(k:Int):=by rw[zU];omega
 have k16:k≤16:=zGX;have cut:=fun w=>zVR b 0 w;have r0:w.cell? ⟨rb,0,none⟩=some (.pointer (some ⟨b,0,none⟩)):=(X.r.cell 0).trans rfl;have r2:w.cell? ⟨rb,2,none⟩=some (.int .i64 (x:Int)):=(X.r.cell 2).trans rfl;have q0:=X.rk 0 (.pointer (some ⟨b,0,none⟩)) rfl;have RG:=zW (fun w=>vT x hx w);have RX:=zW (fun(u:lA w)=>dL (X.step u.below) k O zGX hc);clear X O hx hc hk;go_enter Tryz.func104,Tryz.ntmps104;go_wp2_with fail;refine(RG.out _).mono ?_;rintro e w1 ⟨rfl,rfl⟩;go_upto_region 1 with fail;clear r0 r2;refine lT (C:=fun w'=>∃u:lA w,w'=u.w) 10 [([0,1,2,3,4,5,6,7,8],9,false)] [] [] zGV zGV ?_ ?_ ⟨⟨w.drew,(zB _ _).drew⟩,rfl⟩ ?_
 ·exact zBB
 ·exact zBN
 intro wd hwd;clear hwd;refine cD zGW zGY ?_;iterate 9 (go_big_quiet_step (fail))
 refine zY ?_;refine cR rfl ?_;intro w4 g4 C4 K hK;obtain⟨u4,rfl⟩:=C4;refine wG (g:=136) (caps:=#[]) (args:=#[.pointer (some ⟨rb,0,none⟩),.int .i64 (k:Int)]) (.func 136) _ _ rfl (enters_of Tryz.func136 zGV rfl) rfl zGK ?_;exact zRS
theorem zQB(X:XR base lg b m g rb v a ⟨op,x,y,n,nn,ad,ln⟩ q pc f w)(O:OkA a)(hx:x<16)(hb:base≤w.heap.size)(hg:lg.n≤950)(hc:chk a.i 3 q.fa=0):Calls Tryz.prog 102 #[.pointer (some ⟨rb,0,none⟩)] w (Did base (lg+1) b m g rb v ⟨op,x,y,n,nn,ad,ln⟩ q w ({a with M:=put a.M a.i (N9 (a.v x))}) (pc) (f)):=by
 have XX:=zW X;have HX:=zW hx;have DIh:=zW (fun w=>iP.dg (a.v x) w (O.v x hx));have OO:=zW O;have cut:=fun p w=>cut3 p w;have HB:=zW (zM hb (zM hg hc));clear X O hx hb hg hc;go_enter Tryz.func102,Tryz.ntmps102;go_wp2_with fail;refine(fZ XX.out HX.out).mono ?_;rintro e w1 ⟨rfl,b1⟩;have D:=zW ((DD.refl XX.out).step b1);have BW:=zW b1;clear b1;have cv:=D.out.x.vc HX.out;go_wp2_with fail;refine(DIh.out _).mono ?_;rintro e w2 ⟨rfl,b2⟩;have D:=zW (D.out.step b2);have BW:=zW (BW.out.trans (b2.mono BW.out.size));clear b2 cv;simp only[];go_at_K
 iterate 1 go_step
 refine lO (ds:=d3 (a.v x)) zH8 zZR rfl rfl (zVB _) rfl rfl rfl (.tmp 2) (.tmp 7) rfl zGK zGK ?_;simp only[Act.put,zQ,zZ,zJ];have G:=zW (Blk.new w2 232 (d3 (a.v x)));have b3:=lV w2 (.cells (d3 (a.v x)) 232);have D:=zW (D.out.step b3);have BW:=zW (BW.out.trans (b3.mono BW.out.size));clear b3;obtain⟨gs,hgs⟩:∃gs,w2.heap.size=gs:=⟨_,rfl⟩;rw[hgs]at G⊢;generalize World.alloc w2 _=w8 at*;clear hgs;go_wp2_with fail;refine(LG D.out.x (some ⟨gs,0,none⟩) 3 3 (N9 (a.v x)) OO.out (zR HB.out.1 BW.out.size) HB.out.2.1 zGL zGL zGL rfl (dig_rd G.out) (fun ad e=>by cases e;exact IK G.out D.out.x.rc.mem zGL) HB.out.2.2).mono ?_;rintro e w9 ⟨rfl,v9,D9⟩;have D:=zW (D.out.then D9);clear D9;go_wp2_with fail;go_end0
 exact⟨rfl,v9,D.out⟩
theorem XZ(X:XR base lg b m g rb v a ⟨op,x,y,n,nn,ad,ln⟩ q pc f w)(O:OkA a)(hx:x<16)(hc:chk a.i 3 q.fa≠0):Calls Tryz.prog 102 #[.pointer (some ⟨rb,0,none⟩)] w (f8 4 w):=by
 have XX:=zW X;have HX:=zW hx;have DIh:=zW (fun w=>iP.dg (a.v x) w (O.v x hx));have OO:=zW O;have cut:=fun p w=>cut3 p w;have HB:=zW hc;clear X O hx hc;go_enter Tryz.func102,Tryz.ntmps102;go_wp2_with fail;refine(fZ XX.out HX.out).mono ?_;rintro e w1 ⟨rfl,b1⟩;have D:=zW ((DD.refl XX.out).step b1);have BW:=zW b1;clear b1;have cv:=D.out.x.vc HX.out;go_wp2_with fail;refine(DIh.out _).mono ?_;rintro e w2 ⟨rfl,b2⟩;have D:=zW (D.out.step b2);have BW:=zW (BW.out.trans (b2.mono BW.out.size));clear b2 cv;simp only[];go_at_K
 iterate 1 go_step
 refine lO (ds:=d3 (a.v x)) zH8 zZR rfl rfl (zVB _) rfl rfl rfl (.tmp 2) (.tmp 7) rfl zGK zGK ?_;simp only[Act.put,zQ,zZ,zJ];have G:=zW (Blk.new w2 232 (d3 (a.v x)));have b3:=lV w2 (.cells (d3 (a.v x)) 232);have D:=zW (D.out.step b3);have BW:=zW (BW.out.trans (b3.mono BW.out.size));clear b3;obtain⟨gs,hgs⟩:∃gs,w2.heap.size=gs:=⟨_,rfl⟩;rw[hgs]at G⊢;generalize World.alloc w2 _=w8 at*;clear hgs;go_wp2_with fail;refine(eG D.out.x (some ⟨gs,0,none⟩) 3 3 OO.out zGL HB.out).mono ?_;rintro e w9 ⟨rfl,b9⟩;exact⟨rfl,rfl,BW.out.trans (b9.mono BW.out.size)⟩
end
theorem VT(w:World)(x:Int){base:Nat}(hb:base≤w.heap.size):(w.alloc (.cells #[.int .i64 x] 3)).ownsRow base 3 1 (.slice (some ⟨w.heap.size,0,none⟩) 1 1) 1 [.int .i64 x]:=
 ⟨by simp,.inr ⟨w.heap.size,1,#[.int .i64 x],rfl,hb,jH w _,by omega,by unfold maxLen;omega,by simp,by simp⟩⟩
theorem TZ{x y:Nat}(hx:x<256)(hy:y<256):bits .and .u8 (x:Int) (y:Int)=((x&&&y:Nat):Int):=(bits_nat .u8 8 zGL (fun n h0 h1=>by rw[lZ];omega) x y hx hy).1
theorem ldN_nx{v:Nat→Nat}{L:List Int}{B:Nat→Nat}{j r:Nat}(h:L[j]?=some (r:Int)):Cpu.upd (ldN v L B j) r (B j)=ldN v L B (j+1):=by
 show _=Cpu.upd (ldN v L B j) (L.getD j 0).toNat (B j);rw[qJ,h];simp
theorem UF{α:Type}{enc:α→Value}{w w':World}{A:Option Addr}{L:List α}{O:Nat→Prop}(h:Row enc w A L)(k:lS O w w')(hn:∀ad,A=some ad→¬O ad.block):Row enc w' A L:=fun hne=>by
 obtain⟨b,o,e,hb,hc⟩:=h hne;exact⟨b,o,e,zD hb k.size,fun j hj=>(qU (k.block b hb (hn _ e))).trans (hc j hj)⟩
structure RWc(b rb g nn:Nat) where
 w:World
 h0:w.cell? ⟨rb,0,none⟩=some (.pointer (some ⟨b,0,none⟩))
 h5:w.cell? ⟨rb,5,none⟩=some (.int .i64 (nn:Int))
 h6:w.cell? ⟨b,601,none⟩=some (.pointer (some ⟨g,0,none⟩))
theorem yD{base:Nat}{lg:Lg}{b m g rb:Nat}{v:Value}{a:AS}{op:Int}{x y n nn:Nat}{ad ln:Int}{q:Pr}{pc:Int}{f:Ef}{w:World}(X:XR base lg b m g rb v a ⟨op,x,y,n,nn,ad,ln⟩ q pc f w):
  w.cell? ⟨rb,0,none⟩=some (.pointer (some ⟨b,0,none⟩))∧w.cell? ⟨rb,5,none⟩=some (.int .i64 (nn:Int))∧w.cell? ⟨b,601,none⟩=some (.pointer (some ⟨g,0,none⟩)):=
 ⟨(X.r.cell 0).trans rfl,(X.r.cell 5).trans rfl,(X.rc.st.cell 601).trans (mO _ m g zGX)⟩
theorem zNF{base:Nat}{lg:Lg}{b m g rb:Nat}{v v1:Value}{i:Ins}{q:Pr}{w w1 w2:World}{a:AS}{pc:Int}{f:Ef}(D:DD base lg b m g rb v v1 i q w a pc f w1)(hs:St base g a.L (a.rd+1) w2)(ha:nW g none w1 w2):DD base lg b m g rb v v1 i q w {a with rd:=a.rd+1} pc f w2:=by
 have kk:lS (fun k=>k=g∨some k=none) w1 w2:=lS.of_apart ha;have no:∀p,p<w1.heap.size→p≠g→w2.heap[p]?=w1.heap[p]?:=fun p h1 h2=>kk.block p h1 (fun c=>c.elim h2 (fun c=>by cases c));obtain⟨n1,n2,n3,n4,n5,n6⟩:=D.x.rc.ne;refine D.to ⟨⟨(no b D.x.rc.st.lt n2).trans D.x.rc.st,(no m D.x.rc.mem.lt n3).trans D.x.rc.mem,?_,hs,D.x.rc.res,D.x.rc.bb,D.x.rc.bm⟩,(no rb D.x.r.lt (fun e=>D.x.off (.inr (.inr (.inl e))))).trans D.x.r⟩ (kk.mono fun k _ c=>c.elim (fun c=> .inl (.inr (.inr (.inl c)))) (fun c=>by cases c));obtain⟨n,xs,o,r⟩:=D.x.rc.log;exact⟨n,xs,cV o kk (fun k ek c=>c.elim (fun c=>n6 (c▸ek)) (fun c=>by cases c)),r⟩
theorem sI{x y:Nat}(hx:x<16)(hy:y<16):vG x y≤16:=by unfold vG;split<;>omega
theorem iO(L:List Int)(j:Nat)(z:Int)(h:L[j]?=some z):L.take (j+1)=L.take j++[z]:=by
 rw[List.take_add_one,h];rfl
section
variable {base:Nat} {lg:Lg} {b m g rb:Nat} {v:Value} {a:AS} {op:Int} {x y n nn:Nat} {ad ln:Int} {q:Pr} {pc:Int} {f:Ef} {w:World}
theorem XG(X:XR base lg b m g rb v a ⟨op,x,y,n,nn,ad,ln⟩ q pc f w)(hx:x<16)(hy:y<16)(h:x≤y):Calls Tryz.prog 137 #[.pointer (some ⟨rb,0,none⟩)] w fun e w'=>∃A c,e=.returned (.slice A (y-x+1) c)∧w'.ownsRow w.heap.size 3 1 (.slice A (y-x+1) c) (y-x+1) ((upL x (y-x+1)).map (Value.int .i64))∧Below w.heap.size w w':=by
 have r0:=X.rk 0 (.pointer (some ⟨b,0,none⟩)) rfl;have r2:=X.rk 2 (.int .i64 (x:Int)) rfl;have r3:=X.rk 3 (.int .i64 (y:Int)) rfl;have RX:=zW (fun w=>vT x hx w);have RY:=zW (fun w=>vT y hy w);have HX:=zW (zM hx (zM hy h));obtain⟨m,hm⟩:∃m,y-x+1=m:=⟨_,rfl⟩;rw[hm];have HM:=zW hm;clear X hx hy h hm;go_enter Tryz.func137,Tryz.ntmps137;go_upto_region 1 with fail;refine m7 zGV zGV ?_;iterate 5 (go_big_quiet_step (fail))
 go_big_quiet_step ((go_at_call 134;exact cJ (RX.out _)))
 iterate 5 (go_big_quiet_step (fail))
 go_big_quiet_step ((go_at_call 134;exact cJ (RY.out _)))
 iterate 2 (go_big_quiet_step (fail))
 refine zY ?_;intro _ hw';obtain⟨x',rfl⟩:=hw';have b1:=x'.below;generalize x'.w=w1 at*;have B1:=zW b1;clear b1 r0 r2 r3;go_upto_region 2 with fail;refine zH ?_;have O2:=zW (VT w1 (x:Int) B1.out.size);have B2:=zW (B1.out.trans ((lV w1 (.cells #[.int .i64 (x:Int)] 3)).mono B1.out.size));iterate 6 go_step
 try simp only[]
 obtain⟨bq,hbq⟩:∃bq,w1.heap.size=bq:=⟨_,rfl⟩;rw[hbq]at O2⊢;clear hbq;generalize World.alloc w1 _=w2 at O2 B2⊢;go_wp2_with fail;go_loopw [3,5] (fun v3 v5 wr=>∃k:Nat,k<m∧v3=.int .i64 ((x:Int)+(k:Int))∧wr.ownsRow w.heap.size 3 1 v5 (k+1) ((upL x (k+1)).map (Value.int .i64))∧Below w.heap.size w wr) (fun v3 _ _=>m+x-(intOf v3).toNat)
 case atStart=>exact⟨0,by have:=HM.out;omega,by simp,by simpa [upL]using O2.out,B2.out⟩
 case round=>
  obtain⟨k,hk,rfl,ho,hb⟩:=hrel
  have HO:=zW ho
  have HB:=zW hb
  clear ho hb O2 B2
  by_cases hlt:k+1<m
  ·have HK:=zW hlt
   have hne:((x:Int)+(k:Int) !=(y:Int))=true:=by simp;have:=HM.out;have:=HX.out;omega
   have hl:(x:Int)+(k:Int)<(y:Int):=by have:=HM.out;have:=HX.out;omega
   have hb1:(x:Int)+(k:Int)≤100:=by have:=HM.out;have:=HX.out;omega
   have hb0:0≤(x:Int)+(k:Int):=by have:=HM.out;have:=HX.out;omega
   obtain⟨A,c,rfl⟩:=uN HO.out
   clear hk hlt
   obtain⟨z,hz⟩:∃z:Int,(x:Int)+(k:Int)=z:=⟨_,rfl⟩
   have HZ:=zW hz
   rw[hz]at hne hl hb1 hb0⊢
   clear hz
   obtain⟨z2,hz2⟩:∃z2:Int,z+1=z2:=⟨_,rfl⟩
   have wz:IntKind.i64.wrap (z+1)=z2:=by rw[zU];omega
   have HZ2:=zW hz2
   clear hz2
   go_upto_region 7 with fail
   refine zH ?_
   have R1:=zW (iM (Value.int .i64) wr z2 3)
   have B1:=zW (HB.out.alloc HB.out.size (.cells #[.int .i64 z2] 3))
   have O1:=zW (HO.out.alloc (.cells #[.int .i64 z2] 3))
   iterate 9 go_step
   refine xL IJ A5 rfl (.tmp 30) (.tmp 32) rfl w.heap.size _ (k+1) (upL x (k+1)) rfl O1.out (some ⟨wr.heap.size,0,none⟩) 1 1 [z2] rfl R1.out rfl (by have:=HK.out;have:=HM.out;have:=HX.out;omega) zGL B1.out.size ?_
   intro v2 w2 o2 g2
   have B2:=zW (B1.out.grown g2 B1.out.size fun j ej=>(O1.out.lt j ej).1)
   have O2:=zW o2
   clear o2 g2 O1 B1 R1 HO HB
   simp only[Act.put,zQ,zZ,zJ]
   go_wp2_with fail
   exact⟨⟨k+1,HK.out,by have:=HZ.out;have:=HZ2.out;congr 1;omega,by rw[zZ2 x (k+1),show(x:Int)+((k+1:Nat):Int)=z2 by have:=HZ.out;have:=HZ2.out;omega];exact O2.out,B2.out⟩,by have:=HK.out;have:=HZ.out;have:=HZ2.out;have:=HM.out;have:=HX.out;simp[intOf];omega⟩
  ·obtain rfl:m=k+1:=by omega
   have hne:((x:Int)+(k:Int) !=(y:Int))=false:=by simp;have:=HM.out;have:=HX.out;omega
   obtain⟨A,c,rfl⟩:=uN HO.out
   clear hk hlt
   go_wp2_with fail
   go_ret
   exact⟨A,c,rfl,HO.out,HB.out⟩
theorem XB(X:XR base lg b m g rb v a ⟨op,x,y,n,nn,ad,ln⟩ q pc f w)(hx:x<16)(hy:y<16)(h:y<x):Calls Tryz.prog 137 #[.pointer (some ⟨rb,0,none⟩)] w fun e w'=>∃A c,e=.returned (.slice A (x-y+1) c)∧w'.ownsRow w.heap.size 3 1 (.slice A (x-y+1) c) (x-y+1) ((dnL x (x-y+1)).map (Value.int .i64))∧Below w.heap.size w w':=by
 have r0:=X.rk 0 (.pointer (some ⟨b,0,none⟩)) rfl;have r2:=X.rk 2 (.int .i64 (x:Int)) rfl;have r3:=X.rk 3 (.int .i64 (y:Int)) rfl;have RX:=zW (fun w=>vT x hx w);have RY:=zW (fun w=>vT y hy w);have HX:=zW (zM hx (zM hy h));obtain⟨m,hm⟩:∃m,x-y+1=m:=⟨_,rfl⟩;rw[hm];have HM:=zW hm;clear X hx hy h hm;go_enter Tryz.func137,Tryz.ntmps137;go_upto_region 1 with fail;refine m7 zGV zGV ?_;iterate 5 (go_big_quiet_step (fail))
 go_big_quiet_step ((go_at_call 134;exact cJ (RX.out _)))
 iterate 5 (go_big_quiet_step (fail))
 go_big_quiet_step ((go_at_call 134;exact cJ (RY.out _)))
 iterate 2 (go_big_quiet_step (fail))
 refine zY ?_;intro _ hw';obtain⟨x',rfl⟩:=hw';have b1:=x'.below;generalize x'.w=w1 at*;have B1:=zW b1;clear b1 r0 r2 r3;go_upto_region 2 with fail;refine zH ?_;have O2:=zW (VT w1 (x:Int) B1.out.size);have B2:=zW (B1.out.trans ((lV w1 (.cells #[.int .i64 (x:Int)] 3)).mono B1.out.size));iterate 6 go_step
 try simp only[]
 obtain⟨bq,hbq⟩:∃bq,w1.heap.size=bq:=⟨_,rfl⟩;rw[hbq]at O2⊢;clear hbq;generalize World.alloc w1 _=w2 at O2 B2⊢;go_wp2_with fail;go_loopw [3,5] (fun v3 v5 wr=>∃k:Nat,k<m∧v3=.int .i64 ((x:Int)-(k:Int))∧wr.ownsRow w.heap.size 3 1 v5 (k+1) ((dnL x (k+1)).map (Value.int .i64))∧Below w.heap.size w wr) (fun v3 _ _=>(intOf v3+1).toNat)
 case atStart=>exact⟨0,by have:=HM.out;omega,by simp,by simpa [dnL]using O2.out,B2.out⟩
 case round=>
  obtain⟨k,hk,rfl,ho,hb⟩:=hrel
  have HO:=zW ho
  have HB:=zW hb
  clear ho hb O2 B2
  by_cases hlt:k+1<m
  ·have HK:=zW hlt
   have hne:((x:Int)-(k:Int) !=(y:Int))=true:=by simp;have:=HM.out;have:=HX.out;omega
   have hl:¬(x:Int)-(k:Int)<(y:Int):=by have:=HM.out;have:=HX.out;omega
   have hb1:(x:Int)-(k:Int)≤100:=by have:=HM.out;have:=HX.out;omega
   have hb0:1≤(x:Int)-(k:Int):=by have:=HM.out;have:=HX.out;omega
   obtain⟨A,c,rfl⟩:=uN HO.out
   clear hk hlt
   obtain⟨z,hz⟩:∃z:Int,(x:Int)-(k:Int)=z:=⟨_,rfl⟩
   have HZ:=zW hz
   rw[hz]at hne hl hb1 hb0⊢
   clear hz
   obtain⟨z2,hz2⟩:∃z2:Int,z-1=z2:=⟨_,rfl⟩
   have wz:IntKind.i64.wrap (z-1)=z2:=by rw[zU];omega
   have HZ2:=zW hz2
   clear hz2
   go_upto_region 7 with fail
   refine zH ?_
   have R1:=zW (iM (Value.int .i64) wr z2 3)
   have B1:=zW (HB.out.alloc HB.out.size (.cells #[.int .i64 z2] 3))
   have O1:=zW (HO.out.alloc (.cells #[.int .i64 z2] 3))
   iterate 9 go_step
   refine xL IJ A5 rfl (.tmp 30) (.tmp 32) rfl w.heap.size _ (k+1) (dnL x (k+1)) rfl O1.out (some ⟨wr.heap.size,0,none⟩) 1 1 [z2] rfl R1.out rfl (by have:=HK.out;have:=HM.out;have:=HX.out;omega) zGL B1.out.size ?_
   intro v2 w2 o2 g2
   have B2:=zW (B1.out.grown g2 B1.out.size fun j ej=>(O1.out.lt j ej).1)
   have O2:=zW o2
   clear o2 g2 O1 B1 R1 HO HB
   simp only[Act.put,zQ,zZ,zJ]
   go_wp2_with fail
   exact⟨⟨k+1,HK.out,by have:=HZ.out;have:=HZ2.out;congr 1;omega,by rw[zVL x (k+1),show(x:Int)-((k+1:Nat):Int)=z2 by have:=HZ.out;have:=HZ2.out;omega];exact O2.out,B2.out⟩,by have:=HK.out;have:=HZ.out;have:=HZ2.out;have:=HM.out;have:=HX.out;simp[intOf];omega⟩
  ·obtain rfl:m=k+1:=by omega
   have hne:((x:Int)-(k:Int) !=(y:Int))=false:=by simp;have:=HM.out;have:=HX.out;omega
   obtain⟨A,c,rfl⟩:=uN HO.out
   clear hk hlt
   go_wp2_with fail
   go_ret
   exact⟨A,c,rfl,HO.out,HB.out⟩
theorem dA(X:XR base lg b m g rb v a ⟨op,x,y,n,nn,ad,ln⟩ q pc f w)(hx:x<16)(hy:y<16):Calls Tryz.prog 137 #[.pointer (some ⟨rb,0,none⟩)] w fun e w'=>∃A c,e=.returned (.slice A (vG x y) c)∧w'.ownsRow w.heap.size 3 1 (.slice A (vG x y) c) (vG x y) ((rM x y).map (Value.int .i64))∧Below w.heap.size w w':=by
 unfold vG rM;by_cases h:x≤y
 ·rw[zN h,zN h];exact XG X hx hy h
 ·rw[zL h,zL h];exact XB X hx hy zGX
theorem LU(X:XR base lg b m g rb v a ⟨op,x,y,n,nn,ad,ln⟩ q pc f w)(O:OkA a)(hx:x<16)(hy:y<16)(hb:base≤w.heap.size)(hg:lg.n≤950)(hc:chk a.i (vG x y:Nat) q.fa=0):Calls Tryz.prog 105 #[.pointer (some ⟨rb,0,none⟩)] w (Did base (lg+1) b m g rb v ⟨op,x,y,n,nn,ad,ln⟩ q w ({a with M:=put a.M a.i ((rM x y).map fun r=>(a.v r.toNat:Int))}) (pc) (f)):=by
 have XX:=zW X;have BT:=zW (dA X hx hy);have HX:=zW (zM hx hy);have RL:=zW (dY x y);have RA:=zW (fun k (h:k<vG x y)=>iG x y k zGX zGX h);have n1:=sI hx hy;have n0:0<vG x y:=by unfold vG;split<;>omega
 generalize vG x y=k at*;generalize rM x y=L at*;have OO:=zW O;have HH:=zW (zM hb (zM hg (zM hc (zM n0 n1))));have D:=zW (DD.refl XX.out);clear X O hx hy hb hg hc n0;go_enter Tryz.func105,Tryz.ntmps105;go_wp2_with fail;refine BT.out.mono ?_;rintro e w1 ⟨A,c,rfl,ho,b1⟩;have RO:=zW (Row.of_own ho);have XX:=zW (XX.out.step b1);have B1:=zW b1;clear ho b1 BT;go_wp2_with fail;have ki:(k:Int)≤16:=zGX;obtain⟨LV,hLV⟩:∃LV,(L.map fun r=>(a.v r.toNat:Int))=LV:=⟨_,rfl⟩;have VL:=zW (show LV.length=k by rw[←hLV,qI,RL.out]);have VA:=zW (fun j (r:Nat) (h:L[j]?=some (r:Int))=>(show LV[j]?=some (a.v r:Int) by rw[←hLV,jX,h];simp));have ME:=zW hLV;clear hLV;go_loopw [2,8] (fun v2 v8 wr=>∃j:Nat,j≤k∧v8=.int .i64 (j:Int)∧wr.ownsRow w1.heap.size 5 1 v2 j ((LV.take j).map (Value.int .u8))∧Below w1.heap.size w1 wr) (fun _ v8 _=>k-(intOf v8).toNat)
 case atStart=>exact⟨0,qW _,rfl,kH _ _ _ _,zB _ _⟩
 case round=>
  obtain⟨j,hj,rfl,ho,hb⟩:=hrel
  have HO:=zW ho
  have HB:=zW hb
  have XW:=zW (XX.out.step hb)
  have RR:=zW (RO.out.below hb)
  clear ho hb
  obtain⟨A2,c2,rfl⟩:=uN HO.out
  by_cases hlt:j<k
  ·obtain⟨r,r16,hr⟩:=RA.out j hlt
   obtain⟨bl,bo,hA,hbl,hcl⟩:=RR.out.at_ (k:=j) (by rw[RL.out];exact hlt)
   replace hcl:wr.cell? ⟨bl,bo+j,none⟩=some (.int .i64 (r:Int)):=by rw[hcl];congr 2;exact jZ ((zS _).symm.trans hr)
   subst hA
   have hji:(j:Int)<(k:Int):=zGX
   have r16i:(r:Int)<16:=zGX
   have KJ:=zW (zM hlt (zM hr r16))
   clear hlt hr hj
   go_upto_region 4 with fail
   clear hcl
   have r0:wr.cell? ⟨rb,0,none⟩=some (.pointer (some ⟨b,0,none⟩)):=(XW.out.r.cell 0).trans rfl
   have sv:=XW.out.vc r16
   clear r16
   refine zH ?_
   have R1:=zW (iM (Value.int .u8) wr (a.v r:Int) 5)
   have H1:=zW (HB.out.alloc HB.out.size (.cells #[.int .u8 (a.v r:Int)] 5))
   have O1:=zW (HO.out.alloc (.cells #[.int .u8 (a.v r:Int)] 5))
   iterate 33 go_step
   refine xL WP zXP rfl (.tmp 12) (.tmp 22) rfl w1.heap.size _ j (LV.take j) rfl O1.out (some ⟨wr.heap.size,0,none⟩) 1 1 [(a.v r:Int)] rfl R1.out rfl (by have:=KJ.out.1;omega) zGL H1.out.size ?_
   intro v6 w6 o6 g6
   have O8:=zW o6
   have B8:=zW (H1.out.grown g6 H1.out.size fun jj ej=>(O1.out.lt jj ej).1)
   clear o6 g6 O1 H1 R1
   simp only[Act.put,zQ,zZ,zJ]
   go_wp2_with fail
   exact⟨⟨j+1,KJ.out.1,by congr 1,by rw[iO LV j (a.v r:Int) (VA.out j r KJ.out.2.1)];exact O8.out,B8.out⟩,by have:=KJ.out.1;simp[intOf];omega⟩
  ·obtain rfl:j=k:=by omega
   clear hlt hj
   have HO:=zW (by have h:=HO.out;rwa [qV (by rw[VL.out];exact zG _)]at h:wr.ownsRow w1.heap.size 5 1 (.slice A2 j c2) j (LV.map (Value.int .u8)))
   have D:=zW (D.out.step (B1.out.trans (HB.out.mono B1.out.size)))
   have WR:=zW (LG D.out.x A2 j c2 LV OO.out (zR HH.out.1 (zR B1.out.size HB.out.size)) HH.out.2.1 HH.out.2.2.2.1 (by have:=HH.out.2.2.2.2;omega) (zY9 HO.out) VL.out (NH HO.out) (fun ad e=>by subst e;exact fun c=>tX HO.out D.out.x.rc.mem zGL (by rw[←c];rfl)) HH.out.2.2.1)
   go_wp2_with fail
   refine WR.out.mono ?_
   rintro e w3 ⟨rfl,v3,D3h⟩
   have D:=zW (D.out.then D3h)
   clear D3h
   go_wp2_with fail
   go_end0
   exact⟨rfl,v3,by rw[ME.out];exact D.out⟩
theorem aO(X:XR base lg b m g rb v a ⟨op,x,y,n,nn,ad,ln⟩ q pc f w)(O:OkA a)(hx:x<16)(hy:y<16)(hc:chk a.i (vG x y:Nat) q.fa≠0):Calls Tryz.prog 105 #[.pointer (some ⟨rb,0,none⟩)] w (f8 4 w):=by
 have XX:=zW X;have BT:=zW (dA X hx hy);have HX:=zW (zM hx hy);have RL:=zW (dY x y);have RA:=zW (fun k (h:k<vG x y)=>iG x y k zGX zGX h);have n1:=sI hx hy;have n0:0<vG x y:=by unfold vG;split<;>omega
 generalize vG x y=k at*;generalize rM x y=L at*;have OO:=zW O;have HH:=zW (zM hc n1);clear X O hx hy hc n0;go_enter Tryz.func105,Tryz.ntmps105;go_wp2_with fail;refine BT.out.mono ?_;rintro e w1 ⟨A,c,rfl,ho,b1⟩;have RO:=zW (Row.of_own ho);have XX:=zW (XX.out.step b1);have B1:=zW b1;clear ho b1 BT;go_wp2_with fail;have ki:(k:Int)≤16:=zGX;obtain⟨LV,hLV⟩:∃LV,(L.map fun r=>(a.v r.toNat:Int))=LV:=⟨_,rfl⟩;have VL:=zW (show LV.length=k by rw[←hLV,qI,RL.out]);have VA:=zW (fun j (r:Nat) (h:L[j]?=some (r:Int))=>(show LV[j]?=some (a.v r:Int) by rw[←hLV,jX,h];simp));have ME:=zW hLV;clear hLV;go_loopw [2,8] (fun v2 v8 wr=>∃j:Nat,j≤k∧v8=.int .i64 (j:Int)∧wr.ownsRow w1.heap.size 5 1 v2 j ((LV.take j).map (Value.int .u8))∧Below w1.heap.size w1 wr) (fun _ v8 _=>k-(intOf v8).toNat)
 case atStart=>exact⟨0,qW _,rfl,kH _ _ _ _,zB _ _⟩
 case round=>
  obtain⟨j,hj,rfl,ho,hb⟩:=hrel
  have HO:=zW ho
  have HB:=zW hb
  have XW:=zW (XX.out.step hb)
  have RR:=zW (RO.out.below hb)
  clear ho hb
  obtain⟨A2,c2,rfl⟩:=uN HO.out
  by_cases hlt:j<k
  ·obtain⟨r,r16,hr⟩:=RA.out j hlt
   obtain⟨bl,bo,hA,hbl,hcl⟩:=RR.out.at_ (k:=j) (by rw[RL.out];exact hlt)
   replace hcl:wr.cell? ⟨bl,bo+j,none⟩=some (.int .i64 (r:Int)):=by rw[hcl];congr 2;exact jZ ((zS _).symm.trans hr)
   subst hA
   have hji:(j:Int)<(k:Int):=zGX
   have r16i:(r:Int)<16:=zGX
   have KJ:=zW (zM hlt (zM hr r16))
   clear hlt hr hj
   go_upto_region 4 with fail
   clear hcl
   have r0:wr.cell? ⟨rb,0,none⟩=some (.pointer (some ⟨b,0,none⟩)):=(XW.out.r.cell 0).trans rfl
   have sv:=XW.out.vc r16
   clear r16
   refine zH ?_
   have R1:=zW (iM (Value.int .u8) wr (a.v r:Int) 5)
   have H1:=zW (HB.out.alloc HB.out.size (.cells #[.int .u8 (a.v r:Int)] 5))
   have O1:=zW (HO.out.alloc (.cells #[.int .u8 (a.v r:Int)] 5))
   iterate 33 go_step
   refine xL WP zXP rfl (.tmp 12) (.tmp 22) rfl w1.heap.size _ j (LV.take j) rfl O1.out (some ⟨wr.heap.size,0,none⟩) 1 1 [(a.v r:Int)] rfl R1.out rfl (by have:=KJ.out.1;omega) zGL H1.out.size ?_
   intro v6 w6 o6 g6
   have O8:=zW o6
   have B8:=zW (H1.out.grown g6 H1.out.size fun jj ej=>(O1.out.lt jj ej).1)
   clear o6 g6 O1 H1 R1
   simp only[Act.put,zQ,zZ,zJ]
   go_wp2_with fail
   exact⟨⟨j+1,KJ.out.1,by congr 1,by rw[iO LV j (a.v r:Int) (VA.out j r KJ.out.2.1)];exact O8.out,B8.out⟩,by have:=KJ.out.1;simp[intOf];omega⟩
  ·obtain rfl:j=k:=by omega
   clear hlt hj
   have BB:=zW (B1.out.trans (HB.out.mono B1.out.size))
   have WR:=zW (eG XW.out A2 j c2 OO.out (by have:=HH.out.2;omega) HH.out.1)
   go_wp2_with fail
   refine WR.out.mono ?_
   rintro e w3 ⟨rfl,b3⟩
   exact⟨rfl,rfl,BB.out.trans (b3.mono BB.out.size)⟩
theorem VO(X:XR base lg b m g rb v a ⟨op,x,y,n,nn,ad,ln⟩ q pc f w)(O:OkA a)(hx:x<16)(hy:y<16)(hc:chk a.i (vG x y:Nat) q.fa=0):Calls Tryz.prog 106 #[.pointer (some ⟨rb,0,none⟩)] w (Did base lg b m g rb v ⟨op,x,y,n,nn,ad,ln⟩ q w ({a with v:=ldN a.v (rM x y) (byC a.M a.i) (vG x y)}) (pc) (f)):=by
 have XX:=zW X;have BT:=zW (dA X hx hy);have HX:=zW (zM hx hy);have RL:=zW (dY x y);have RA:=zW (fun k (h:k<vG x y)=>iG x y k zGX zGX h);have n1:=sI hx hy;have n0:0<vG x y:=by unfold vG;split<;>omega
 generalize vG x y=k at*;generalize rM x y=L at*;have OO:=zW O;have HH:=zW hc;have D:=zW (DD.refl XX.out);clear X O hx hy hc n0;go_enter Tryz.func106,Tryz.ntmps106;go_wp2_with fail;refine BT.out.mono ?_;rintro e w1 ⟨A,c,rfl,ho,b1⟩;have AL:=zW (A4 ho);have RO:=zW (Row.of_own ho);have D:=zW (D.out.step b1);have B1:=zW b1;clear ho b1 BT;go_wp2_with fail;refine(NZ D.out.x k OO.out zGX HH.out).mono ?_;rintro e w2 ⟨gg,rfl,hg,hR,b2⟩;have GL:=zW (zR B1.out.size hg);have RBh:=zW hR;have RO:=zW (RO.out.below b2);have D:=zW (D.out.step b2);have BL:=zW XX.out.rc.st.lt;have SB:=zW (MH OO.out.B OO.out.M a.i k);clear hg hR b2;go_wp2_with fail;have ki:(k:Int)≤16:=zGX;go_loopw [12] (fun v12 wr=>∃j:Nat,j≤k∧v12=.int .i64 (j:Int)∧DD base lg b m g rb v v ⟨op,x,y,n,nn,ad,ln⟩ q w {a with v:=ldN a.v L (byC a.M a.i) j} pc f wr∧Row (Value.int .i64) wr A L∧Rd wr (some ⟨gg,0,none⟩) (seg a.M a.i k)) (fun v12 _=>k-(intOf v12).toNat)
 case atStart=>exact⟨0,qW _,rfl,D.out,RO.out,RBh.out⟩
 case round=>
  obtain⟨j,hj,rfl,hd,hro,hrb⟩:=hrel
  have DJ:=zW hd
  have RJ:=zW hro
  have QJ:=zW hrb
  clear hd hro hrb
  by_cases hlt:j<k
  ·obtain⟨r,r16,hr⟩:=RA.out j hlt
   obtain⟨bl,bo,hA,hbl,hcl⟩:=RJ.out.at_ (k:=j) (by rw[RL.out];exact hlt)
   replace hcl:wr.cell? ⟨bl,bo+j,none⟩=some (.int .i64 (r:Int)):=by rw[hcl];congr 2;exact jZ ((zS _).symm.trans hr)
   have ALB:=zW (show w.heap.size≤bl from AL.out _ hA)
   subst hA
   have hcg:wr.cell? ⟨gg,j,none⟩=some (.int .u8 (byC a.M a.i j:Int)):=by
    have hs:j<(seg a.M a.i k).length:=by rw[cO];exact hlt
    obtain⟨ad2,e2,_,h2⟩:=QJ.out (by intro e;rw[e]at hs;cases hs);cases e2
    have h3:=h2 j hs
    rw[xE,qL,SB.out j hs]at h3;exact h3
   have hgl:gg<wr.heap.size:=by
    have hs:j<(seg a.M a.i k).length:=by rw[cO];exact hlt
    obtain⟨ad2,e2,h2,_⟩:=QJ.out (by intro e;rw[e]at hs;cases hs);cases e2
    exact h2
   have hji:(j:Int)<(k:Int):=zGX
   have r16i:(r:Int)<16:=zGX
   have KJ:=zW (zM hlt (zM hr r16))
   have hc1:=lA.cell hcl hbl
   clear hlt hr hj
   go_upto_region 4 with fail
   clear hcl hcg hgl
   have r0:=DJ.out.x.rk 0 (.pointer (some ⟨b,0,none⟩)) rfl
   refine lT (C:=fun w'=>∃u:lA wr,w'=u.w) 12 [] [0,1,2,3,4,5,6,7,8,9,10,11] [] zGV zGV ?_ ?_ ⟨⟨wr.drew,(zB _ _).drew⟩,rfl⟩ ?_
   ·exact fun _ _ d _ _ h=>by cases d<;>exact h
   ·rintro _ w' ⟨u,rfl⟩ hg
    exact⟨⟨w',u.below.trans (hg.mono u.below.size)⟩,rfl⟩
   intro wd hwd
   clear hwd
   refine mZ zGW zGY ?_
   iterate 12 (go_big_quiet_step (fail))
   refine zY ?_
   refine mJ rfl ?_
   intro w5 g5 C5 K hK
   obtain⟨u5,rfl⟩:=C5
   have D5:=zW (DJ.out.step u5.below)
   have R5:=zW (RJ.out.below u5.below)
   have Q5:=zW (QJ.out.below u5.below)
   have cc:=D5.out.x.vc KJ.out.2.2
   have fc:=D5.out.x.rc.st.frozen r
   go_wp2_with fail
   have D:=zW (D5.out.put (a':={a with v:=ldN a.v L (byC a.M a.i) (j+1)}) r (.int .u8 (byC a.M a.i j:Int)) ((tE _ m g r (byC a.M a.i j) KJ.out.2.2).trans (by rw[ldN_nx KJ.out.2.1])) rfl rfl rfl D5.out.x.rc.res)
   have R6:=zW (UF R5.out (yO (O:=fun k=>k=b) (w:=u5.w) (p:=b) (k:=r) (x:=.int .u8 (byC a.M a.i j:Int)) rfl) (fun ad e=>by cases e;have h1:w.heap.size≤bl:=ALB.out;have h2:=BL.out;show¬(bl=b);omega))
   have Q6:=zW (Rd.kept Q5.out (yO (O:=fun k=>k=b) (w:=u5.w) (p:=b) (k:=r) (x:=.int .u8 (byC a.M a.i j:Int)) rfl) (fun ad e=>by cases e;have h1:=GL.out;have h2:=BL.out;show¬(gg=b);omega))
   generalize World.setCell u5.w _ _=w7 at D R6 Q6⊢
   clear D5 R5 Q5 cc fc
   try simp only[lW,zX,zK,zV]
   refine zY ?_
   intro w8 g8
   have D:=zW (D.out.step g8)
   have R6:=zW (R6.out.below g8)
   have Q6:=zW (Q6.out.below g8)
   clear g8 g5 hc1
   go_wp2_with fail
   exact⟨⟨j+1,KJ.out.1,by congr 1,D.out,R6.out,Q6.out⟩,by have:=KJ.out.1;simp[intOf];omega⟩
  ·obtain rfl:j=k:=by omega
   clear hlt hj
   go_wp2_with fail
   go_end0
   exact⟨rfl,_,DJ.out⟩
theorem ZW(X:XR base lg b m g rb v a ⟨op,x,y,n,nn,ad,ln⟩ q pc f w)(O:OkA a)(hx:x<16)(hy:y<16)(hc:chk a.i (vG x y:Nat) q.fa≠0):Calls Tryz.prog 106 #[.pointer (some ⟨rb,0,none⟩)] w (f8 4 w):=by
 have XX:=zW X;have BT:=zW (dA X hx hy);have HX:=zW (zM hx hy);have RL:=zW (dY x y);have RA:=zW (fun k (h:k<vG x y)=>iG x y k zGX zGX h);have n1:=sI hx hy;have n0:0<vG x y:=by unfold vG;split<;>omega
 generalize vG x y=k at*;generalize rM x y=L at*;have OO:=zW O;have HH:=zW hc;have D:=zW (DD.refl XX.out);clear X O hx hy hc n0;go_enter Tryz.func106,Tryz.ntmps106;go_wp2_with fail;refine BT.out.mono ?_;rintro e w1 ⟨A,c,rfl,ho,b1⟩;have AL:=zW (A4 ho);have RO:=zW (Row.of_own ho);have D:=zW (D.out.step b1);have B1:=zW b1;clear ho b1 BT;go_wp2_with fail;refine(dL D.out.x k OO.out zGX HH.out).mono ?_;rintro e w2 ⟨rfl,b2⟩;exact⟨rfl,rfl,B1.out.trans (b2.mono B1.out.size)⟩
theorem zXJ(X:XR base lg b m g rb v a ⟨op,x,y,n,nn,ad,ln⟩ q pc f w)(O:OkA a)(hx:x<16)(hn:nn<256):Calls Tryz.prog 112 #[.pointer (some ⟨rb,0,none⟩)] w (Did base lg b m g rb v ⟨op,x,y,n,nn,ad,ln⟩ q w ({a with v:=Cpu.upd a.v x ((nxt a.L a.rd).toNat&&&nn),rd:=a.rd+1}) (pc) (f)):=by
 obtain⟨bn,hbn,hb1⟩:=VS O.LB a.rd;have hbt:(nxt a.L a.rd).toNat=bn:=by rw[hbn];exact Int.toNat_natCast bn
 rw[hbt];have NB:=zW hbn;have wn:IntKind.u8.wrap (nn:Int)=(nn:Int):=by rw[lZ];omega
 have ba:=TZ hb1 hn;have HX:=zW hx;have RD:=zW (show a.rd≤9223372036854775807∧a.L.length≤1000000 from⟨zR O.rd zGL,zR O.L zGL⟩);have D:=zW (DD.refl X);clear X O hn hbn hbt hb1;have k0:∀u:RWc b rb g nn,u.w.cell? ⟨rb,0,none⟩=some (.pointer (some ⟨b,0,none⟩)):=fun u=>u.h0;have k5:∀u:RWc b rb g nn,u.w.cell? ⟨rb,5,none⟩=some (.int .i64 (nn:Int)):=fun u=>u.h5;have k6:∀u:RWc b rb g nn,u.w.cell? ⟨b,601,none⟩=some (.pointer (some ⟨g,0,none⟩)):=fun u=>u.h6;haveI:Nonempty (RWc b rb g nn):=⟨RWc.mk w (yD D.out.x).1 (yD D.out.x).2.1 (yD D.out.x).2.2⟩;go_enter Tryz.func112,Tryz.ntmps112;go_upto_region 0 with fail;refine mT (C:=fun w'=>∃u:RWc b rb g nn,w'=u.w) [([0,2,3,4,5,6,7,8,10,11,12,13,14,15],1),([],9),([16,17],18)] [] zGV zGV (fun _ _ d _ _ h=>by cases d<;>exact h) ⟨⟨w.drew,(yD D.out.x).1,(yD D.out.x).2.1,(yD D.out.x).2.2⟩,rfl⟩ ?_;intro wd hwd;have D:=zW (show DD base lg b m g rb v v ⟨op,x,y,n,nn,ad,ln⟩ q w a pc f wd by rw[hwd];exact D.out.step (zB _ _).drew);clear hwd;refine mD zGW zGY ?_;repeat(go_big_quiet_step (fail))
 refine zY ?_;refine mH zGM ?_;intro K hK;refine mK (g:=126) (caps:=#[]) (args:=#[.pointer (some ⟨rb,0,none⟩)]) (.func 126) _ _ rfl (enters_of Tryz.func126 zGV rfl) rfl zGK ?_;refine(fZ D.out.x HX.out).mono ?_;rintro e w1 ⟨rfl,b1⟩;have D:=zW (D.out.step b1);clear b1;refine⟨_,rfl,?_⟩;refine hK _ _ ⟨⟨w1,(yD D.out.x).1,(yD D.out.x).2.1,(yD D.out.x).2.2⟩,rfl⟩ ?_;clear hK K;simp only[Act.put,zQ,zZ,zJ];refine mD zGW zGY ?_;refine zY ?_;refine mH zGM ?_;intro K hK;refine mK (g:=145) (caps:=#[]) (args:=#[.pointer (some ⟨g,0,none⟩)]) (.func 145) _ _ rfl (enters_of Tryz.func145 zGV rfl) rfl zGK ?_;refine(zX2 D.out.x.rc.rnd RD.out.1 RD.out.2).mono ?_;rintro e w2 ⟨rfl,hs,ha⟩;have D:=zW (zNF D.out hs ha);rw[NB.out];clear hs ha;refine⟨_,rfl,?_⟩;refine hK _ _ ⟨⟨w2,(yD D.out.x).1,(yD D.out.x).2.1,(yD D.out.x).2.2⟩,rfl⟩ ?_;clear hK K;simp only[Act.put,zQ,zZ,zJ];refine mD zGW zGY ?_;repeat(go_big_quiet_step (fail))
 refine zY ?_;refine mH zGM ?_;intro K hK;have cc:=D.out.x.vc HX.out;have fc:=D.out.x.rc.st.frozen x;have D3h:=zW (D.out.put (a':={a with v:=Cpu.upd a.v x (bn&&&nn),rd:=a.rd+1}) x (.int .u8 ((bn&&&nn:Nat):Int)) (tE _ m g x (bn&&&nn) HX.out) rfl rfl rfl D.out.x.rc.res);go_wp2_with fail;refine hK _ _ ⟨⟨_,(yD D3h.out.x).1,(yD D3h.out.x).2.1,(yD D3h.out.x).2.2⟩,rfl⟩ ?_;clear hK K;generalize World.setCell w2 _ _=w3 at D3h⊢;clear cc fc;refine vW rfl ?_;refine zY ?_;go_wp2_with fail;go_end0
 exact⟨rfl,_,D3h.out⟩
end
theorem RI{x:Int}{L:List Int}(hx:0≤x∧x≤255)(h:Bts L):Bts (x::L):=by
 rw[dC]at h⊢;intro y hy;rcases List.mem_cons.1 hy with rfl|hy
 ·exact hx
 ·exact h y hy
theorem zN1:Bts []:=fun k hk=>absurd hk (Nat.not_lt_zero k)
theorem zV4{R:List Int}(h:Bts R):Bts (wH R):=by
 unfold wH;refine pR _ _ _ (pR _ _ _ (pR _ _ _ ?_ ?_) ?_) (dC.1 h)
 ·rw[dC];intro x hx;unfold xM at hx;rw[List.eq_of_mem_replicate hx];decide
 ·exact(by decide+kernel:∀x∈vQ,0≤x∧x≤255)
 ·exact(by decide+kernel:∀x∈wK,0≤x∧x≤255)
theorem zLY{R L:List Int}(hR:Bts R)(hL:Bts L)(hl:L.length≤100000):OkB (uB R L):=
 ⟨⟨fun j _=>(show(0:Nat)<256 by decide),⟨(show(0:Int)≤0 by decide),(show(0:Int)≤65535 by decide)⟩,⟨(show(0:Int)≤512 by decide),(show(512:Int)≤65535 by decide)⟩,(show([]:List Int).length≤16 by decide),aR R,zV4 hR,(show 1≤15 by decide),(show([]:List Ev).length≤1000 by decide),(show 0<256 by decide),(show 0<256 by decide),m5 _,(show 64<256 by decide),fun j _=>(show 0≤mM j∧mM j≤255 from by unfold mM;decide),hl,hL,(show 0≤1000000000 by decide)⟩,fun x hx=>by cases hx⟩
def qf:Pr:=⟨1,false,false,false,false,false,false,true⟩
structure CpB(lg:Lg)(b m g:Nat)(v:Value)(a:AS)(w0 w:World):Prop where
 rc:RC w0.heap.size lg b m g v a w
 low:Below w0.heap.size w0 w
section
variable {lg:Lg} {b m g:Nat} {v:Value} {a a':AS} {w0 w w':World}
theorem CpB.step(h:CpB lg b m g v a w0 w)(hb:Below w.heap.size w w'):CpB lg b m g v a w0 w':=⟨h.rc.step hb,h.low.trans (hb.mono h.low.size)⟩
theorem CpB.put(h:CpB lg b m g v a w0 w)(k:Nat)(x:Value)(e:(stC a m g).setIfInBounds k x=stC a' m g)(eM:a'.M=a.M)(eL:a'.L=a.L)(eR:a'.rd=a.rd)(hres:∀i,i<4→yL (a'.F i) (wid a'.hi) (hei a'.hi)):CpB lg b m g v a' w0 (w.setCell ⟨b,k,none⟩ x):=
 ⟨h.rc.put k x e eM eL eR hres,h.low.setCell (p:=⟨b,k,none⟩) h.rc.bb x⟩
theorem CpB.exec(h:CpB lg b m g v a w0 w){N:Nat}(C:vR N)(hL:cQ w0)(ho:OkB a)(hl:lg.n≤900)(op:Int)(x y n nn:Nat)(addr len:Int)(q:Pr)(hd:QP ⟨op,x,y,n,nn,addr,len⟩ q.lv)(h1:0≤op∧op≤51)(hx:x<16)(hy:y<16)(hn:n<16)(hnn:nn<256)(ha:0≤addr∧addr≤65535)(hl2:0≤len∧len≤4)(hq:1≤q.lv∧q.lv≤3):
  Calls Tryz.prog 67 #[.pointer (some ⟨b,0,none⟩),.agg (lB ⟨op,x,y,n,nn,addr,len⟩),.agg (prc q)] w fun e w'=>e=.returned (.agg (efc (efA a op x y n q)))∧∃v',CpB (lg+16) b m g v' (stA N a op x y n nn addr len q) w0 w'∧lS (vH b m g v) w w'∧(v'.ownBlock=v.ownBlock∨∃k,v'.ownBlock=some k∧w.heap.size≤k):=by
 refine(C.exec w0.heap.size lg b m g v a op x y n nn addr len q w (hL.step h.low) h.rc ho hl hd h1 hx hy hn hnn ha hl2 hq h.low.size).mono ?_;rintro e w2 ⟨rfl,v',rc,k,hv⟩;exact⟨rfl,v',⟨rc,h.low.trans (k.below h.low.size fun j hj=>(h.rc.lt j hj).1)⟩,k,hv⟩
theorem CpB.off(h:CpB lg b m g v a w0 w){q:Nat}{T:TypeId}{cs:Array Value}(hq:Blk q T cs w)(hT:T≠89∧T≠144∧T≠148∧T≠168):¬vH b m g v q:=fun c=>by
 obtain⟨cs',T',fr,hh,hT'⟩:=h.rc.tag q c;have hq:w.heap[q]?=some (.cells cs T (0,0)):=hq;rw[hq]at hh;injection hh with hh
 injection hh with _ e3
 subst e3;rcases hT' with e4|e4|e4|e4
 ·exact hT.1 e4
 ·exact hT.2.1 e4
 ·exact hT.2.2.1 e4
 ·exact hT.2.2.2 e4
theorem CpB.blk(h:CpB lg b m g v a w0 w){q:Nat}{T:TypeId}{cs:Array Value}(hq:Blk q T cs w)(hT:T≠89∧T≠144∧T≠148∧T≠168)(k:lS (vH b m g v) w w'):Blk q T cs w':=(k.block q hq.lt (h.off hq hT)).trans hq
end
theorem zYP:∀i,i<4→yL ((fun _ _=>false:Nat→Nat→Bool) i) (wid false) (hei false):=fun i _=>bC _ _
structure UW(w:World)(u:US)(R L:List Int)(S:List Nat)(ks:List Ev)(FL:List Int):Prop where
 rom:Rd w u.rom.A R∧R.length=u.rom.n
 lst:Rd w u.lst.A L∧L.length=u.lst.n
 stk:hE w u.stk.A S∧S.length=u.stk.n
 keys:Evs w u.keys.A u.keys.n ks
 fl:Rd w u.fl.A FL∧FL.length=u.fl.n
 rb:Bts R
 lb:Bts L
 fb:Bts FL
 s2:∀x∈S,x≤65535
 sc:u.stk.n≤u.stk.c
 i:u.i≤65535
 pc:u.pc≤65535
 dl:u.dl<256
 sd:u.sd<256
 msk:u.msk<256
 v:OkV u.v
def uok(u:US):Prop:=u.rom.n≤2000∧u.lst.n≤100∧u.stk.n≤16∧u.keys.n≤20∧u.fl.n≤16
instance(u:US):Decidable (uok u):=by unfold uok;infer_instance
section
variable {w w':World} {u:US} {R L:List Int} {S:List Nat} {ks:List Ev} {FL:List Int}
theorem UW.step(h:UW w u R L S ks FL)(b:Below w.heap.size w w'):UW w' u R L S ks FL:=
 ⟨⟨h.rom.1.below b,h.rom.2⟩,⟨h.lst.1.below b,h.lst.2⟩,⟨h.stk.1.below b,h.stk.2⟩,h.keys.step b,⟨h.fl.1.below b,h.fl.2⟩,h.rb,h.lb,h.fb,h.s2,h.sc,h.i,h.pc,h.dl,h.sd,h.msk,h.v⟩
end
end
end Go.Proofs.YtbpniahcjbagmaaGreatDoor
