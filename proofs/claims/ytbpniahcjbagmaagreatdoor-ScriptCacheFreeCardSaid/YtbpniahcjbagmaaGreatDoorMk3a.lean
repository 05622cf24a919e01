/- CpuM6, CpuM8, CpuMA, CpuMB, MacBox, MacBoxE. -/
import Derived.Test.YtbpniahcjbagmaaGreatDoorMCpuM2
import Derived.Test.YtbpniahcjbagmaaGreatDoorMCpuM9
import Derived.Test.YtbpniahcjbagmaaGreatDoorMk2e
set_option maxRecDepth 400000
set_option maxHeartbeats 64000000
set_option linter.unusedVariables false
set_option linter.unusedSimpArgs false
namespace Go.Proofs.YtbpniahcjbagmaaGreatDoor
section
open Go.RowKit Num Dec Cpu
theorem zW4(v:Nat→Nat)(k r s:Nat):Cpu.upd (Cpu.upd v k r) k s=Cpu.upd v k s:=by
 funext j
 unfold Cpu.upd;split<;>rfl
theorem zWS:nH Tryz.prog 80 (lK (mQ false 0)):=LM
theorem zNS{gg k:Nat}{M:List Int}{i:Int}{w:World}(B:Bts M)(hM:M.length=65536)(h:Rd w (some ⟨gg,0,none⟩) (seg M i k)):yA gg 0 (byC M i) k (some ⟨gg,0,none⟩) w:=fun hn=>by
 have hl:(seg M i k).length=k:=cO _ _ _;obtain⟨ad,e,hb,hc⟩:=h (by intro e;rw[e]at hl;simp at hl;omega);cases e
 refine⟨rfl,hb,fun j hj=>?_⟩
 have h3:=hc j zGX;rw[xE]at h3;rw[h3,MH B hM i k j zGX]
section
variable {base:Nat} {lg:Lg} {b m g rb:Nat} {v:Value} {a:AS} {op:Int} {x y n nn:Nat} {ad ln:Int} {q:Pr} {pc:Int} {f:Ef} {w:World}
theorem zVY(X:XR base lg b m g rb v a ⟨op,x,y,n,nn,ad,ln⟩ q pc f w)(N:Nat)(hN:N=8192)(O:OkA a)(hx:x<16)(hy:y<16)(hn:n<16)(hc:chk a.i (uZ a.msk n (op==41) 4:Nat) q.fa=0):Calls Tryz.prog 109 #[.pointer (some ⟨rb,0,none⟩)] w (Did base lg b m g rb v ⟨op,x,y,n,nn,ad,ln⟩ q w ({a with F:=drK (byC a.M a.i) a.F a.msk n (op==41) q.cl (a.v x) (a.v y) (rwN a.hi) (rhN a.hi) 4,v:=Cpu.upd a.v 15 (if hiK (byC a.M a.i) a.F a.msk n (op==41) q.cl (a.v x) (a.v y) (rwN a.hi) (rhN a.hi) N 4=true then 1 else 0)}) (pc) ({f with drew:=q.dw&& !a.hi})):=by
 obtain⟨bg,hbg⟩:∃bg,(op==41)=bg:=⟨_,rfl⟩;rw[hbg]at hc⊢;obtain⟨k,hk⟩:∃k,uZ a.msk n bg 4=k:=⟨_,rfl⟩;rw[hk]at hc;have kl:k≤128:=by rw[←hk];exact VU a.msk n bg zGX
 have NE:=zW (fun w=>hk▸JF (scA a) a.msk n bg rfl zG3 zGX w);have XX:=zW X;have RX:=zW (fun(u:lA w)=>NZ (X.step u.below) k O kl hc);have RE:=zW (zYA (byC a.M a.i) a.msk n bg q.cl (a.v x) (a.v y) (eC X.rc.res) zGX);have HD:=zW (zL5 (byC a.M a.i) a.msk n bg q.cl (a.v x) (a.v y) (eC X.rc.res) N hN);have DW:=zW (fun(gg:Nat) (w':World) (hD:yA gg 0 (byC a.M a.i) k (some ⟨gg,0,none⟩) w')=>drawM (scA a) a.msk n rfl O.msk zGX bg q.cl (a.v x) (a.v y) (by have:=O.v x hx;omega) (by have:=O.v y hy;omega) (byC a.M a.i) (EO O.B a.i) gg 0 k (some ⟨gg,0,none⟩) k hk (zG _) zGX w' hD);have OB:=zW (zM O.B O.M);have v0:(0:Int)≤(a.v x:Int):=qG _;have v1:(a.v x:Int)<256:=by have:=O.v x hx;omega
 have v2:(0:Int)≤(a.v y:Int):=qG _;have v3:(a.v y:Int)<256:=by have:=O.v y hy;omega
 obtain⟨Z,hZ⟩:∃Z,drZ (byC a.M a.i) (scA a) a.msk n bg q.cl (a.v x) (a.v y)=Z:=⟨_,rfl⟩;obtain⟨cv,hcv⟩:∃cv,coZ (byC a.M a.i) (scA a) a.msk n bg q.cl (a.v x) (a.v y)=cv:=⟨_,rfl⟩;have ZH:=zW (show Z.hi=a.hi∧Z.M=(a.msk:Int)from⟨by rw[←hZ];rfl,by rw[←hZ];rfl⟩);rw[hZ]at RE DW;rw[hcv]at DW HD;have HE:=zW (show cv=hiK (byC a.M a.i) a.F a.msk n bg q.cl (a.v x) (a.v y) (rwN a.hi) (rhN a.hi) N 4 from HD.out);have RF:=zW (show Rel Z (drK (byC a.M a.i) a.F a.msk n bg q.cl (a.v x) (a.v y) (rwN a.hi) (rhN a.hi) 4)from RE.out);rw[←HE.out];generalize drK (byC a.M a.i) a.F a.msk n bg q.cl (a.v x) (a.v y) (rwN a.hi) (rhN a.hi) 4=F2 at RF⊢;have VX:=zW (fun(u:World) (X:XR base lg b m g rb v a ⟨op,x,y,n,nn,ad,ln⟩ q pc f u)=>fZ X hx);have VY:=zW (fun(u:World) (X:XR base lg b m g rb v a ⟨op,x,y,n,nn,ad,ln⟩ q pc f u)=>vy19 X hy);have HX:=zW (zM hx hy);clear RE HD HE hZ hcv;have p1:w.cell? ⟨rb,1,none⟩=some (.int .i64 op):=(X.r.cell 1).trans rfl;have D:=zW (DD.refl X);have SB:=zW (lD X.rc.st);have RBh:=zW (lD X.r);have r0:=X.rk 0 (.pointer (some ⟨b,0,none⟩)) rfl;have r4:=X.rk 4 (.int .i64 (n:Int)) rfl;clear X O hc hx hy hk;go_enter Tryz.func109,Tryz.ntmps109;go_upto_region 1 with fail;clear p1;refine lT (C:=fun w'=>∃u:lA w,w'=u.w) 15 [([0,1,2,3,4,5,6,7,8,9,10,11,12,13],14,true)] [] [16] zGV zGV ?_ ?_ ⟨⟨w.drew,(zB _ _).drew⟩,rfl⟩ ?_
 ·exact zBB
 ·exact zBN
 intro wd hwd;clear hwd;refine mV zGW zGY ?_;iterate 7 (go_big_quiet_step (fail))
 refine lR (o:=36) cP SB.out zGG rfl (.tmp 20) rfl zGK ?_;rw[yN];simp only[Act.put,zQ,zZ,zJ];iterate 6 (go_big_quiet_step (fail))
 refine zY ?_;refine mW (v:=.int .i64 (k:Int)) (mC (g:=140) (caps:=#[]) (args:=#[.agg (lK (scA a)),.int .i64 (n:Int),.bool bg]) (.func 140) _ _ rfl rfl (enters_of Tryz.func140 zGV rfl) (fun w' hw=>by obtain⟨u,rfl⟩:=hw;exact NE.out u.w) rfl zGK) ?_;simp only[Act.put,zQ,zZ,zJ];refine mZ zGW zGY ?_;refine zY ?_;refine mJ rfl ?_;intro w5 g5 C5 K hK;obtain⟨u5,rfl⟩:=C5;refine mK (g:=136) (caps:=#[]) (args:=#[.pointer (some ⟨rb,0,none⟩),.int .i64 (k:Int)]) (.func 136) _ _ rfl (enters_of Tryz.func136 zGV rfl) rfl zGK ?_;refine(RX.out u5).mono ?_;rintro e w7 ⟨gg,rfl,hg,hR,b7⟩;have B7:=zW (u5.below.trans (b7.mono u5.below.size));have R7:=zW hR;clear hg hR b7;refine⟨_,rfl,?_⟩;refine hK _ _ ?_;clear hK K;simp only[Act.put,zQ,zZ,zJ];try simp only[lW,zX,zK,zV]
 iterate 1 (go_big_quiet_step (fail))
 refine zY ?_;intro w8 g8;have D:=zW (D.out.step (B7.out.trans (g8.mono B7.out.size)));have RR:=zW (R7.out.below g8);clear g8 g5 B7 R7 RX NE SB RBh r0 r4 u5;have VX2:=zW (fun(u:lA w8)=>VX.out u.w (D.out.x.step u.below));have VY2:=zW (fun(u:lA w8)=>VY.out u.w (D.out.x.step u.below));have sx:=D.out.x.vk HX.out.1;have sy:=D.out.x.vk HX.out.2;go_upto_region 2 with fail;refine m7 zGV zGV ?_;iterate 1 (go_big_quiet_step (fail))
 go_big_quiet_step ((go_at_call 126;exact nK (VX2.out _)))
 iterate 4 (go_big_quiet_step (fail))
 go_big_quiet_step ((go_at_call 141;exact nK (VY2.out _)))
 iterate 5 (go_big_quiet_step (fail))
 refine zY ?_;intro _ hw';obtain⟨x',rfl⟩:=hw';have b1:=x'.below;generalize x'.w=wa at*;clear sx sy VX2 VY2 VX VY;have RR:=zW (RR.out.below b1);have D:=zW (D.out.step b1);clear b1;have SB:=zW (lD D.out.x.rc.st);have r0:=D.out.x.rk 0 (.pointer (some ⟨b,0,none⟩)) rfl;have r4:=D.out.x.rk 4 (.int .i64 (n:Int)) rfl;have r13:=D.out.x.rk 13 (.bool q.cl) rfl;go_upto_region 3 with fail;refine lT (C:=fun w'=>∃u:lA wa,w'=u.w) 26 [([0,1,2,3,4,5,6,7,8,9,10,11,12,13,14,15,16,17,18,19,20],21,true),([22,23,24],25,false)] [] [27] zGV zGV ?_ ?_ ⟨⟨wa.drew,(zB _ _).drew⟩,rfl⟩ ?_
 ·exact zBB
 ·exact zBN
 intro wd hwd;clear hwd;refine mV zGW zGY ?_;iterate 6 (go_big_quiet_step (fail))
 refine lR (o:=36) cP SB.out zGG rfl (.tmp 46) rfl zGK ?_;rw[yN];simp only[Act.put,zQ,zZ,zJ];iterate 14 (go_big_quiet_step (fail))
 refine zY ?_;refine mW (v:=.tuple #[.agg (lK Z),.bool cv]) (mC (g:=142) (caps:=#[]) (args:=#[.agg (lK (scA a)),.int .i64 (a.v x:Int),.int .i64 (a.v y:Int),.int .i64 (n:Int),.bool bg,.bool q.cl,.slice (some ⟨gg,0,none⟩) k k]) (.func 142) _ _ rfl rfl (enters_of Tryz.func142 zGV rfl) (fun w' hw=>by obtain⟨u,rfl⟩:=hw;exact DW.out gg u.w (zNS OB.out.1 OB.out.2 (RR.out.below u.below))) rfl zGK) ?_;simp only[Act.put,zQ,zZ,zJ];refine cD zGW zGY ?_;iterate 3 (go_big_quiet_step (fail))
 refine zY ?_;refine cR rfl ?_;intro w4 g4 C4 K hK;obtain⟨u4,rfl⟩:=C4;refine nJ zWS rfl ?_;have B6:=zW (u4.below.trans ((lV u4.w (.cells (lK (mQ false 0)) 80)).mono u4.below.size));have G6:=zW (Blk.new u4.w 80 (lK (mQ false 0)));have L6:=zW u4.below.size;refine hK _ _ ⟨⟨_,B6.out⟩,rfl⟩ ?_;clear hK K g4;obtain⟨gs,hgs⟩:∃gs,u4.w.heap.size=gs:=⟨_,rfl⟩;rw[hgs]at G6 L6⊢;generalize World.alloc u4.w _=w6 at*;clear hgs u4;simp only[Act.put,zQ,zZ,zJ];refine mZ zGW zGY ?_;refine zY ?_;refine mJ rfl ?_;intro w5 g5 C5 K hK;obtain⟨u5,rfl⟩:=C5;have D5:=zW (D.out.step u5.below);have G5:=zW (G6.out.step g5);refine nY (ds:=lK Z) cP G5.out (lN _) (lN _) (nR _) (.tmp 6) (.tmp 63) rfl zGK zGK ?_;have B7:=zW (lU u5.below L6.out (lK Z));have G7:=zW (G5.out.store (lK Z));refine hK _ _ ?_;generalize World.setRow u5.w gs (lK Z)=w7 at*;clear G5 D5 G6;clear hK K;simp only[Act.put,zQ,zZ,zJ];try simp only[lW,zX,zK,zV]
 iterate 1 (go_big_quiet_step (fail))
 refine zY ?_;intro wb g8;have D:=zW (D.out.step (B7.out.trans (g8.mono B7.out.size)));have G:=zW (G7.out.step g8);clear g8 g5 G7 B7 B6 L6 SB r0 r4 r13 DW RR OB u5;have r0:=D.out.x.rk 0 (.pointer (some ⟨b,0,none⟩)) rfl;have GB:=zW (lD G.out);have ne0:=zW (rF G.out D.out.x.rc.st zGL);go_upto_region 4 with fail;refine lT (C:=fun w'=>∃u:lA wb,w'=u.w) 7 [] [0,1,2,3,4,5,6] [] zGV zGV ?_ ?_ ⟨⟨wb.drew,(zB _ _).drew⟩,rfl⟩ ?_
 ·exact zBB
 ·exact zBN
 intro wd hwd;clear hwd;refine mZ zGW zGY ?_;iterate 4 (go_big_quiet_step (fail))
 refine lR (o:=0) cP GB.out (by rw[lN];decide) rfl (.tmp 6) rfl zGK ?_;rw[bA (lN Z)];simp only[Act.put,zQ,zZ,zJ];iterate 2 (go_big_quiet_step (fail))
 refine zY ?_;refine mJ rfl ?_;intro w5 g5 C5 K hK;obtain⟨u5,rfl⟩:=C5;have D5:=zW (D.out.step u5.below);refine mS (o:=36) (ds:=lK Z) cP D5.out.x.rc.st (lN _) zGG (nR _) (.tmp 71) (.tmp 69) rfl zGK zGK ?_;have D:=zW (D5.out.row (a':={a with F:=F2}) (cs:=lP (stC a m g) 36 (lK Z)) (xH a m g F2 a.hi a.msk (JL RF.out ZH.out.1 ZH.out.2)) rfl rfl rfl (by have h:=RF.out.res;rw[ZH.out.1]at h;exact h));have G6:=zW ((G.out.step u5.below).otherRow (b:=gs) (g:=b) ne0.out (lP (stC a m g) 36 (lK Z)));refine hK _ _ ?_;generalize World.setRow u5.w b (lP (stC a m g) 36 (lK Z))=w7 at D G6⊢;clear D5;clear hK K;simp only[Act.put,zQ,zZ,zJ];try simp only[lW,zX,zK,zV]
 refine zY ?_;intro wc g8;have D:=zW (D.out.step g8);have G:=zW (G6.out.step g8);clear g8 g5 r0 GB G6;have r0:wc.cell? ⟨rb,0,none⟩=some (.pointer (some ⟨b,0,none⟩)):=(D.out.x.r.cell 0).trans rfl;have cc:=D.out.x.vc (show 15<16 by decide);have fc:=D.out.x.rc.st.frozen 15;have ne:=zW (rF G.out D.out.x.rc.st zGL);go_upto_region 6 with fail;have D:=zW (D.out.put (a':={a with F:=F2,v:=Cpu.upd a.v 15 0}) 15 (.int .u8 0) (tE {a with F:=F2} m g 15 0 zGL) rfl rfl rfl D.out.x.rc.res);have G:=zW (G.out.other (b:=gs) (g:=b) ne.out 15 (.int .u8 0));generalize World.setCell wc _ _=wd at D G⊢;clear r0 cc fc;have key:∀(t:Nat) (wz:World),DD base lg b m g rb v v ⟨op,x,y,n,nn,ad,ln⟩ q w {a with F:=F2,v:=Cpu.upd a.v 15 t} pc f wz→Blk gs 80 (lK Z) wz→(wz.cell? ⟨rb,14,none⟩=some (.bool q.dw)∧wz.cell? ⟨gs,512,none⟩=some (.bool a.hi)∧wz.cell? ⟨rb,20,none⟩=some (.bool f.drew)∧wz.frozen? ⟨rb,20,none⟩=false):=fun t wz h1 h2=>⟨(h1.x.r.cell 14).trans rfl,(h2.cell 512).trans (by rw[mA _ _ zGL,←ZH.out.1];rfl),(h1.x.r.cell 20).trans rfl,h1.x.r.frozen 20⟩;have KEY:=zW key;clear key;cases cv
 ·exact zBE
 ·have r0:wd.cell? ⟨rb,0,none⟩=some (.pointer (some ⟨b,0,none⟩)):=(D.out.x.r.cell 0).trans rfl;have cc:=D.out.x.vc (show 15<16 by decide);have fc:=D.out.x.rc.st.frozen 15;go_upto_region 8 with fail;have D:=zW (D.out.put (a':={a with F:=F2,v:=Cpu.upd a.v 15 1}) 15 (.int .u8 1) ((tE {a with F:=F2,v:=Cpu.upd a.v 15 0} m g 15 1 zGL).trans (by rw[zW4])) rfl rfl rfl D.out.x.rc.res);have G:=zW (G.out.other (b:=gs) (g:=b) ne.out 15 (.int .u8 1));generalize World.setCell wd _ _=we at D G⊢;clear r0 cc fc;exact zBE
theorem J3(X:XR base lg b m g rb v a ⟨op,x,y,n,nn,ad,ln⟩ q pc f w)(O:OkA a)(hx:x<16)(hy:y<16)(hn:n<16)(hc:chk a.i (uZ a.msk n (op==41) 4:Nat) q.fa≠0):Calls Tryz.prog 109 #[.pointer (some ⟨rb,0,none⟩)] w (f8 4 w):=by
 obtain⟨bg,hbg⟩:∃bg,(op==41)=bg:=⟨_,rfl⟩;rw[hbg]at hc;obtain⟨k,hk⟩:∃k,uZ a.msk n bg 4=k:=⟨_,rfl⟩;rw[hk]at hc;have kl:k≤128:=by rw[←hk];exact VU a.msk n bg zGX
 have NE:=zW (fun w=>hk▸JF (scA a) a.msk n bg rfl zG3 zGX w);have XX:=zW X;have RX:=zW (fun(u:lA w)=>dL (X.step u.below) k O kl hc);have p1:w.cell? ⟨rb,1,none⟩=some (.int .i64 op):=(X.r.cell 1).trans rfl;have D:=zW (DD.refl X);have SB:=zW (lD X.rc.st);have RBh:=zW (lD X.r);have r0:=X.rk 0 (.pointer (some ⟨b,0,none⟩)) rfl;have r4:=X.rk 4 (.int .i64 (n:Int)) rfl;clear X O hc hx hy hk;go_enter Tryz.func109,Tryz.ntmps109;go_upto_region 1 with fail;clear p1;refine lT (C:=fun w'=>∃u:lA w,w'=u.w) 15 [([0,1,2,3,4,5,6,7,8,9,10,11,12,13],14,true)] [] [16] zGV zGV ?_ ?_ ⟨⟨w.drew,(zB _ _).drew⟩,rfl⟩ ?_
 ·exact zBB
 ·exact zBN
 intro wd hwd;clear hwd;refine mV zGW zGY ?_;iterate 7 (go_big_quiet_step (fail))
 refine lR (o:=36) cP SB.out zGG rfl (.tmp 20) rfl zGK ?_;rw[yN];simp only[Act.put,zQ,zZ,zJ];iterate 6 (go_big_quiet_step (fail))
 refine zY ?_;refine mW (v:=.int .i64 (k:Int)) (mC (g:=140) (caps:=#[]) (args:=#[.agg (lK (scA a)),.int .i64 (n:Int),.bool bg]) (.func 140) _ _ rfl rfl (enters_of Tryz.func140 zGV rfl) (fun w' hw=>by obtain⟨u,rfl⟩:=hw;exact NE.out u.w) rfl zGK) ?_;simp only[Act.put,zQ,zZ,zJ];refine mZ zGW zGY ?_;refine zY ?_;refine mJ rfl ?_;intro w5 g5 C5 K hK;obtain⟨u5,rfl⟩:=C5;refine wG (g:=136) (caps:=#[]) (args:=#[.pointer (some ⟨rb,0,none⟩),.int .i64 (k:Int)]) (.func 136) _ _ rfl (enters_of Tryz.func136 zGV rfl) rfl zGK ?_;refine(RX.out u5).mono ?_;rintro e w7 ⟨rfl,b7⟩;exact⟨_,rfl,rfl,rfl,u5.below.trans (b7.mono u5.below.size)⟩
end
end
section
open Go.RowKit Num Dec Cpu Go.Maps
theorem JD(M n k:Nat):uZ M n true k=uZ M 0 true k:=by
 induction k with
 |zero=>rfl
 |succ k ih=>unfold uZ;rw[ih];rfl
theorem rJ(a:AS)(ln:Int)(t:Bool)(lv:Int):{a with pc:=skP a ((a.pc+ln)%65536) t lv}=rW (nxA a ln) t lv:=by
 unfold skP rW;split<;>rfl
theorem xD(a:AS)(op:Int)(x y n:Nat)(q:Pr)(h0:op≠0)(h2:op≠2)(h4:op≠4):caA a op x y n q=chk a.i (spN a.msk op x y n:Nat) q.fa:=by
 unfold caA caN chk;rw[zL h0,zL (fun c=>h4 c.1),zL (fun c=>h2 c.1)]
theorem tY(a:AS)(op:Int)(x y n:Nat)(q:Pr)(h0:op≠0)(h2:op≠2)(h4:op≠4)(hs:spN a.msk op x y n=0)(hi:a.i≤65535):caA a op x y n q=0:=by
 rw[xD a op x y n q h0 h2 h4,hs];unfold chk;rw[zL (fun c=>by have:=c.2;simp at this;omega)]
def lgO(lg:Lg)(op:Int):Lg:=if op=38 then lg else lg+1
def lgE(op:Int):Nat:=if op=38 then 0 else 16
theorem zKW(op:Int):lgE op≤16:=by unfold lgE;split<;>omega
theorem DQ(lg:Lg)(op:Int):lgO lg op≤lg+lgE op:=by
 unfold lgO lgE;split
 ·exact Lg.up _ _
 ·exact Lg.more _ zGL
def zWG(N base:Nat)(lg:Lg)(b m g rb:Nat)(v:Value)(a:AS)(op:Int)(x y n nn:Nat)(ad ln:Int)(q:Pr)(w:World)(e:Ending)(w':World):Prop:=
 (caA a op x y n q=0∧∃a2 pc2,Did base (lgO lg op) b m g rb v ⟨op,x,y,n,nn,ad,ln⟩ q w a2 pc2 (efA a op x y n q) e w'∧{a2 with pc:=pc2}=stA N a op x y n nn ad ln q)∨(caA a op x y n q≠0∧f8 (caA a op x y n q) w e w')
theorem Did.more{base:Nat}{lg:Lg}{b m g rb:Nat}{v:Value}{i:Ins}{q:Pr}{w:World}{a:AS}{pc:Int}{f:Ef}{e:Ending}{w':World}(h:Did base lg b m g rb v i q w a pc f e w'):Did base (lg+1) b m g rb v i q w a pc f e w':=⟨h.1,h.2.imp fun _ d=>d.more (Lg.up _ _)⟩
section
variable {base:Nat} {lg:Lg} {b m g rb:Nat} {v:Value} {a:AS} {op:Int} {x y n nn:Nat} {ad ln:Int} {q:Pr} {N:Nat} {e:Ending} {w':World} {w:World}
theorem vN{a2:AS}{pc2:Int}{f2:Ef}(hc:caA a op x y n q=0)(h:Did base (lg+1) b m g rb v ⟨op,x,y,n,nn,ad,ln⟩ q w a2 pc2 f2 e w')(hf:f2=(if op=38 then⟨0,true,false,false⟩else⟨0,false,op==27,(op==23||op==41)&&(q.dw&& !a.hi)⟩))(hs:{a2 with pc:=pc2}=(if op=38 then a else stB N (nxA a ln) op x y n nn ad ln q))(h38:lgO lg op=lg+1:=by exact zL zGL):zWG N base lg b m g rb v a op x y n nn ad ln q w e w':=
 .inl ⟨hc,a2,pc2,by unfold efA;rw[zN hc,←hf,h38];exact h,by unfold stA;rw[zN hc];exact hs⟩
theorem zLQ{a2:AS}{pc2:Int}{f2:Ef}(hc:caA a op x y n q=0)(h:Did base lg b m g rb v ⟨op,x,y,n,nn,ad,ln⟩ q w a2 pc2 f2 e w')(hf:f2=(if op=38 then⟨0,true,false,false⟩else⟨0,false,op==27,(op==23||op==41)&&(q.dw&& !a.hi)⟩))(hs:{a2 with pc:=pc2}=(if op=38 then a else stB N (nxA a ln) op x y n nn ad ln q))(h38:lgO lg op=lg:=by exact zN rfl):zWG N base lg b m g rb v a op x y n nn ad ln q w e w':=
 .inl ⟨hc,a2,pc2,by unfold efA;rw[zN hc,←hf,h38];exact h,by unfold stA;rw[zN hc];exact hs⟩
theorem wN{c:Int}(hc:caA a op x y n q=c)(h0:c≠0)(h:f8 c w e w'):zWG N base lg b m g rb v a op x y n nn ad ln q w e w':=.inr ⟨by rw[hc];exact h0,by rw[hc];exact h⟩
end
def Found(N base:Nat)(lg:Lg)(b m g rb:Nat)(v:Value)(a:AS)(op:Int)(x y n nn:Nat)(ad ln:Int)(q:Pr)(gs gb:Nat)(w:World):Prop:=
 ∃f caps args,vlk (nA gs gb) op=some (.func (.func f) #[] caps)∧ #[.pointer (some ⟨rb,0,none⟩)]++caps=args∧(∀args w,(callFunc f args).run Tryz.prog w=.ok (.enter f args) w)∧Calls Tryz.prog f args w (zWG N base lg b m g rb v a op x y n nn ad ln q w)
section
variable {base:Nat} {lg:Lg} {b m g rb:Nat} {v:Value} {a:AS} {op:Int} {x y n nn:Nat} {ad ln:Int} {q:Pr} {N:Nat} {gs gb:Nat} {w:World}
abbrev FT(base:Nat)(lg:Lg)(b m g rb:Nat)(v:Value)(a:AS)(x y n nn:Nat)(ad ln:Int)(q:Pr)(N gs gb:Nat)(w:World)(op:Int):Prop:=∀(X:XR base lg b m g rb v a ⟨op,x,y,n,nn,ad,ln⟩ q ((a.pc+ln)%65536) ⟨0,false,false,false⟩ w) (hN:N=8192) (O:OkB a) (hx:x<16) (hy:y<16) (hn:n<16) (hnn:nn<256) (ha:0≤ad∧ad≤65535) (hb:base≤w.heap.size) (hg:lg.n≤950) (SG:Blk gs 187 #[.func (.func 100) #[] #[]] w) (BG:Blk gb 187 #[.func (.func 101) #[] #[]] w),Found N base lg b m g rb v a op x y n nn ad ln q gs gb w
theorem xC{a2:AS}{pc2:Int}(O:OkB a){e:Ending}{w':World}(h:Did base lg b m g rb v ⟨op,x,y,n,nn,ad,ln⟩ q w a2 pc2 ⟨0,false,op==27,(op==23||op==41)&&(q.dw&& !a.hi)⟩ e w')(h0:op≠0:=by decide)(h2:op≠2:=by decide)(h4:op≠4:=by decide)(h38:op≠38:=by decide)(hz:spN a.msk op x y n=0:=by rfl)(hs:{a2 with pc:=pc2}=stB N (nxA a ln) op x y n nn ad ln q:=by rfl):zWG N base lg b m g rb v a op x y n nn ad ln q w e w':=
 vN (tY a op x y n q h0 h2 h4 hz O.o.i.2) h.more (by rw[zL h38]) (by rw[zL h38];exact hs) (zL h38)
theorem found1:FT base lg b m g rb v a x y n nn ad ln q N gs gb w 1:=fun X hN O hx hy hn hnn ha hb hg SG BG=>by
 refine⟨107,#[],#[.pointer (some ⟨rb,0,none⟩)],by unfold nA;rfl,rfl,enters_of Tryz.func107 zGV rfl,?_⟩;exact(zNO X O.o).mono fun e w' h=>xC O h
theorem found2:FT base lg b m g rb v a x y n nn ad ln q N gs gb w 2:=fun X hN O hx hy hn hnn ha hb hg SG BG=>by
 refine⟨94,#[],#[.pointer (some ⟨rb,0,none⟩)],by unfold nA;rfl,rfl,enters_of Tryz.func94 zGV rfl,?_⟩;rcases List.eq_nil_or_concat a.sk with hc|⟨L,t,hc⟩
 ·exact(WY X hc).mono fun e w' h=>wN (by unfold caA caN;rw[zL zGL,zL (fun c=>absurd c.1 zGL),zN ⟨rfl,by rw[hc];rfl⟩]) zGL h
 ·have hc:a.sk=L++[t]:=zG6;have hl:L.length<16:=by have h:=O.o.sk;rw[hc,jK]at h;simp at h;omega
  exact(zKA X L t hc hl).mono fun e w' h=>vN (by unfold caA caN;rw[zL zGL,zL (fun c=>absurd c.1 zGL),zL (fun c=>by have h1:=c.2;rw[hc]at h1;simp at h1),zL (fun c=>by have h1:=c.2;have h2:=O.o.i.2;have h3:spN a.msk 2 x y n=0:=rfl;rw[h3]at h1;simp at h1;omega)]) h.more rfl (by rw[zL zGL];show _=({nxA a ln with sk:=a.sk.dropLast,pc:=a.sk.getLastD 0}:AS);rw[hc];simp[nxA])
theorem found3:FT base lg b m g rb v a x y n nn ad ln q N gs gb w 3:=fun X hN O hx hy hn hnn ha hb hg SG BG=>by
 refine⟨91,#[],#[.pointer (some ⟨rb,0,none⟩)],by unfold nA;rfl,rfl,enters_of Tryz.func91 zGV rfl,?_⟩;exact(jump19 X).mono fun e w' h=>xC O h
theorem found4:FT base lg b m g rb v a x y n nn ad ln q N gs gb w 4:=fun X hN O hx hy hn hnn ha hb hg SG BG=>by
 refine⟨93,#[],#[.pointer (some ⟨rb,0,none⟩)],by unfold nA;rfl,rfl,enters_of Tryz.func93 zGV rfl,?_⟩;by_cases hc:a.sk.length<16
 ·exact(call19 X hc).mono fun e w' h=>vN (by unfold caA caN;rw[zL zGL,zL (fun c=>by omega),zL (fun c=>absurd c.1 zGL),zL (fun c=>by have h1:=c.2;have h2:=O.o.i.2;have h3:spN a.msk 4 x y n=0:=rfl;rw[h3]at h1;simp at h1;omega)]) h.more rfl (rfl)
 ·exact(zQI X (by have:=O.o.sk;omega)).mono fun e w' h=>wN (by unfold caA caN;rw[zL zGL,zN ⟨rfl,by have:=O.o.sk;omega⟩]) zGL h
theorem found5:FT base lg b m g rb v a x y n nn ad ln q N gs gb w 5:=fun X hN O hx hy hn hnn ha hb hg SG BG=>by
 refine⟨89,#[],#[.pointer (some ⟨rb,0,none⟩)],by unfold nA;rfl,rfl,enters_of Tryz.func89 zGV rfl,?_⟩;exact(dP X O.o zGX hx hy hnn).mono fun e w' h=>vN (tY a 5 x y n q zGL zGL zGL rfl O.o.i.2) h.more rfl (rJ a ln _ q.lv)
theorem found6:FT base lg b m g rb v a x y n nn ad ln q N gs gb w 6:=fun X hN O hx hy hn hnn ha hb hg SG BG=>by
 refine⟨89,#[],#[.pointer (some ⟨rb,0,none⟩)],by unfold nA;rfl,rfl,enters_of Tryz.func89 zGV rfl,?_⟩;exact(dP X O.o zGX hx hy hnn).mono fun e w' h=>vN (tY a 6 x y n q zGL zGL zGL rfl O.o.i.2) h.more rfl (rJ a ln _ q.lv)
theorem found7:FT base lg b m g rb v a x y n nn ad ln q N gs gb w 7:=fun X hN O hx hy hn hnn ha hb hg SG BG=>by
 refine⟨89,#[],#[.pointer (some ⟨rb,0,none⟩)],by unfold nA;rfl,rfl,enters_of Tryz.func89 zGV rfl,?_⟩;exact(dP X O.o zGX hx hy hnn).mono fun e w' h=>vN (tY a 7 x y n q zGL zGL zGL rfl O.o.i.2) h.more rfl (rJ a ln _ q.lv)
theorem found8:FT base lg b m g rb v a x y n nn ad ln q N gs gb w 8:=fun X hN O hx hy hn hnn ha hb hg SG BG=>by
 exact zBG
theorem found9:FT base lg b m g rb v a x y n nn ad ln q N gs gb w 9:=fun X hN O hx hy hn hnn ha hb hg SG BG=>by
 exact zBG
theorem zNY:FT base lg b m g rb v a x y n nn ad ln q N gs gb w 10:=fun X hN O hx hy hn hnn ha hb hg SG BG=>by
 exact zBG
theorem zNW:FT base lg b m g rb v a x y n nn ad ln q N gs gb w 11:=fun X hN O hx hy hn hnn ha hb hg SG BG=>by
 exact zBG
theorem zNV:FT base lg b m g rb v a x y n nn ad ln q N gs gb w 12:=fun X hN O hx hy hn hnn ha hb hg SG BG=>by
 exact zBG
theorem zNK:FT base lg b m g rb v a x y n nn ad ln q N gs gb w 13:=fun X hN O hx hy hn hnn ha hb hg SG BG=>by
 exact zBG
theorem zNX:FT base lg b m g rb v a x y n nn ad ln q N gs gb w 14:=fun X hN O hx hy hn hnn ha hb hg SG BG=>by
 exact zBG
theorem zNJ:FT base lg b m g rb v a x y n nn ad ln q N gs gb w 15:=fun X hN O hx hy hn hnn ha hb hg SG BG=>by
 exact zBG
theorem zNZ:FT base lg b m g rb v a x y n nn ad ln q N gs gb w 16:=fun X hN O hx hy hn hnn ha hb hg SG BG=>by
 exact zBG
theorem zNQ:FT base lg b m g rb v a x y n nn ad ln q N gs gb w 17:=fun X hN O hx hy hn hnn ha hb hg SG BG=>by
 exact zBG
theorem zM9:FT base lg b m g rb v a x y n nn ad ln q N gs gb w 18:=fun X hN O hx hy hn hnn ha hb hg SG BG=>by
 exact zBG
theorem zM8:FT base lg b m g rb v a x y n nn ad ln q N gs gb w 19:=fun X hN O hx hy hn hnn ha hb hg SG BG=>by
 refine⟨89,#[],#[.pointer (some ⟨rb,0,none⟩)],by unfold nA;rfl,rfl,enters_of Tryz.func89 zGV rfl,?_⟩;exact(dP X O.o zGX hx hy hnn).mono fun e w' h=>vN (tY a 19 x y n q zGL zGL zGL rfl O.o.i.2) h.more rfl (rJ a ln _ q.lv)
theorem zM7:FT base lg b m g rb v a x y n nn ad ln q N gs gb w 20:=fun X hN O hx hy hn hnn ha hb hg SG BG=>by
 exact zRL
theorem zM6:FT base lg b m g rb v a x y n nn ad ln q N gs gb w 21:=fun X hN O hx hy hn hnn ha hb hg SG BG=>by
 refine⟨92,#[],#[.pointer (some ⟨rb,0,none⟩)],by unfold nA;rfl,rfl,enters_of Tryz.func92 zGV rfl,?_⟩;exact(OU X O.o hx ha).mono fun e w' h=>xC O h
theorem zM5:FT base lg b m g rb v a x y n nn ad ln q N gs gb w 22:=fun X hN O hx hy hn hnn ha hb hg SG BG=>by
 refine⟨112,#[],#[.pointer (some ⟨rb,0,none⟩)],by unfold nA;rfl,rfl,enters_of Tryz.func112 zGV rfl,?_⟩;exact(zXJ X O.o hx hnn).mono fun e w' h=>xC O h
theorem zM4:FT base lg b m g rb v a x y n nn ad ln q N gs gb w 23:=fun X hN O hx hy hn hnn ha hb hg SG BG=>by
 refine⟨109,#[],#[.pointer (some ⟨rb,0,none⟩)],by unfold nA;rfl,rfl,enters_of Tryz.func109 zGV rfl,?_⟩;by_cases hc:chk a.i (uZ a.msk n ((23:Int)==41) 4:Nat) q.fa=0
 ·exact(zVY X N hN O.o hx hy hn hc).mono fun e w' h=>vN ((xD a 23 x y n q zGL zGL zGL).trans (hc)) h.more rfl (rfl)
 ·exact(J3 X O.o hx hy hn hc).mono fun e w' h=>wN ((xD a 23 x y n q zGL zGL zGL).trans (tB (hc))) zGL h
theorem zM3:FT base lg b m g rb v a x y n nn ad ln q N gs gb w 24:=fun X hN O hx hy hn hnn ha hb hg SG BG=>by
 refine⟨90,#[],#[.pointer (some ⟨rb,0,none⟩)],by unfold nA;rfl,rfl,enters_of Tryz.func90 zGV rfl,?_⟩;have e0:(dn a.ks ((a.v x%16:Nat):Int)==((24:Int)==24))=dn a.ks ((a.v x%16:Nat):Int):=by cases dn a.ks ((a.v x%16:Nat):Int)<;>rfl
 exact(JV X O.o zGX hx).mono fun e w' h=>vN (tY a 24 x y n q zGL zGL zGL rfl O.o.i.2) h.more rfl (by rw[e0];exact rJ a ln _ q.lv)
theorem zM2:FT base lg b m g rb v a x y n nn ad ln q N gs gb w 25:=fun X hN O hx hy hn hnn ha hb hg SG BG=>by
 refine⟨90,#[],#[.pointer (some ⟨rb,0,none⟩)],by unfold nA;rfl,rfl,enters_of Tryz.func90 zGV rfl,?_⟩;have e0:(dn a.ks ((a.v x%16:Nat):Int)==((25:Int)==24))=!dn a.ks ((a.v x%16:Nat):Int):=by cases dn a.ks ((a.v x%16:Nat):Int)<;>rfl
 exact(JV X O.o zGX hx).mono fun e w' h=>vN (tY a 25 x y n q zGL zGL zGL rfl O.o.i.2) h.more rfl (by rw[e0];exact rJ a ln _ q.lv)
theorem zM1:FT base lg b m g rb v a x y n nn ad ln q N gs gb w 26:=fun X hN O hx hy hn hnn ha hb hg SG BG=>by
 refine⟨115,#[],#[.pointer (some ⟨rb,0,none⟩)],by unfold nA;rfl,rfl,enters_of Tryz.func115 zGV rfl,?_⟩;exact(DO X hx).mono fun e w' h=>xC O h
theorem zM0:FT base lg b m g rb v a x y n nn ad ln q N gs gb w 27:=fun X hN O hx hy hn hnn ha hb hg SG BG=>by
 refine⟨96,#[],#[.pointer (some ⟨rb,0,none⟩)],by unfold nA;rfl,rfl,enters_of Tryz.func96 zGV rfl,?_⟩;exact(IF X).mono fun e w' h=>xC O h
theorem zMO:FT base lg b m g rb v a x y n nn ad ln q N gs gb w 28:=fun X hN O hx hy hn hnn ha hb hg SG BG=>by
 refine⟨116,#[],#[.pointer (some ⟨rb,0,none⟩)],by unfold nA;rfl,rfl,enters_of Tryz.func116 zGV rfl,?_⟩;exact(GJ X hx).mono fun e w' h=>xC O h
theorem zMI:FT base lg b m g rb v a x y n nn ad ln q N gs gb w 29:=fun X hN O hx hy hn hnn ha hb hg SG BG=>by
 refine⟨117,#[],#[.pointer (some ⟨rb,0,none⟩)],by unfold nA;rfl,rfl,enters_of Tryz.func117 zGV rfl,?_⟩;exact(H9 X hx).mono fun e w' h=>xC O h
theorem zMU:FT base lg b m g rb v a x y n nn ad ln q N gs gb w 30:=fun X hN O hx hy hn hnn ha hb hg SG BG=>by
 refine⟨98,#[],#[.pointer (some ⟨rb,0,none⟩)],by unfold nA;rfl,rfl,enters_of Tryz.func98 zGV rfl,?_⟩;exact(addI19 X O.o hx).mono fun e w' h=>xC O h
theorem zMA:FT base lg b m g rb v a x y n nn ad ln q N gs gb w 31:=fun X hN O hx hy hn hnn ha hb hg SG BG=>by
 refine⟨130,#[.pointer (some ⟨gs,0,none⟩)],#[.pointer (some ⟨rb,0,none⟩),.pointer (some ⟨gs,0,none⟩)],by unfold nA;rfl,rfl,enters_of Tryz.func130 zGV rfl,?_⟩;exact(zKU X hx O.o _ SG).mono fun e w' h=>xC O h
theorem zMC:FT base lg b m g rb v a x y n nn ad ln q N gs gb w 32:=fun X hN O hx hy hn hnn ha hb hg SG BG=>by
 refine⟨102,#[],#[.pointer (some ⟨rb,0,none⟩)],by unfold nA;rfl,rfl,enters_of Tryz.func102 zGV rfl,?_⟩;by_cases hc:chk a.i 3 q.fa=0
 ·exact(zQB X O.o hx hb hg hc).mono fun e w' h=>vN ((xD a 32 x y n q zGL zGL zGL).trans (hc)) h rfl (rfl)
 ·exact(XZ X O.o hx hc).mono fun e w' h=>wN ((xD a 32 x y n q zGL zGL zGL).trans (tB (hc))) zGL h
theorem zME:FT base lg b m g rb v a x y n nn ad ln q N gs gb w 33:=fun X hN O hx hy hn hnn ha hb hg SG BG=>by
 refine⟨103,#[],#[.pointer (some ⟨rb,0,none⟩)],by unfold nA;rfl,rfl,enters_of Tryz.func103 zGV rfl,?_⟩;have hk:∀t:Bool,({(if t=true then{a with M:=put a.M a.i (vY a.v (x+1))}else{a with M:=put a.M a.i (vY a.v (x+1)),i:=(a.i+((x+1:Nat):Int))%65536}:AS)with pc:=(a.pc+ln)%65536}:AS)=ZX (nxA a ln) 33 x y (spN a.msk 33 x y n) t:=fun t=>by cases t<;>rfl
 by_cases hc:chk a.i (x+1:Nat) q.fa=0
 ·exact(zYZ X O.o hx hb hg hc).mono fun e w' h=>vN ((xD a 33 x y n q zGL zGL zGL).trans (hc)) h rfl (hk q.ki)
 ·exact(T4 X O.o hx hc).mono fun e w' h=>wN ((xD a 33 x y n q zGL zGL zGL).trans (tB (hc))) zGL h
theorem zMP:FT base lg b m g rb v a x y n nn ad ln q N gs gb w 34:=fun X hN O hx hy hn hnn ha hb hg SG BG=>by
 refine⟨104,#[],#[.pointer (some ⟨rb,0,none⟩)],by unfold nA;rfl,rfl,enters_of Tryz.func104 zGV rfl,?_⟩;have hk:∀t:Bool,({(if t=true then{a with v:=ldN a.v (upL 0 (x+1)) (byC a.M a.i) (x+1)}else{a with v:=ldN a.v (upL 0 (x+1)) (byC a.M a.i) (x+1),i:=(a.i+((x+1:Nat):Int))%65536}:AS)with pc:=(a.pc+ln)%65536}:AS)=ZX (nxA a ln) 34 x y (spN a.msk 34 x y n) t:=fun t=>by cases t<;>rfl
 by_cases hc:chk a.i (x+1:Nat) q.fa=0
 ·exact(load19 X O.o hx hc).mono fun e w' h=>vN ((xD a 34 x y n q zGL zGL zGL).trans (hc)) h.more rfl (hk q.ki)
 ·exact(OE X O.o hx hc).mono fun e w' h=>wN ((xD a 34 x y n q zGL zGL zGL).trans (tB (hc))) zGL h
theorem zMS:FT base lg b m g rb v a x y n nn ad ln q N gs gb w 35:=fun X hN O hx hy hn hnn ha hb hg SG BG=>by
 refine⟨111,#[],#[.pointer (some ⟨rb,0,none⟩)],by unfold nA;rfl,rfl,enters_of Tryz.func111 zGV rfl,?_⟩;exact(UY X O.o hn rfl).mono fun e w' h=>xC O h
theorem zMF:FT base lg b m g rb v a x y n nn ad ln q N gs gb w 36:=fun X hN O hx hy hn hnn ha hb hg SG BG=>by
 refine⟨111,#[],#[.pointer (some ⟨rb,0,none⟩)],by unfold nA;rfl,rfl,enters_of Tryz.func111 zGV rfl,?_⟩;exact(UK X O.o hn rfl).mono fun e w' h=>xC O h
theorem zMD:FT base lg b m g rb v a x y n nn ad ln q N gs gb w 37:=fun X hN O hx hy hn hnn ha hb hg SG BG=>by
 refine⟨111,#[],#[.pointer (some ⟨rb,0,none⟩)],by unfold nA;rfl,rfl,enters_of Tryz.func111 zGV rfl,?_⟩;exact(UV X O.o hn rfl).mono fun e w' h=>xC O h
theorem zMT:FT base lg b m g rb v a x y n nn ad ln q N gs gb w 38:=fun X hN O hx hy hn hnn ha hb hg SG BG=>by
 refine⟨95,#[],#[.pointer (some ⟨rb,0,none⟩)],by unfold nA;rfl,rfl,enters_of Tryz.func95 zGV rfl,?_⟩;exact(exit19 X).mono fun e w' h=>zLQ (tY a 38 x y n q zGL zGL zGL rfl O.o.i.2) h rfl (rfl)
theorem zMR:FT base lg b m g rb v a x y n nn ad ln q N gs gb w 39:=fun X hN O hx hy hn hnn ha hb hg SG BG=>by
 exact zRY
theorem zMB:FT base lg b m g rb v a x y n nn ad ln q N gs gb w 40:=fun X hN O hx hy hn hnn ha hb hg SG BG=>by
 exact zRY
theorem zMG:FT base lg b m g rb v a x y n nn ad ln q N gs gb w 41:=fun X hN O hx hy hn hnn ha hb hg SG BG=>by
 refine⟨109,#[],#[.pointer (some ⟨rb,0,none⟩)],by unfold nA;rfl,rfl,enters_of Tryz.func109 zGV rfl,?_⟩;by_cases hc:chk a.i (uZ a.msk n ((41:Int)==41) 4:Nat) q.fa=0
 ·exact(zVY X N hN O.o hx hy hn hc).mono fun e w' h=>vN ((xD a 41 x y n q zGL zGL zGL).trans ((show chk a.i (spN a.msk 41 x y n:Nat) q.fa=chk a.i (uZ a.msk n ((41:Int)==41) 4:Nat) q.fa from by show chk a.i (uZ a.msk 0 true 4:Nat) q.fa=chk a.i (uZ a.msk n true 4:Nat) q.fa;rw[JD a.msk n 4]).trans (hc))) h.more rfl (rfl)
 ·exact(J3 X O.o hx hy hn hc).mono fun e w' h=>wN ((xD a 41 x y n q zGL zGL zGL).trans ((show chk a.i (spN a.msk 41 x y n:Nat) q.fa=chk a.i (uZ a.msk n ((41:Int)==41) 4:Nat) q.fa from by show chk a.i (uZ a.msk 0 true 4:Nat) q.fa=chk a.i (uZ a.msk n true 4:Nat) q.fa;rw[JD a.msk n 4]).trans (tB hc))) zGL h
theorem zMH:FT base lg b m g rb v a x y n nn ad ln q N gs gb w 42:=fun X hN O hx hy hn hnn ha hb hg SG BG=>by
 refine⟨130,#[.pointer (some ⟨gb,0,none⟩)],#[.pointer (some ⟨rb,0,none⟩),.pointer (some ⟨gb,0,none⟩)],by unfold nA;rfl,rfl,enters_of Tryz.func130 zGV rfl,?_⟩;exact(zKI X hx O.o _ BG).mono fun e w' h=>xC O h
theorem zMN:FT base lg b m g rb v a x y n nn ad ln q N gs gb w 43:=fun X hN O hx hy hn hnn ha hb hg SG BG=>by
 refine⟨113,#[],#[.pointer (some ⟨rb,0,none⟩)],by unfold nA;rfl,rfl,enters_of Tryz.func113 zGV rfl,?_⟩;exact(YO X hx).mono fun e w' h=>xC O h
theorem zMM:FT base lg b m g rb v a x y n nn ad ln q N gs gb w 44:=fun X hN O hx hy hn hnn ha hb hg SG BG=>by
 refine⟨114,#[],#[.pointer (some ⟨rb,0,none⟩)],by unfold nA;rfl,rfl,enters_of Tryz.func114 zGV rfl,?_⟩;exact(V5 X O.o hx).mono fun e w' h=>xC O h
theorem zML:FT base lg b m g rb v a x y n nn ad ln q N gs gb w 45:=fun X hN O hx hy hn hnn ha hb hg SG BG=>by
 refine⟨111,#[],#[.pointer (some ⟨rb,0,none⟩)],by unfold nA;rfl,rfl,enters_of Tryz.func111 zGV rfl,?_⟩;exact(UX X O.o hn rfl).mono fun e w' h=>xC O h
theorem zMY:FT base lg b m g rb v a x y n nn ad ln q N gs gb w 46:=fun X hN O hx hy hn hnn ha hb hg SG BG=>by
 refine⟨105,#[],#[.pointer (some ⟨rb,0,none⟩)],by unfold nA;rfl,rfl,enters_of Tryz.func105 zGV rfl,?_⟩;by_cases hc:chk a.i (vG x y:Nat) q.fa=0
 ·exact(LU X O.o hx hy hb hg hc).mono fun e w' h=>vN ((xD a 46 x y n q zGL zGL zGL).trans (hc)) h rfl (rfl)
 ·exact(aO X O.o hx hy hc).mono fun e w' h=>wN ((xD a 46 x y n q zGL zGL zGL).trans (tB (hc))) zGL h
theorem zMW:FT base lg b m g rb v a x y n nn ad ln q N gs gb w 47:=fun X hN O hx hy hn hnn ha hb hg SG BG=>by
 refine⟨106,#[],#[.pointer (some ⟨rb,0,none⟩)],by unfold nA;rfl,rfl,enters_of Tryz.func106 zGV rfl,?_⟩;by_cases hc:chk a.i (vG x y:Nat) q.fa=0
 ·exact(VO X O.o hx hy hc).mono fun e w' h=>vN ((xD a 47 x y n q zGL zGL zGL).trans (hc)) h.more rfl (rfl)
 ·exact(ZW X O.o hx hy hc).mono fun e w' h=>wN ((xD a 47 x y n q zGL zGL zGL).trans (tB (hc))) zGL h
theorem zMV:FT base lg b m g rb v a x y n nn ad ln q N gs gb w 48:=fun X hN O hx hy hn hnn ha hb hg SG BG=>by
 exact zRL
theorem zMK:FT base lg b m g rb v a x y n nn ad ln q N gs gb w 49:=fun X hN O hx hy hn hnn ha hb hg SG BG=>by
 refine⟨110,#[],#[.pointer (some ⟨rb,0,none⟩)],by unfold nA;rfl,rfl,enters_of Tryz.func110 zGV rfl,?_⟩;exact(YA X).mono fun e w' h=>xC O h
theorem zMX:FT base lg b m g rb v a x y n nn ad ln q N gs gb w 50:=fun X hN O hx hy hn hnn ha hb hg SG BG=>by
 refine⟨118,#[],#[.pointer (some ⟨rb,0,none⟩)],by unfold nA;rfl,rfl,enters_of Tryz.func118 zGV rfl,?_⟩;by_cases hc:chk a.i 16 q.fa=0
 ·exact(MW X O.o hc).mono fun e w' h=>vN ((xD a 50 x y n q zGL zGL zGL).trans (hc)) h.more rfl (rfl)
 ·exact(iQ X O.o hc).mono fun e w' h=>wN ((xD a 50 x y n q zGL zGL zGL).trans (tB (hc))) zGL h
theorem zMJ:FT base lg b m g rb v a x y n nn ad ln q N gs gb w 51:=fun X hN O hx hy hn hnn ha hb hg SG BG=>by
 refine⟨119,#[],#[.pointer (some ⟨rb,0,none⟩)],by unfold nA;rfl,rfl,enters_of Tryz.func119 zGV rfl,?_⟩;exact(GQ X hx).mono fun e w' h=>xC O h
theorem zK4(gs gb:Nat):vlk (nA gs gb) 0=none:=by unfold nA;rfl
theorem zK3(op:Int)(h:1≤op∧op≤51):FT base lg b m g rb v a x y n nn ad ln q N gs gb w op:=by
 rcases(by omega:op=1∨op=2∨op=3∨op=4∨op=5∨op=6∨op=7∨op=8∨op=9∨op=10∨op=11∨op=12∨op=13∨op=14∨op=15∨op=16∨op=17∨op=18∨op=19∨op=20∨op=21∨op=22∨op=23∨op=24∨op=25∨op=26∨op=27∨op=28∨op=29∨op=30∨op=31∨op=32∨op=33∨op=34∨op=35∨op=36∨op=37∨op=38∨op=39∨op=40∨op=41∨op=42∨op=43∨op=44∨op=45∨op=46∨op=47∨op=48∨op=49∨op=50∨op=51)with rfl|rfl|rfl|rfl|rfl|rfl|rfl|rfl|rfl|rfl|rfl|rfl|rfl|rfl|rfl|rfl|rfl|rfl|rfl|rfl|rfl|rfl|rfl|rfl|rfl|rfl|rfl|rfl|rfl|rfl|rfl|rfl|rfl|rfl|rfl|rfl|rfl|rfl|rfl|rfl|rfl|rfl|rfl|rfl|rfl|rfl|rfl|rfl|rfl|rfl|rfl
 exact found1;exact found2;exact found3;exact found4;exact found5;exact found6;exact found7;exact found8;exact found9;exact zNY;exact zNW;exact zNV;exact zNK;exact zNX;exact zNJ;exact zNZ;exact zNQ;exact zM9;exact zM8;exact zM7;exact zM6;exact zM5;exact zM4;exact zM3;exact zM2;exact zM1;exact zM0;exact zMO;exact zMI;exact zMU;exact zMA;exact zMC;exact zME;exact zMP;exact zMS;exact zMF;exact zMD;exact zMT;exact zMR;exact zMB;exact zMG;exact zMH;exact zMN;exact zMM;exact zML;exact zMY;exact zMW;exact zMV;exact zMK;exact zMX;exact zMJ
end
theorem OF{m n:Nat}{L:List (Int×Value)}{w w':World}{D:DataW Value}(h:iW m n L w D)(b:Below w.heap.size w w'):iW m n L w' D:=
 ⟨h.own.kept (row:=none) ⟨b.os,b.tape,b.output,b.size,fun k hk _=>b.block k hk⟩ zGN,h.is,h.at_,h.has_⟩
theorem LD{P:Program}{Q:Exit→Act→World→Prop}{a:Act}{w:World}{o:Oper}{g:Nat}{caps args:Array Value}{K:Act→World→Prop}(x:Operand)(xs:Array Operand)(ts:Array TypeId)(ho:o.op=.call {callee:=.value x,args:=xs,argTypes:=ts})(eg:∀args w,(callFunc g args).run P w=.ok (.enter g args) w)(hx:a.eval x=.func (.func g) #[] caps)(ha:xs.map a.eval++caps=args)
  (h:Calls P g args w fun e w'=>(∃v,e=.returned v∧K (a.put o.dst v) w')∨(∃c,e=.panicked c∧Q (.panic c) a w')):o.wp P a w K Q:=by
 unfold Oper.wp;rw[dD x xs ts ho hx eg ha w];simp only[Oper.upon];exact h.mono fun e w' hh=>by
  rcases hh with⟨v,he,hk⟩|⟨c,he,hk⟩
  ·subst he;exact hk
  ·subst he;exact hk
theorem eD{P:Program}{Q:Exit→Act→World→Prop}{o:Oper}{a:Act}{w:World}{K:Act→World→Prop}(ty:TypeId)(x:Operand)(ho:o.op=.box ty x)(cs:Array Value)(hx:a.eval x=.agg cs)
  (h:K (a.put o.dst (.pointer (some ⟨w.heap.size,0,none⟩))) (w.alloc (.cells cs ty))):o.wp P a w K Q:=by
 unfold Oper.wp execOp;simp only[ho,hx,Instr.box,newVar,newRow,newObj,zA,Result.andThen_ok,Sem.run_pure];exact h
theorem op_wf{op:Int}(h:0≤op∧op≤51):(Lit.int .i64 op).wf=true:=by
 show(decide ((-9223372036854775808:Int)≤op)&&decide (op≤(9223372036854775807:Int)))=true;rw[qY zGX,qY zGX];rfl
theorem zW1{L:List (Int×Value)}{op:Int}{z:Value}(h:vlk L op=some z):iU L op=z:=by unfold iU;rw[h]
theorem zW2{L:List (Int×Value)}{op:Int}(h:vlk L op=none):iU L op=.nilFunc:=by unfold iU;rw[h]
structure EXR(base:Nat)(lg:Lg)(b m g ge:Nat)(v0 v:Value)(a:AS)(f:Ef)(w w':World):Prop where
 rc:RC base lg b m g v a w'
 e:Blk ge 133 (efc f) w'
 k:lS (vH b m g v0) w w'
 o:v.ownBlock=v0.ownBlock∨∃k,v.ownBlock=some k∧w.heap.size≤k
 ge0:w.heap.size≤ge
section
variable {base:Nat} {lg:Lg} {b m g ge:Nat} {v0 v:Value} {a a':AS} {f f':Ef} {w w1 w2:World}
theorem EXR.step(h:EXR base lg b m g ge v0 v a f w w1)(hb:Below w1.heap.size w1 w2):EXR base lg b m g ge v0 v a f w w2:=⟨h.rc.step hb,h.e.step hb,h.k.trans (O':=vH b m g v0) (lS.of_below hb) vK.refl,h.o,h.ge0⟩
theorem EXR.eff(h:EXR base lg b m g ge v0 v a f w w1)(he:Blk ge 133 (efc f') w2)(k:lS (fun k=>k=ge) w1 w2):EXR base lg b m g ge v0 v a f' w w2:=by
 have no:∀j,vH b m g v j→j≠ge:=fun j hj e=>by
  obtain⟨cs',T',fr,hh,hT'⟩:=h.rc.tag j hj;have hq:w1.heap[ge]?=some (.cells (efc f) 133 (0,0)):=h.e;rw[e,hq]at hh;exact zRZ
 have blk:∀j,vH b m g v j→w2.heap[j]?=w1.heap[j]?:=fun j hj=>k.block j (h.rc.lt j hj).2 (no j hj);refine⟨⟨(blk b (.inl rfl)).trans h.rc.st,(blk m (.inr (.inl rfl))).trans h.rc.mem,?_,?_,h.rc.res,h.rc.bb,h.rc.bm⟩,he,h.k.trans k (fun j hj=> .inr (hj▸h.ge0)),h.o,h.ge0⟩
 ·obtain⟨n,xs,o,r⟩:=h.rc.log;exact⟨n,xs,cV o k fun j ej=>no j (.inr (.inr (.inr ej))),r⟩
 ·obtain⟨A,c,hb,o⟩:=h.rc.rnd.held;exact⟨h.rc.rnd.low,A,c,(blk g (.inr (.inr (.inl rfl)))).trans hb,cV o k (fun j ej e=>tX o h.e zGL (by rw[←e];exact ej))⟩
theorem EXR.meth{rb:Nat}{i:Ins}{q:Pr}{pc:Int}{f2:Ef}{v2:Value}{lg2:Lg}(h:EXR base lg b m g ge v0 v a f w w1)(D:DD base lg2 b m g rb v v2 i q w1 a' pc f2 w2)(hrb:w.heap.size≤rb)(hne:ge≠rb)(hv:v=v0):EXR base lg2 b m g ge v0 v2 a' f w w2:=by
 subst hv;have no:¬vH b m g v ge:=fun c=>by
  obtain⟨cs',T',fr,hh,hT'⟩:=h.rc.tag ge c;have hq:w1.heap[ge]?=some (.cells (efc f) 133 (0,0)):=h.e;rw[hq]at hh;exact zRZ
 refine⟨D.x.rc,(D.k.block ge h.e.lt (fun c=>c.elim no hne)).trans h.e,h.k.trans D.k (fun j hj=>hj.elim .inl (fun e=> .inr (e▸hrb))),?_,h.ge0⟩;rcases D.o with e|⟨k,e,hk⟩
 ·exact .inl e
 ·exact .inr ⟨k,e,zR h.k.size hk⟩
theorem EXR.pc(h:EXR base lg b m g ge v0 v a f w w1)(p:Int):EXR base lg b m g ge v0 v {a with pc:=p} f w (w1.setCell ⟨b,17,none⟩ (.int .i64 p)):=
 ⟨h.rc.put 17 (.int .i64 p) (IA a m g p) rfl rfl rfl h.rc.res,h.e.other (rF h.e h.rc.st zGL) _ _,h.k.trans (O':=vH b m g v0) (yO (.inl rfl)) vK.refl,h.o,h.ge0⟩
end
theorem zVQ(N:Nat)(hN:N=8192)(base:Nat)(lg:Lg)(b m g:Nat)(v:Value)(a:AS)(op:Int)(x y n nn:Nat)(addr len:Int)(q:Pr)(w:World)(H:RC base lg b m g v a w)(O:OkB a)(hlg:lg.n≤900)(hop:0≤op∧op≤51)(hx:x<16)(hy:y<16)(hn:n<16)(hnn:nn<256)(ha:0≤addr∧addr≤65535)(hl:0≤len∧len≤4)(hb:base≤w.heap.size):
  Calls Tryz.prog 67 #[.pointer (some ⟨b,0,none⟩),.agg (lB ⟨op,x,y,n,nn,addr,len⟩),.agg (prc q)] w fun e w'=>e=.returned (.agg (efc (efA a op x y n q)))∧∃v',RC base (lg+lgE op) b m g v' (stA N a op x y n nn addr len q) w'∧lS (vH b m g v) w w'∧(v'.ownBlock=v.ownBlock∨∃k,v'.ownBlock=some k∧w.heap.size≤k):=by
 have hmf:∀(fn:Fn) (first cap:Array Value) (w:World),(Instr.makeFunc fn first cap).run Tryz.prog w=.ok (.func fn first cap) w:=fun _ _ _ _=>rfl;obtain⟨I,hI⟩:∃I:Ins,(⟨op,x,y,n,nn,addr,len⟩:Ins)=I:=⟨_,rfl⟩;have HI:=zW hI;have IO:=zW (show I.op=op∧I.len=len from⟨by rw[←hI],by rw[←hI]⟩);rw[hI];have HH:=zW H;have OO:=zW O;have HB:=zW (zM hb hlg);have HP:=zW hop;have FD:=zW (fun(rb gs gb:Nat) (w':World) (h1:1≤op) (X:XR base lg b m g rb v a ⟨op,x,y,n,nn,addr,len⟩ q ((a.pc+len)%65536) ⟨0,false,false,false⟩ w') (hb':base≤w'.heap.size) SG BG=>zK3 (N:=N) (gs:=gs) (gb:=gb) op ⟨h1,hop.2⟩ X hN O hx hy hn hnn ha hb' zGX SG BG);have wr:IntKind.i64.wrap (a.pc+len)=a.pc+len:=by have:=O.o.pc;rw[zU];omega
 have WR:=zW (fun w=>bJ (a.pc+len) w);have SF:=zW (fail19 N a op x y n nn addr len q);have C0:=zW (fun(h:op=0)=>(show caA a op x y n q=1 from by unfold caA caN;rw[zN h]));obtain⟨ST,hST⟩:∃ST,stA N a op x y n nn addr len q=ST:=⟨_,rfl⟩;obtain⟨EF,hEF⟩:∃EF,efA a op x y n q=EF:=⟨_,rfl⟩;have HS:=zW (zM hST hEF);rw[hST,hEF];clear H O hb hlg hop hx hy hn hnn ha hl hI hST hEF;go_enter_defers Tryz.func67,Tryz.ntmps67;go_upto_region 0 with fail;refine zH ?_;refine lE rfl _ (.tmp 1) rfl (lB I) rfl ?_;simp only[Act.put,zQ,zZ,zJ];refine lE rfl _ (.tmp 2) rfl (prc q) rfl ?_;simp only[Act.put,zQ,zZ,zJ,zT];refine qZ rfl fun K hK=>nJ iY rfl (hK _ _ ?_);clear hK K;simp only[Act.put,zQ,zZ,zJ,zT];have I0:=zW (((Blk.new w 128 (lB I)).alloc (.cells (prc q) 24)).alloc (.cells (efc ⟨0,false,false,false⟩) 133));have P0:=zW ((Blk.new (w.alloc (.cells (lB I) 128)) 24 (prc q)).alloc (.cells (efc ⟨0,false,false,false⟩) 133));have E0:=zW (Blk.new ((w.alloc (.cells (lB I) 128)).alloc (.cells (prc q) 24)) 133 (efc ⟨0,false,false,false⟩));simp only[zT]at P0 E0;have B0:=zW (PY w (.cells (lB I) 128) (.cells (prc q) 24) (.cells (efc ⟨0,false,false,false⟩) 133));obtain⟨gi,hgi⟩:∃gi,w.heap.size=gi:=⟨_,rfl⟩;have GI:=zW hgi;rw[hgi]at I0 P0 E0⊢;clear hgi;generalize World.alloc (World.alloc (World.alloc w _) _) _=w1 at I0 P0 E0 B0⊢;have Z:=zW (show EXR base lg b m g (gi+1+1) v v a ⟨0,false,false,false⟩ w w1 from⟨HH.out.step B0.out,E0.out,lS.of_below B0.out,.inl rfl,by rw[GI.out];omega⟩);clear E0;go_upto_region 4 with fail;have r17:=lA.cell (show w1.cell? ⟨b,17,none⟩=some (.int .i64 a.pc)from(Z.out.rc.st.cell 17).trans (mO _ m g zGX)) Z.out.rc.st.lt;have i6:=lA.cell (show w1.cell? ⟨gi,6,none⟩=some (.int .i64 len)from(I0.out.cell 6).trans (by rw[←IO.out.2];rfl)) I0.out.lt;have IB:=zW (lD I0.out);have PB:=zW (lD P0.out);refine wF (fun A a' w'=>∃rb,a'=(((((((((((((A.put (some 14) (.pointer (some ⟨b,0,none⟩))).put (some 15) (.agg (lB I))).put (some 16) (.agg (prc q))).put (some 17) (.pointer (some ⟨b,0,none⟩))).put (some 18) (.pointer (some ⟨b,0,none⟩))).put (some 19) (.pointer (some ⟨b,17,none⟩))).put (some 20) (.int .i64 a.pc)).put (some 21) (.pointer (some ⟨gi,6,none⟩))).put (some 22) (.int .i64 len)).put (some 23) (.int .i64 (a.pc+len))).put (some 24) (.int .i64 ((a.pc+len)%65536))).put (some 25) (.agg (rnc b I q ((a.pc+len)%65536) ⟨0,false,false,false⟩))).put (some 26) (.pointer (some ⟨rb,0,none⟩))).put (some 7) (.pointer (some ⟨rb,0,none⟩))∧EXR base lg b m g (gi+1+1) v v a ⟨0,false,false,false⟩ w w'∧Blk rb 196 (rnc b I q ((a.pc+len)%65536) ⟨0,false,false,false⟩) w'∧Blk gi 128 (lB I) w'∧base≤w'.heap.size∧w.heap.size≤rb) ?_ ?_
 ·refine lT (C:=fun w'=>∃u:lA w1,w'=u.w) 12 [([0,1,2,3,4,5,6,7,8,9],10,true)] [11] [13] zGV zGV ?_ ?_ ⟨⟨w1.drew,(zB _ _).drew⟩,rfl⟩ ?_
  ·exact fun _ _ d _ _ h=>by cases h.1
  ·exact zBN
  intro wd hwd;clear hwd;refine mV zGW zGY ?_;iterate 1 (go_big_quiet_step (fail))
  refine lR (o:=0) dJ IB.out (by show _≤7;decide) rfl (.tmp 4) rfl zGK ?_;rw[bA (show(lB I).size=7 from rfl)];simp only[Act.put,zQ,zZ,zJ];refine lR (o:=0) zWK PB.out (by show _≤8;decide) rfl (.tmp 5) rfl zGK ?_;rw[bA (show(prc q).size=8 from rfl)];simp only[Act.put,zQ,zZ,zJ];iterate 7 (go_big_quiet_step (fail))
  refine zY ?_;refine mW (v:=.int .i64 ((a.pc+len)%65536)) (mC (g:=77) (caps:=#[]) (args:=#[.int .i64 (a.pc+len)]) (.func 77) _ _ rfl rfl (enters_of Tryz.func77 zGV rfl) (fun w' hw=>by obtain⟨u,rfl⟩:=hw;exact(WR.out u.w).mono fun e w'' h=>⟨h.1,by rw[←h.2];exact Gr.refl _⟩) rfl zGK) ?_;simp only[Act.put,zQ,zZ,zJ];refine mZ zGW zGY ?_;refine vV rfl rfl (by simpa [Act.eval,Act.put]using zQ1 b I q ((a.pc+len)%65536)) ?_;simp only[Act.put,zQ,zZ,zJ];refine zY ?_;refine mJ rfl ?_;intro w5 g5 C5 K hK;obtain⟨u5,rfl⟩:=C5;have Z5:=zW (Z.out.step u5.below);have I5:=zW (I0.out.step u5.below);refine eD _ (.tmp 25) rfl (rnc b I q ((a.pc+len)%65536) ⟨0,false,false,false⟩) zGK ?_;have R5:=zW (Blk.new u5.w 196 (rnc b I q ((a.pc+len)%65536) ⟨0,false,false,false⟩));have bb:=lV u5.w (.cells (rnc b I q ((a.pc+len)%65536) ⟨0,false,false,false⟩) 196);have Z5:=zW (Z5.out.step bb);have I5:=zW (I5.out.step bb);have L5:=zW (show w.heap.size≤u5.w.heap.size from zR B0.out.size u5.below.size);clear bb;refine hK _ _ ?_;obtain⟨rb,hrb⟩:∃rb,u5.w.heap.size=rb:=⟨_,rfl⟩;rw[hrb]at R5 L5⊢;clear hrb;generalize World.alloc u5.w _=w5 at*;clear hK K;simp only[Act.put,zQ,zZ,zJ];try simp only[lW,zX,zK,zV]
  iterate 1 (go_big_quiet_step (fail))
  refine zY ?_;intro w8 g8;have Z:=zW (Z5.out.step g8);have R0:=zW (R5.out.step g8);have I0:=zW (I5.out.step g8);have B8:=zW (show base≤w8.heap.size from zR HB.out.1 (zR L5.out (j7 R0.out.lt)));clear g8 g5 Z5 R5 I5;exact⟨by trivial,rb,rfl,Z.out,R0.out,I0.out,B8.out,L5.out⟩
 rintro _ w8 ⟨rb,rfl,z8,r8,i8,b8,l8⟩;have Z:=zW z8;have R0:=zW r8;have I0:=zW i8;have B8:=zW b8;have L5:=zW l8;clear z8 r8 i8 b8 l8 P0 B0;simp only[Act.put,zQ,zZ,zJ];have i0:=lA.cell (show w8.cell? ⟨gi,0,none⟩=some (.int .i64 op)from(I0.out.cell 0).trans (by rw[←IO.out.1];rfl)) I0.out.lt;go_upto_region 5 with fail;refine wF (fun A a' w'=>∃mp gs gb,a'=((((((((A.put (some 28) (.map (some mp))).put (some 29) (.pointer (some ⟨gi,0,none⟩))).put (some 30) (.int .i64 op)).put (some 31) (.tuple #[iU (nA gs gb) op,.bool (vlk (nA gs gb) op).isSome])).put (some 27) (.tuple #[iU (nA gs gb) op,.bool (vlk (nA gs gb) op).isSome])).put (some 32) (iU (nA gs gb) op)).put (some 33) (.bool (vlk (nA gs gb) op).isSome)).put (some 8) (iU (nA gs gb) op)).put (some 9) (.bool (vlk (nA gs gb) op).isSome)∧EXR base lg b m g (gi+1+1) v v a ⟨0,false,false,false⟩ w w'∧Blk rb 196 (rnc b I q ((a.pc+len)%65536) ⟨0,false,false,false⟩) w'∧(Blk gs 187 #[.func (.func 100) #[] #[]] w'∧Blk gb 187 #[.func (.func 101) #[] #[]] w')∧base≤w'.heap.size) ?_ ?_
 ·refine lT (C:=fun w'=>∃u:lA w8,w'=u.w) 3 [([1,2],0,false)] [] [4,5,6,7,8] zGV zGV ?_ ?_ ⟨⟨w8.drew,(zB _ _).drew⟩,rfl⟩ ?_
  ·exact fun _ _ d _ _ h=>by cases h.1
  ·exact zBN
  intro wd hwd;clear hwd;refine cD zGW zGY ?_;iterate 2 (go_big_quiet_step (fail))
  refine zY ?_;refine cR rfl ?_;intro w4 g4 C4 K hK;obtain⟨u4,rfl⟩:=C4;refine mK (g:=79) (caps:=#[]) (args:=#[]) (.func 79) _ _ rfl (enters_of Tryz.func79 zGV rfl) rfl zGK ?_;refine(zKC u4.w).mono ?_;rintro e w6 ⟨mp,Dm,gs,gb,rfl,hm,b6,sg,bg⟩;have B6:=zW (u4.below.trans (b6.mono u4.below.size));have M6:=zW hm;have G6:=zW (zM sg bg);clear hm b6 sg bg g4;refine⟨_,rfl,?_⟩;refine hK _ _ ⟨⟨w6,B6.out⟩,rfl⟩ ?_;clear hK K;simp only[Act.put,zQ,zZ,zJ];refine mZ zGW zGY ?_;refine zY ?_;refine mJ rfl ?_;intro w5 g5 C5 K hK;obtain⟨u5,rfl⟩:=C5;have M5:=zW (OF M6.out g5);refine TU rfl M5.out (.tmp 28) (.tmp 30) rfl zGK op zGK (op_wf HP.out) ?_;have Z5:=zW (Z.out.step u5.below);have R5:=zW (R0.out.step u5.below);have G5:=zW (zM (G6.out.1.step g5) (G6.out.2.step g5));have L6:=zW u5.below.size;refine hK _ _ ?_;generalize u5.w=w5 at*;clear hK K;simp only[Act.put,zQ,zZ,zJ];try simp only[lW,zX,zK,zV]
  iterate 5 (go_big_quiet_step (fail))
  refine zY ?_;intro wc g8;have Z:=zW (Z5.out.step g8);have R0:=zW (R5.out.step g8);have GG:=zW (zM (G5.out.1.step g8) (G5.out.2.step g8));have L8:=zW (show base≤wc.heap.size from zR B8.out (zR L6.out g8.size));clear g8 g5 i0 Z5 R5 G5 M5 G6 M6;exact⟨by trivial,mp,gs,gb,rfl,Z.out,R0.out,GG.out,L8.out⟩
 rintro _ wc ⟨mp,gs,gb,rfl,z8,r8,g8,b8⟩;have Z:=zW z8;have R0:=zW r8;have GG:=zW g8;have L8:=zW b8;clear z8 r8 g8 b8 i0 I0;simp only[Act.put,zQ,zZ,zJ];have X:=zW (show XR base lg b m g rb v a ⟨op,x,y,n,nn,addr,len⟩ q ((a.pc+len)%65536) ⟨0,false,false,false⟩ wc from⟨Z.out.rc,by rw[HI.out];exact R0.out⟩);have NE:=zW (show gi+1+1≠rb from rF Z.out.e R0.out zGL);have CA:=zW (fun(c:Int) (w':World) (h:Blk (gi+1+1) 133 (efc ⟨0,false,false,false⟩) w')=>zN0 (gi+1+1) c ⟨0,false,false,false⟩ w' h);have CI:=zW (fun(w':World)=>XN (gi+1+1) w');-- how a failure tG
 have PAN:=zW (fun(c:Int) (hc:caA a op x y n q=c) (h0:c≠0)=>(show ST=a∧EF=⟨c,false,false,false⟩from by
  rw[←HS.out.1,←HS.out.2];unfold stA efA;rw[hc,zL h0,zL h0];exact⟨rfl,rfl⟩))
 by_cases h1:1≤op
 ·obtain⟨fn,caps,args,hk,hargs,hent,hcall⟩:=FD.out rb gs gb wc h1 X.out L8.out GG.out.1 GG.out.2;rw[zW1 hk,show(vlk (nA gs gb) op).isSome=true from by rw[hk];rfl];have HC:=zW (zM hargs (zM hent hcall));clear hk hargs hent hcall FD h1;go_upto_region 8 with fail;refine zH ?_;iterate 6 go_step
  refine qZ rfl fun K hK=>?_;refine LD (g:=fn) (caps:=caps) (args:=args) (.tmp 37) _ _ rfl HC.out.2.1 rfl (by simpa [Act.eval,Act.put]using HC.out.1) ?_;refine HC.out.2.2.mono ?_;rintro e wd (⟨hc,a2,pc2,⟨rfl,v2,D⟩,hs⟩|⟨hc,rfl,hbl⟩)
  ·refine .inl ⟨_,rfl,hK _ _ ?_⟩;clear hK K;have Z:=zW (Z.out.meth D L5.out NE.out rfl);have R0:=zW D.x.r;have HF:=zW (show({a2 with pc:=pc2}:AS)=ST from by rw[hs,HS.out.1]);have PF:=zW (show(efc (efA a op x y n q))=efc EF from by rw[HS.out.2]);clear hs D HC X hc;have c16:wd.cell? ⟨rb,16,none⟩=some (.int .i64 pc2):=(R0.out.cell 16).trans rfl;have c17:wd.cell? ⟨b,17,none⟩=some (.int .i64 a2.pc):=(Z.out.rc.st.cell 17).trans (mO _ m g zGX);have f17:=Z.out.rc.st.frozen 17;simp only[Act.put,zQ,zZ,zJ];go_upto_region 10 with fail;have NB:=zW (show rb≠b from rF R0.out Z.out.rc.st zGL);have Z:=zW (Z.out.pc pc2);have R0:=zW (R0.out.other (b:=rb) (g:=b) NB.out 17 (.int .i64 pc2));rw[HF.out]at Z;generalize World.setCell wd _ _=we at Z R0⊢;clear c16 c17 f17 HF NB;refine zH ?_;iterate 9 go_step
   refine m6 (o:=17) fO R0.out (by show _≤21;decide) rfl (.tmp 49) rfl zGK ?_;rw[rnc_ef];simp only[Act.put,zQ,zZ,zJ];rw[PF.out];refine lM (ds:=efc EF) fO Z.out.e rfl rfl (pM _) rfl (.tmp 6) (.tmp 50) rfl zGK zGK ?_;simp only[Act.put,zQ,zZ,zJ];have Z:=zW (Z.out.eff (f':=EF) (Z.out.e.store (efc EF)) (xR rfl));generalize World.setRow we _ _=wf at Z⊢;clear R0 PF;go_wp2_with fail;refine leaves_cons (f:=78) (args:=#[.pointer (some ⟨gi+1+1,0,none⟩)]) zGN (by simp[go_sem]) ?_;refine(CI.out wf).mono ?_;rintro e u' wg ⟨rfl,rfl,bg⟩;have Z:=zW (Z.out.step bg);exact⟨_,zE rfl _ _ (gi+1+1) _ _ _ _ rfl Z.out.e Tryz.underlying133 rfl fO.i,rfl,v2,Z.out.rc.more zBQ,Z.out.k,Z.out.o⟩
  ·refine .inr ⟨_,rfl,?_⟩;clear hK K;have P:=zW (PAN.out _ rfl hc);have Z:=zW (Z.out.step hbl);clear hbl HC X;refine leaves_cons (f:=78) (args:=#[.pointer (some ⟨gi+1+1,0,none⟩)]) zGN (by simp[go_sem]) ?_;refine(CA.out _ wd Z.out.e).mono ?_;exact zB8
 ·obtain rfl:op=0:=by have:=HP.out;omega
  rw[zW2 (zK4 gs gb),show(vlk (nA gs gb) 0).isSome=false from by rw[zK4];rfl];clear FD h1;have P:=zW (PAN.out 1 (C0.out rfl) zGL);go_wp2_with fail;refine(t9 1 zGL _).mono ?_;rintro e w' ⟨rfl,rfl⟩;refine leaves_cons (f:=78) (args:=#[.pointer (some ⟨gi+1+1,0,none⟩)]) zGN (by simp[go_sem]) ?_;refine(CA.out 1 wc Z.out.e).mono ?_;exact zB8
def sN(j:Nat):Value:=
 if j<16 then .int .u8 0 else if j<35 then .int .i64 0 else if j=35 then .pointer none else if j<548 then .int .u64 0 else if j=548 then .bool false else if j=549 then .int .i64 0 else
 if j<566 then .bool false else if j<601 then .int .u8 0 else .pointer none
theorem zKF:(Tryz.prog.info? 89).map (fun i=>(i.zero,i.size))=some (some (.agg (uQ 602 sN)),602):=by kernel_rfl
theorem zWI:nH Tryz.prog 89 (uQ 602 sN):=by unfold nH;rw[cG];exact zKF
theorem FO(off:Nat):∀(L:List Value) (k:Nat) (cs:Array Value),(L.zipIdx k).foldl (fun cs (x:Value×Nat)=>cs.setIfInBounds (off+x.2) x.1) cs=(L.zipIdx (off+k)).foldl (fun cs (x:Value×Nat)=>cs.setIfInBounds x.2 x.1) cs
 |[],_,_=>rfl
 |x::L,k,cs=>by
  rw[List.zipIdx_cons,List.zipIdx_cons,List.foldl_cons,List.foldl_cons,FO off L (k+1)];rfl
theorem t8{place:Nat→Option (Nat×Nat)}{cs c:Array Value}{i off n:Nat}{v:Value}{rest:List (Nat×Value)}(hp:place i=some (off,n))(hv:v.cells=c)(hc:c.size=n)(hl:off+n≤cs.size):Instr.fill place cs ((i,v)::rest)=Instr.fill place (lP cs off c) rest:=by
 conv=>lhs;unfold Instr.fill
 rw[hp];simp only[hv,hc];rw[zL zGH];have e:c.zipIdx.foldl (fun cs (x:Value×Nat)=>cs.setIfInBounds (off+x.2) x.1) cs=lP cs off c:=by
  rw[←Array.foldl_toList,Array.toList_zipIdx];rw[FO off c.toList 0 cs,Nat.add_zero,LQ c.toList off cs (by rw[Array.length_toList,hc];exact hl)];unfold lP;rw[Array.length_toList]
 exact congrArg (fun z=>Instr.fill place z rest) e
theorem IG(R L:List Int)(m g j:Nat)(hj:j<602)(h1:j≠17)(h2:j≠35)(h3:¬(36≤j∧j<550))(h4:¬(568≤j∧j<585))(h5:j≠601):sN j=vU (uB R L) m g j:=by
 unfold sN vU;by_cases c1:j<16
 ·rw[zN c1,zN c1];rfl
 rw[zL c1,zL c1];by_cases c2:j<35
 ·rw[zN c2];by_cases c3:j=16
  ·rw[zN c3];rfl
  rw[zL c3,zL h1];by_cases c4:j<34
  ·rw[zN c4];rfl
  ·rw[zL c4,zN zGX];rfl
 rw[zL c2,zL h2,zL zGX,zL zGX,zL zGX];rw[zL (by omega:¬j=16),zL h1,zL (by omega:¬j<34),zL (by omega:¬j=34),zL h2,zL (by omega:¬j<550)];by_cases c5:j<566
 ·rw[zN c5,zN c5];show Value.bool false=.bool (dnA [] (j-550));unfold dnA;rw[dn_nil]
 rw[zL c5,zL c5,zN zGX];by_cases c6:j=566
 ·rw[zN c6];rfl
 rw[zL c6];by_cases c7:j=567
 ·rw[zN c7];rfl
 rw[zL c7,zL (by omega:¬j<584),zL (by omega:¬j=584),zN zGX];rfl
theorem zQ7(R L:List Int)(m g:Nat):Tryz.prog.built 89 [(2,.int .i64 512),(4,.pointer (some ⟨m,0,none⟩)),(5,.agg (lK (mQ false 1))),(8,.agg (ac mM 64)),(10,.pointer (some ⟨g,0,none⟩))]=some (stC (uB R L) m g):=by
 have hp:(match Tryz.prog.underlying 89 with|some (.struct fields)=>fields.toList.mapM (fun f=>(Tryz.prog.info? f.type).map fun i=>(f.offset,i.size))|_=>none)=some [(0,16),(16,1),(17,1),(18,17),(35,1),(36,514),(550,16),(566,2),(568,17),(585,16),(601,1)]:=by kernel_rfl
 obtain⟨it,hit,hz⟩:=kT.1 zKF;simp only[kQ]at hz;rw[Tryz.underlying89]at hp;unfold Program.built;rw[hit,Tryz.underlying89];simp only at hp⊢;rw[hz.1,hp];have e0:lK (mQ false 1)=lK (scA (uB R L)):=TQ false 1;rw[e0];clear hit hz hp e0 it;obtain⟨h,hh⟩:∃h,vU (uB R L) m g=h:=⟨_,rfl⟩;have hs:∀j,j<514→(lK (scA (uB R L)))[j]?=some (h (36+j)):=fun j hj=>by rw[←hh,mA _ _ hj,fS _ m g hj]
 have ha:∀j,j<17→(ac mM 64)[j]?=some (h (568+j)):=fun j hj=>by
  rw[←hh];by_cases c:j<16
  ·rw[sV _ _ _ c,fP _ m g c];show _=some (Value.int .u8 ((xB mM).getD j 0));rw[qJ,dH,zN c];rfl
  ·obtain rfl:j=16:=by omega
   simp[ac,ZD,uB]
 have h17:h 17=.int .i64 512:=by rw[←hh];rfl
 have h35:h 35=.pointer (some ⟨m,0,none⟩):=by rw[←hh];rfl
 have h601:h 601=.pointer (some ⟨g,0,none⟩):=by rw[←hh];rfl
 have hz:=IG R L m g;rw[hh]at hz;show Instr.fill _ (uQ 602 sN) _=some (uQ 602 (vU (uB R L) m g));rw[hh];clear hh;have sS:=lN (scA (uB R L));generalize lK (scA (uB R L))=S at*;have sA:=nP mM 64;generalize ac mM 64=A at*;rw[t8 (c:=#[.int .i64 512]) (off:=17) (n:=1) rfl rfl rfl (by rw[cG];omega)];rw[nI (o:=17) (c:=#[.int .i64 512]) (h:=fun j=>if j=17 then h j else sN j) (by show 17+1≤602;omega) (fun j hj=>by
  have hj:j<1:=hj;obtain rfl:j=0:=by omega
  simp[h17]) (fun j hj c=>by
  have c:j<17∨17+1≤j:=c;try simp only
  rw[zL zGX])]
 rw[t8 (c:=#[.pointer (some ⟨m,0,none⟩)]) (off:=35) (n:=1) rfl rfl rfl (by rw[cG];omega)];rw[nI (o:=35) (c:=#[.pointer (some ⟨m,0,none⟩)]) (h:=fun j=>if j=35 then h j else if j=17 then h j else sN j) (by show 35+1≤602;omega) (fun j hj=>by
  have hj:j<1:=hj;obtain rfl:j=0:=by omega
  simp[h35]) (fun j hj c=>by
  have c:j<35∨35+1≤j:=c;try simp only
  rw[zL (by omega:¬j=35)])]
 rw[t8 (c:=S) (off:=36) (n:=514) rfl rfl sS (by rw[cG];omega)];rw[nI (o:=36) (c:=S) (h:=fun j=>if 36≤j∧j<550 then h j else if j=35 then h j else if j=17 then h j else sN j) (by rw[sS];omega) (fun j hj=>by
  rw[sS]at hj;rw[hs j hj];try simp only
  rw[zN zGX]) (fun j hj c=>by
  rw[sS]at c;try simp only
  rw[zL (by omega:¬(36≤j∧j<550))])]
 rw[t8 (c:=A) (off:=568) (n:=17) rfl rfl sA (by rw[cG];omega)];rw[nI (o:=568) (c:=A) (h:=fun j=>if 568≤j∧j<585 then h j else if 36≤j∧j<550 then h j else if j=35 then h j else if j=17 then h j else sN j) (by rw[sA];omega) (fun j hj=>by
  rw[sA]at hj;rw[ha j hj];try simp only
  rw[zN zGX]) (fun j hj c=>by
  rw[sA]at c;try simp only
  rw[zL (by omega:¬(568≤j∧j<585))])]
 rw[t8 (c:=#[.pointer (some ⟨g,0,none⟩)]) (off:=601) (n:=1) rfl rfl rfl (by rw[cG];omega)];rw[nI (o:=601) (c:=#[.pointer (some ⟨g,0,none⟩)]) (h:=h) (by show 601+1≤602;omega) (fun j hj=>by
  have hj:j<1:=hj;obtain rfl:j=0:=by omega
  simp[h601]) (fun j hj c=>by
  have c:j<601∨601+1≤j:=c;try simp only
  by_cases c1:568≤j∧j<585
  ·rw[zN c1]
  rw[zL c1];by_cases c2:36≤j∧j<550
  ·rw[zN c2]
  rw[zL c2];by_cases c3:j=35
  ·rw[zN c3]
  rw[zL c3];by_cases c4:j=17
  ·rw[zN c4]
  rw[zL c4];exact hz j hj c4 c3 c2 c1 zGX)]
 rfl
theorem bP{p:Nat}{M:List Int}{v:Value}{w w':World}(h:nV p M v w)(b:Below w.heap.size w w'):nV p M v w':=(b.block p h.lt).trans h
theorem NF(base:Nat)(M:List Int)(w:World):QX base ⟨0,M⟩ M (.slice none 0 0) w:=⟨0,[],kH _ _ _ _,zG _,fun _=>rfl,(fun x hx=>by cases hx),Lgd.nil M⟩
theorem OJ(A:Option Addr)(n c:Nat)(R:List Int)(B:Option Addr)(k d:Nat)(L:List Int)(w:World)(hL:cQ w)(hR:Rd w A R)(hn:R.length=n)(h1:n≤65024)(hB:Rd w B L)(hk:L.length=k)(k1:k≤100000):
  Calls Tryz.prog 36 #[.slice A n c,.slice B k d] w fun e w'=>∃b m g v,e=.returned (.tuple #[.pointer (some ⟨b,0,none⟩),.int .i64 0])∧RC w.heap.size ⟨0,(uB R L).M⟩ b m g v (uB R L) w'∧Below w.heap.size w w':=by
 have HH:=zW (zM hL (zM hR (zM hn (zM hB hk))));have K1:=zW (zM h1 k1);clear hL hR hn h1 hB hk k1;go_enter Tryz.func36,Tryz.ntmps36;go_wp2_with fail;refine(zLR A n c R _ K1.out.1 HH.out.2.2.1 HH.out.2.1 HH.out.1).mono ?_;rintro e w1 ⟨p,rfl,hp,hm,b1⟩;have PL:=zW hp;have HM:=zW hm;have BB:=zW b1;clear hp hm b1;go_wp2_with fail;refine(zX5 _).mono ?_;rintro e w2 ⟨rfl,b2⟩;have HM:=zW (bP HM.out b2);have BB:=zW (BB.out.trans (b2.mono BB.out.size));clear b2;go_wp2_with fail;refine(PM _).mono ?_;rintro e w3 ⟨rfl,b3⟩;have HM:=zW (bP HM.out b3);have BB:=zW (BB.out.trans (b3.mono BB.out.size));clear b3;go_wp2_with fail;refine(zLT B k d L _ (HH.out.2.2.2.1.below BB.out) HH.out.2.2.2.2 (by have:=K1.out.2;omega)).mono ?_;rintro e w4 ⟨g,rfl,hs,b4⟩;have HM:=zW (bP HM.out b4);have HS:=zW (hs.mono BB.out.size);have BB:=zW (BB.out.trans (b4.mono BB.out.size));clear b4 hs;simp only[];go_at_K
 iterate 1 go_step
 refine lC rfl rfl (by simpa [Act.eval]using zQ7 R L p g) ?_;simp only[Act.put,zQ,zZ,zJ];refine lE rfl _ (.tmp 21) rfl (stC (uB R L) p g) rfl ?_;simp only[Act.put,zQ,zZ,zJ];have S:=zW (Blk.new w4 89 (stC (uB R L) p g));have b5:=lV w4 (.cells (stC (uB R L) p g) 89);have HM:=zW (bP HM.out b5);have HS:=zW (HS.out.step b5);have LB:=zW BB.out.size;have BB:=zW (BB.out.trans (b5.mono BB.out.size));clear b5;obtain⟨b,hb⟩:∃b,w4.heap.size=b:=⟨_,rfl⟩;rw[hb]at S LB⊢;clear hb;generalize World.alloc w4 _=w5 at*;go_wp2_with fail;go_ret2;exact⟨b,p,g,.slice none 0 0,rfl,⟨S.out,HM.out,NF _ _ _,HS.out,zYP,LB.out,PL.out⟩,BB.out⟩
theorem zX6(A:Option Addr)(n c:Nat)(B:Option Addr)(k d:Nat)(w:World)(h1:65024<n):
  Calls Tryz.prog 36 #[.slice A n c,.slice B k d] w fun e w'=>e=.returned (.tuple #[.pointer none,.int .i64 7])∧Below w.heap.size w w':=by
 have K1:=zW h1;clear h1;go_enter Tryz.func36,Tryz.ntmps36;go_wp2_with fail;refine(new_no A n c _ K1.out).mono ?_;rintro e w1 ⟨rfl,rfl⟩;go_wp2_with fail;go_ret2;exact⟨rfl,zB _ _⟩
theorem W9(w:World):Calls Tryz.prog 32 #[.pointer none] w fun e w'=>e=.returned (.pointer none)∧Below w.heap.size w w':=by
 go_enter Tryz.func32,Tryz.ntmps32;go_wp2_with fail;go_ret;exact⟨rfl,zB _ _⟩
theorem zJX(a:AS)(m g m':Nat):(stC a m g).setIfInBounds 35 (.pointer (some ⟨m',0,none⟩))=stC a m' g:=rY _ _ fun j hj=>by
 by_cases e:j=35
 ·subst e;rw[zN rfl,dE]
 ·rw[zL e];unfold vU;rw[zL e,zL e]
theorem zJK(a:AS)(m g g':Nat):(stC a m g).setIfInBounds 601 (.pointer (some ⟨g',0,none⟩))=stC a m g':=rY _ _ fun j hj=>by
 by_cases e:j=601
 ·subst e;rw[zN rfl,zQU]
 ·rw[zL e];by_cases h:j<601
  ·unfold vU;simp only[zN h]
  ·omega
theorem zNI(base:Nat)(lg:Lg)(b m g:Nat)(v:Value)(a:AS)(w:World)(H:RC base lg b m g v a w)(O:OkB a):
  Calls Tryz.prog 32 #[.pointer (some ⟨b,0,none⟩)] w fun e w'=>∃b2 m2 g2 v2,e=.returned (.pointer (some ⟨b2,0,none⟩))∧RC w.heap.size ⟨0,a.M⟩ b2 m2 g2 v2 a w'∧Below w.heap.size w w':=by
 have R0:=zW H;have BL:=zW H.st.lt;have OO:=zW O;clear H O;go_enter Tryz.func32,Tryz.ntmps32;go_upto_region 3 with fail;refine zH ?_;iterate 6 go_step
 refine lL zWW R0.out.st (lI _ _ _) rfl (.tmp 7) rfl zGK ?_;simp only[Act.put,zQ,zZ,zJ];refine lO (ds:=stC a m g) zWW zWI cG (lI _ _ _) (zYK _ _ _) rfl rfl rfl (.tmp 3) (.tmp 8) rfl zGK zGK ?_;simp only[Act.put,zQ,zZ,zJ];have S:=zW (Blk.new w 89 (stC a m g));have BB:=zW (lV w (.cells (stC a m g) 89));obtain⟨bc,hbc⟩:∃bc,w.heap.size=bc:=⟨_,rfl⟩;have HB:=zW (kE hbc);rw[hbc]at S⊢;clear hbc;generalize World.alloc w _=w1 at*;have s35:w1.cell? ⟨b,35,none⟩=some (.pointer (some ⟨m,0,none⟩)):=((R0.out.step BB.out).st.cell 35).trans (mO _ m g zGX);go_wp2_with fail;refine(zQC m a.M v _ OO.out.o.M (R0.out.step BB.out).mem).mono ?_;rintro e w2 ⟨m2,rfl,hm2,M2,b2⟩;have S:=zW (S.out.step b2);have MM:=zW M2;have ML:=zW (zR BB.out.size hm2);have BB:=zW (BB.out.trans (b2.mono BB.out.size));have NM:=zW (show bc≠m2 from fun e=>by have h:=S.out.lt;have h2:=IK S.out M2 zGL;exact h2 e);clear b2 M2 hm2 s35;have cs:w2.cell? ⟨bc,35,none⟩=some (.pointer (some ⟨m,0,none⟩)):=(S.out.cell 35).trans (mO _ m g zGX);have fs:=S.out.frozen 35;go_upto_region 5 with fail;have S:=zW ((S.out.put 35 (.pointer (some ⟨m2,0,none⟩))).eq (zJX a m g m2));have BB:=zW (BB.out.setCell (p:=⟨bc,35,none⟩) HB.out (.pointer (some ⟨m2,0,none⟩)));have MM:=zW (show nV m2 a.M (.slice none 0 0) (w2.setCell ⟨bc,35,none⟩ (.pointer (some ⟨m2,0,none⟩)))from(qD w2 ⟨bc,35,none⟩ _ m2 (fun e=>NM.out e.symm)).trans MM.out);generalize World.setCell w2 _ _=w3 at S BB MM⊢;clear cs fs;have s601:w3.cell? ⟨b,601,none⟩=some (.pointer (some ⟨g,0,none⟩)):=((R0.out.step BB.out).st.cell 601).trans (mO _ m g zGX);go_wp2_with fail;refine(GY (R0.out.step BB.out).rnd (zR OO.out.o.L zGL)).mono ?_;rintro e w4 ⟨g2,rfl,hs,b4⟩;have HS:=zW hs;have LL:=zW S.out.lt;have S:=zW (S.out.step b4);have MM:=zW (bP MM.out b4);have L3:=zW BB.out.size;have BB:=zW (BB.out.trans (b4.mono BB.out.size));clear b4 hs s601;have cs:w4.cell? ⟨bc,601,none⟩=some (.pointer (some ⟨g,0,none⟩)):=(S.out.cell 601).trans (mO _ m2 g zGX);have fs:=S.out.frozen 601;go_upto_region 6 with fail;have S:=zW ((S.out.put 601 (.pointer (some ⟨g2,0,none⟩))).eq (zJK a m2 g g2));have BB:=zW (BB.out.setCell (p:=⟨bc,601,none⟩) HB.out (.pointer (some ⟨g2,0,none⟩)));have MM:=zW (show nV m2 a.M (.slice none 0 0) (w4.setCell ⟨bc,601,none⟩ (.pointer (some ⟨g2,0,none⟩)))from(qD w4 ⟨bc,601,none⟩ _ m2 (fun e=>NM.out e.symm)).trans MM.out);have HS:=zW (HS.out.under (nW.setCell (w:=w4) (p:=bc) (g:=none) 601 (.pointer (some ⟨g2,0,none⟩))) LL.out);generalize World.setCell w4 _ _=w5 at S BB MM HS⊢;clear cs fs;go_wp2_with fail;go_ret;exact⟨bc,m2,g2,.slice none 0 0,rfl,⟨S.out,MM.out,NF _ _ _,HS.out.mono L3.out,R0.out.res,HB.out,ML.out⟩,BB.out⟩
def uP(N:Nat):Prop:=∀(base:Nat) (lg:Lg) (b m g:Nat) (v:Value) (a:AS) (op:Int) (x y n nn:Nat) (addr len:Int) (q:Pr) (w:World),RC base lg b m g v a w→OkB a→lg.n≤900→(0≤op∧op≤51)→x<16→y<16→n<16→nn<256→(0≤addr∧addr≤65535)→(0≤len∧len≤4)→base≤w.heap.size→
  Calls Tryz.prog 67 #[.pointer (some ⟨b,0,none⟩),.agg (lB ⟨op,x,y,n,nn,addr,len⟩),.agg (prc q)] w fun e w'=>e=.returned (.agg (efc (efA a op x y n q)))∧
   ∃v',RC base (lg+lgE op) b m g v' (stA N a op x y n nn addr len q) w'∧lS (vH b m g v) w w'∧(v'.ownBlock=v.ownBlock∨∃k,v'.ownBlock=some k∧w.heap.size≤k)
theorem CP(N:Nat)(hN:N=8192):uP N:=fun base lg b m g v a op x y n nn addr len q w H O hlg h1 hx hy hn hnn ha hl hb=>zVQ N hN base lg b m g v a op x y n nn addr len q w H O hlg h1 hx hy hn hnn ha hl hb
theorem iF(N:Nat)(hN:N=8192):vR N where
 new_:=fun A n c R B k d L w hL hR hn h1 hB hk k1=>OJ A n c R B k d L w hL hR hn h1 hB hk k1
 long:=fun A n c B k d L w hL h1 h2 hB hk k1=>zX6 A n c B k d w h1
 exec:=fun base lg b m g v a op x y n nn addr len q w hL H O hlg hd h1 hx hy hn hnn ha hl hq hb=>(zVQ N hN base lg b m g v a op x y n nn addr len q w H O hlg h1 hx hy hn hnn ha hl hb).mono fun e w' h=>⟨h.1,by obtain⟨v',r,k⟩:=h.2;exact⟨v',r.more (Lg.more _ (zKW op)),k⟩⟩
 none_:=fun w=>W9 w
 clone:=fun base lg b m g v a w hL H O=>zNI base lg b m g v a w H O
end
section
open Go.RowKit Num Dec Cpu
theorem QU:nH Tryz.prog 34 (xN 0 0 0 0):=by unfold nH;kernel_rfl
def mcc(s:mR)(b p mp:Nat):Array Value:=#[.int .i64 s.q.lv,.bool s.q.sh,.bool s.q.ki,.bool s.q.jx,.bool s.q.lr,.bool s.q.cl,.bool s.q.dw,.bool s.q.fa,.pointer (some ⟨p,0,none⟩),.map (some mp),.pointer (some ⟨b,0,none⟩),.int .i64 s.k,.int .i64 s.c,.int .i64 s.p,.int .i64 s.y,.int .i64 s.rg,.int .i64 s.ex]
def rA(mb b m g p mp:Nat)(pg:Nat→Option Nat)(v:Value)(k:Nat):Prop:=k=mb∨k=mp∨icO pg p k∨vH b m g v k
structure MP(base mb b m g p mp:Nat)(pg:Nat→Option Nat)(v:Value)(en:Bool)(l:nB)(h k:Nat)(s:mR)(a:AS)(w:World):Prop where
 bk:Blk mb 101 (mcc s b p mp) w
 rc:RC base ⟨0,a.M⟩ b m g v a w
 co:CoC pg p s.q.lv en l h k a.M w
 fl:∃n,∃D:DataW Unit,w.ownsMap Tryz.prog 3 (plainElem Tryz.prog 4) mp n D
 ok:OkM s a
 low:base≤mb∧base≤mp∧∀j,icO pg p j→base≤j
section
variable {base mb b m g p mp h k:Nat} {pg:Nat→Option Nat} {v:Value} {en:Bool} {l:nB} {s:mR} {a:AS} {w w':World}
theorem vC{n:Nat}{D:DataW Unit}(hm:w.ownsMap Tryz.prog 3 (plainElem Tryz.prog 4) mp n D)(e:w'.heap[mp]?=w.heap[mp]?):w'.ownsMap Tryz.prog 3 (plainElem Tryz.prog 4) mp n D:=by
 obtain⟨es,clock,hb,F,r⟩:=hm;exact⟨es,clock,e.trans hb,F,r⟩
theorem MP.step(H:MP base mb b m g p mp pg v en l h k s a w)(hb:Below w.heap.size w w'):MP base mb b m g p mp pg v en l h k s a w':=by
 obtain⟨n,D,hm⟩:=H.fl;exact⟨H.bk.step hb,H.rc.step hb,H.co.step hb,⟨n,D,vC hm (hb.block mp hm.lt)⟩,H.ok,H.low⟩
theorem MP.blt(H:MP base mb b m g p mp pg v en l h k s a w):∀j,rA mb b m g p mp pg v j→base≤j∧j<w.heap.size:=by
 obtain⟨n,D,hm⟩:=H.fl;rintro j (rfl|rfl|c|c)
 ·exact⟨H.low.1,H.bk.lt⟩
 ·exact⟨H.low.2.1,hm.lt⟩
 ·exact⟨H.low.2.2 j c,H.co.blt j c⟩
 ·exact H.rc.lt j c
theorem CoC.tag{lv:Int}{M:List Int}(C:CoC pg p lv en l h k M w):∀j,icO pg p j→∃cs T,Blk j T cs w∧(T=159∨T=190):=by
 rintro j (rfl|⟨i,hi,e⟩)
 ·obtain⟨cs,hb,_⟩:=C.c;exact⟨cs,_,hb,.inl rfl⟩
 ·obtain⟨cs,hb,_⟩:=C.g.some_ i j hi e;exact⟨cs,_,hb,.inr rfl⟩
theorem gF{j:Nat}{T U:TypeId}{cs ds:Array Value}{fr:Nat×Nat}(h1:Blk j T cs w)(h2:w.heap[j]?=some (.cells ds U fr)):T=U:=by
 have h1:w.heap[j]?=some (.cells cs T (0,0)):=h1;rw[h1]at h2;injection h2 with h2
 injection h2 with _ e
theorem MP.own_ic(H:MP base mb b m g p mp pg v en l h k s a w):∀j,icO pg p j→¬vH b m g v j:=fun j c d=>by
 obtain⟨cs,T,hb,hT⟩:=H.co.tag j c;obtain⟨ds,U,fr,h2,hU⟩:=H.rc.tag j d;have e:=gF hb h2;subst e;rcases hT with rfl|rfl<;>(rcases hU with e|e|e|e<;>exact absurd e zGL)
theorem MP.mb_own(H:MP base mb b m g p mp pg v en l h k s a w):¬vH b m g v mb:=fun d=>by
 obtain⟨ds,U,fr,h2,hU⟩:=H.rc.tag mb d;have e:=gF H.bk h2;subst e;rcases hU with e|e|e|e<;>exact absurd e zGL
theorem MP.mb_ic(H:MP base mb b m g p mp pg v en l h k s a w):¬icO pg p mb:=fun d=>by
 obtain⟨cs,T,hb,hT⟩:=H.co.tag mb d;have e:=gF H.bk hb;subst e;rcases hT with e|e<;>exact absurd e zGL
theorem MP.mp_no(H:MP base mb b m g p mp pg v en l h k s a w):mp≠mb∧¬icO pg p mp∧¬vH b m g v mp:=by
 exact zBO
end
theorem u9{mb b p mp:Nat}{s:mR}{w:World}(H:Blk mb 101 (mcc s b p mp) w):
  Calls Tryz.prog 25 #[.pointer (some ⟨mb,0,none⟩)] w fun e w'=>e=.returned (.bool false)∧w=w':=by
 have c10:w.cell? ⟨mb,10,none⟩=some (.pointer (some ⟨b,0,none⟩)):=(H.cell 10).trans rfl;clear H;go_enter Tryz.func25,Tryz.ntmps25;go_wp2;go_returns;exact⟨rfl,rfl⟩
theorem L4{mb b p mp:Nat}{s:mR}{w:World}(H:Blk mb 101 (mcc s b p mp) w):
  Calls Tryz.prog 13 #[.pointer (some ⟨mb,0,none⟩)] w fun e w'=>e=.returned (.agg s.st)∧Below w.heap.size w w':=by
 have MB:=zW H;clear H;go_enter Tryz.func13,Tryz.ntmps13;go_upto_region 0 with fail;refine zH ?_;refine qZ rfl fun K hK=>nJ QU rfl (hK _ _ ?_);clear hK K;simp only[Act.put,zQ,zZ,zJ];have RV:=zW (Blk.new w 34 (xN 0 0 0 0));have BB:=zW (lV w (.cells (xN 0 0 0 0) 34));have MB:=zW (MB.out.step BB.out);obtain⟨gb,hgb⟩:∃k,w.heap.size=k:=⟨_,rfl⟩;have AT:=zW (show w.heap.size≤gb by omega);rw[hgb]at RV⊢;clear hgb;generalize World.alloc _ _=w1 at RV BB MB⊢;go_wp2_with fail;refine(u9 MB.out).mono ?_;rintro e w' ⟨rfl,rfl⟩;go_upto_region 3 with fail;refine zH ?_;iterate 12 go_step
 refine m6 (o:=11) wV MB.out zG7 rfl (.tmp 9) rfl rfl ?_;rw[show(mcc s b p mp).extract 11 (11+4)=s.st from rfl];simp only[Act.put,zQ,zZ,zJ];refine lM (ds:=s.st) wV RV.out rfl rfl (dV _ _ _ _) rfl (.tmp 2) (.tmp 10) rfl rfl rfl ?_;simp only[Act.put,zQ,zZ,zJ];have RW:=zW (RV.out.store s.st);have BW:=zW (lU BB.out AT.out s.st);clear RV BB MB;exact zRJ
theorem YR(N:Nat)(C:vR N){base mb b m g p mp h k:Nat}{pg:Nat→Option Nat}{v:Value}{en:Bool}{l:nB}{s:mR}{a:AS}{w:World}(H:MP base mb b m g p mp pg v en l h k s a w)(L:cQ w):
  Calls Tryz.prog 21 #[.pointer (some ⟨mb,0,none⟩)] w fun e w'=>∃b2 m2 g2 v2,e=.returned (.pointer (some ⟨b2,0,none⟩))∧RC w.heap.size ⟨0,a.M⟩ b2 m2 g2 v2 a w'∧Below w.heap.size w w':=by
 have NN:=zW (u9 H.bk);have CL:=zW (C.clone base ⟨0,a.M⟩ b m g v a w L H.rc H.ok.ok);have c10:w.cell? ⟨mb,10,none⟩=some (.pointer (some ⟨b,0,none⟩)):=(H.bk.cell 10).trans rfl;clear H L C;go_enter Tryz.func21,Tryz.ntmps21;go_wp2_with fail;refine NN.out.mono ?_;rintro e w' ⟨rfl,rfl⟩;go_wp2_with fail;refine CL.out.mono ?_;rintro e w' ⟨b2,m2,g2,v2,rfl,rc,bb⟩;go_wp2;go_returns;exact⟨b2,m2,g2,v2,rfl,rc,bb⟩
theorem MP.own{base mb b m g p mp h k:Nat}{pg:Nat→Option Nat}{v:Value}{en:Bool}{l:nB}{s:mR}{a a':AS}{w w':World}(H:MP base mb b m g p mp pg v en l h k s a w)(hk:lS (vH b m g v) w w')(hr:RC base ⟨0,a'.M⟩ b m g v a' w')(eM:a'.M=a.M)(ho:OkM s a'):MP base mb b m g p mp pg v en l h k s a' w':=by
 obtain⟨n,D,hm⟩:=H.fl;refine⟨(hk.block mb H.bk.lt H.mb_own).trans H.bk,hr,?_,⟨n,D,vC hm (hk.block mp hm.lt H.mp_no.2.2)⟩,ho,H.low⟩;rw[eM];exact H.co.kept hk H.own_ic
theorem T0{base mb b m g p mp h k:Nat}{pg:Nat→Option Nat}{v:Value}{en:Bool}{l:nB}{s:mR}{a:AS}{w:World}(H:MP base mb b m g p mp pg v en l h k s a w):
  Calls Tryz.prog 28 #[.pointer (some ⟨mb,0,none⟩)] w fun e w'=>e=.returned (.tuple #[])∧MP base mb b m g p mp pg v en l h k s (rU a) w'∧lS (vH b m g v) w w':=by
 have NN:=zW (u9 H.bk);have HH:=zW H;have TK:=zW (fun u=>zZ5 (a.dl:Int) (a.sd:Int) u zGX (by have:=H.ok.ok.o.dl;omega) zGX (by have:=H.ok.ok.o.sd;omega));rw[zKQ,zKQ]at TK;have c10:w.cell? ⟨mb,10,none⟩=some (.pointer (some ⟨b,0,none⟩)):=(H.bk.cell 10).trans rfl;clear H;go_enter Tryz.func28,Tryz.ntmps28;go_wp2_with fail;refine NN.out.mono ?_;rintro e w' ⟨rfl,rfl⟩;go_upto_region 2 with fail;refine zH ?_;iterate 12 go_step
 refine m6 (o:=566) XC HH.out.rc.st zGG rfl (.tmp 13) rfl rfl ?_;rw[F9];simp only[Act.put,zQ,zZ,zJ];refine qZ rfl fun K hK=>?_;refine mK (g:=41) (caps:=#[]) (args:=#[.agg #[.int .u8 (a.dl:Int),.int .u8 (a.sd:Int)]]) (.func 41) #[.tmp 14] _ rfl (enters_of Tryz.func41 zGV rfl) rfl zGK ?_;refine(TK.out _).mono ?_;rintro e w2 ⟨rfl,b2⟩;refine⟨_,rfl,?_⟩;refine hK _ _ ?_;clear hK K;simp only[Act.put,zQ,zZ,zJ];have B2:=zW b2;clear b2;iterate 6 go_step
 refine nN (o:=566) (ds:=#[.int .u8 ((a.dl-1:Nat):Int),.int .u8 ((a.sd-1:Nat):Int)]) XC (HH.out.step B2.out).rc.st rfl zGG (by unfold n8;simp[Value.oneCell']) rfl (.tmp 17) (.tmp 15) rfl rfl rfl ?_;simp only[Act.put,zQ,zZ,zJ];have X:=zW (show MP base mb b m g p mp pg v en l h k s (rU a) (w2.setRow b (lP (stC a m g) 566 #[.int .u8 ((a.dl-1:Nat):Int),.int .u8 ((a.sd-1:Nat):Int)]))from
  (HH.out.step B2.out).own (xR (.inl rfl)) ((HH.out.step B2.out).rc.row (by rw[T6];rfl) rfl rfl rfl (HH.out.step B2.out).rc.res) rfl (zXA HH.out.ok))
 have KK:=zW (show lS (vH b m g v) w (w2.setRow b (lP (stC a m g) 566 #[.int .u8 ((a.dl-1:Nat):Int),.int .u8 ((a.sd-1:Nat):Int)]))from
  ((lS.of_below B2.out).trans (xR (O:=vH b m g v) (.inl rfl)) fun k h=> .inl h))
 generalize World.setRow _ _ _=w3 at X KK⊢;go_wp2;go_returns;exact⟨rfl,X.out,KK.out⟩
theorem WS(pc x:Int)(w:World):
  Calls Tryz.prog 51 #[.int .i64 pc,.int .i64 x] w fun e w'=>e=.returned (.func (.func 65) #[] #[.pointer (some ⟨w.heap.size,0,none⟩),.pointer (some ⟨w.heap.size+1,0,none⟩)])∧w'=(w.alloc (.cells #[.int .i64 pc] 3)).alloc (.cells #[.int .i64 x] 3):=by
 go_enter Tryz.func51,Tryz.ntmps51;go_wp2;go_returns;simp
theorem zQ0(k c p y:Int):Tryz.prog.built 34 [(0,.int .i64 k),(1,.int .i64 c),(2,.int .i64 p),(3,.int .i64 y)]=some (xN k c p y):=by kernel_rfl
theorem J2(k c pc x:Int)(q r:Nat)(w:World)(H1:Blk q 3 #[.int .i64 pc] w)(H2:Blk r 3 #[.int .i64 x] w):
  Calls Tryz.prog 65 #[.int .i64 k,.int .i64 c,.pointer (some ⟨q,0,none⟩),.pointer (some ⟨r,0,none⟩)] w fun e w'=>e=.returned (.agg (xN k c pc x))∧Below w.heap.size w w':=by
 have BB:=zW (lV w (.cells (xN 0 0 0 0) 34));have d1:=((H1.step BB.out).cell 0).trans rfl;have d2:=((H2.step BB.out).cell 0).trans rfl;clear H1 H2;go_enter Tryz.func65,Tryz.ntmps65;go_upto_region 0 with fail;refine zH ?_;refine qZ rfl fun K hK=>nJ QU rfl (hK _ _ ?_);clear hK K;simp only[Act.put,zQ,zZ,zJ];have RV:=zW (Blk.new w 34 (xN 0 0 0 0));obtain⟨gb,hgb⟩:∃k,w.heap.size=k:=⟨_,rfl⟩;have AT:=zW (show w.heap.size≤gb by omega);rw[hgb]at RV⊢;clear hgb;generalize World.alloc _ _=w1 at RV BB d1 d2⊢;go_upto_region 1 with fail;refine zH ?_;iterate 12 go_step
 refine lC (cs:=xN k c pc x) rfl rfl (by simp[Act.eval];exact zQ0 k c pc x) ?_;simp only[Act.put,zQ,zZ,zJ];refine lM (ds:=xN k c pc x) wV RV.out rfl rfl (dV _ _ _ _) rfl (.tmp 6) (.tmp 11) rfl rfl rfl ?_;simp only[Act.put,zQ,zZ,zJ];have RW:=zW (RV.out.store (xN k c pc x));have BW:=zW (lU BB.out AT.out (xN k c pc x));clear RV BB d1 d2;exact zRJ
theorem Q0:nH Tryz.prog 128 nD:=by unfold nH nD;kernel_rfl
theorem zKS(i:Ins):n8 (lB i):=by unfold n8 lB;simp[Value.oneCell']
end
end Go.Proofs.YtbpniahcjbagmaaGreatDoor
