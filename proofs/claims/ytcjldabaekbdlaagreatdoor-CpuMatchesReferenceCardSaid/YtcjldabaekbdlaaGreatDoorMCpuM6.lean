/- CpuM6. -/
import Derived.Test.YtcjldabaekbdlaaGreatDoorMCpuM2
import Derived.Test.YtcjldabaekbdlaaGreatDoorMCpuM3
import Derived.Test.YtcjldabaekbdlaaGreatDoorMCpuM4
set_option maxRecDepth 400000
set_option maxHeartbeats 64000000
set_option linter.unusedVariables false
set_option linter.unusedSimpArgs false
namespace Go.Proofs.YtcjldabaekbdlaaGreatDoor
section
open Go.RowKit Num Dec Cpu
theorem zLG(v:Nat→Nat)(k r s:Nat):Cpu.upd (Cpu.upd v k r) k s=Cpu.upd v k s:=by
 funext j
 unfold Cpu.upd;split<;>rfl
theorem zLK:cY Tryz.prog 72 (lO (m6 false 0)):=YD
theorem zHP{gg k:Nat}{M:List Int}{i:Int}{w:World}(B:Bts M)(hM:M.length=65536)(h:Rd w (some ⟨gg,0,none⟩) (seg M i k)):wO gg 0 (byC M i) k (some ⟨gg,0,none⟩) w:=fun hn=>by
 have hl:(seg M i k).length=k:=xU _ _ _;obtain⟨ad,e,hb,hc⟩:=h (by intro e;rw[e]at hl;simp at hl;omega);cases e
 refine⟨rfl,hb,fun j hj=>?_⟩
 have h3:=hc j zBY;rw[yN]at h3;rw[h3,Y9 B hM i k j zBY]
section
variable {base lg b m g rb:Nat} {v:Value} {a:AS} {op:Int} {x y n nn:Nat} {ad ln:Int} {q:Pr} {pc:Int} {f:Ef} {w:World}
theorem zW1(X:XR base lg b m g rb v a ⟨op,x,y,n,nn,ad,ln⟩ q pc f w)(N:Nat)(hN:N=8192)(O:OkA a)(hx:x<16)(hy:y<16)(hn:n<16)(hc:chk a.i (xJ a.msk n (op==41) 4:Nat) q.fa=0):Calls Tryz.prog 136 #[.pointer (some ⟨rb,0,none⟩)] w (Did base lg b m g rb v ⟨op,x,y,n,nn,ad,ln⟩ q w ({a with F:=drK (byC a.M a.i) a.F a.msk n (op==41) q.cl (a.v x) (a.v y) (rwN a.hi) (rhN a.hi) 4,v:=Cpu.upd a.v 15 (if hiK (byC a.M a.i) a.F a.msk n (op==41) q.cl (a.v x) (a.v y) (rwN a.hi) (rhN a.hi) N 4=true then 1 else 0)}) (pc) ({f with drew:=q.dw&& !a.hi})):=by
 obtain⟨bg,hbg⟩:∃bg,(op==41)=bg:=⟨_,rfl⟩;rw[hbg]at hc⊢;obtain⟨k,hk⟩:∃k,xJ a.msk n bg 4=k:=⟨_,rfl⟩;rw[hk]at hc;have kl:k≤128:=by rw[←hk];exact GX a.msk n bg zBY
 have NE:=zW (fun w=>hk▸XN (scA a) a.msk n bg rfl zR1 zBY w);have XX:=zW X;have RX:=zW (fun(u:mH w)=>VN (X.step u.below) k O kl hc);have RE:=zW (zL6 (byC a.M a.i) a.msk n bg q.cl (a.v x) (a.v y) (aC X.rc.res) zBY);have HD:=zW (zM9 (byC a.M a.i) a.msk n bg q.cl (a.v x) (a.v y) (aC X.rc.res) N hN);have DW:=zW (fun(gg:Nat) (w':World) (hD:wO gg 0 (byC a.M a.i) k (some ⟨gg,0,none⟩) w')=>drawM (scA a) a.msk n rfl O.msk zBY bg q.cl (a.v x) (a.v y) (by have:=O.v x hx;omega) (by have:=O.v y hy;omega) (byC a.M a.i) (WY O.B a.i) gg 0 k (some ⟨gg,0,none⟩) k hk (zH _) zBY w' hD);have OB:=zW (zY O.B O.M);have v0:(0:Int)≤(a.v x:Int):=qG _;have v1:(a.v x:Int)<256:=by have:=O.v x hx;omega
 have v2:(0:Int)≤(a.v y:Int):=qG _;have v3:(a.v y:Int)<256:=by have:=O.v y hy;omega
 obtain⟨Z,hZ⟩:∃Z,drZ (byC a.M a.i) (scA a) a.msk n bg q.cl (a.v x) (a.v y)=Z:=⟨_,rfl⟩;obtain⟨cv,hcv⟩:∃cv,coZ (byC a.M a.i) (scA a) a.msk n bg q.cl (a.v x) (a.v y)=cv:=⟨_,rfl⟩;have ZH:=zW (show Z.hi=a.hi∧Z.M=(a.msk:Int)from⟨by rw[←hZ];rfl,by rw[←hZ];rfl⟩);rw[hZ]at RE DW;rw[hcv]at DW HD;have HE:=zW (show cv=hiK (byC a.M a.i) a.F a.msk n bg q.cl (a.v x) (a.v y) (rwN a.hi) (rhN a.hi) N 4 from HD.out);have RF:=zW (show Rel Z (drK (byC a.M a.i) a.F a.msk n bg q.cl (a.v x) (a.v y) (rwN a.hi) (rhN a.hi) 4)from RE.out);rw[←HE.out];generalize drK (byC a.M a.i) a.F a.msk n bg q.cl (a.v x) (a.v y) (rwN a.hi) (rhN a.hi) 4=F2 at RF⊢;have VX:=zW (fun(u:World) (X:XR base lg b m g rb v a ⟨op,x,y,n,nn,ad,ln⟩ q pc f u)=>oA X hx);have VY:=zW (fun(u:World) (X:XR base lg b m g rb v a ⟨op,x,y,n,nn,ad,ln⟩ q pc f u)=>vy19 X hy);have HX:=zW (zY hx hy);clear RE HD HE hZ hcv;have p1:w.cell? ⟨rb,1,none⟩=some (.int .i64 op):=(X.r.cell 1).trans rfl;have D:=zW (DD.refl X);have SB:=zW (mR X.rc.st);have RB:=zW (mR X.r);have r0:=X.rk 0 (.pointer (some ⟨b,0,none⟩)) rfl;have r4:=X.rk 4 (.int .i64 (n:Int)) rfl;clear X O hc hx hy hk;go_enter Tryz.func136,Tryz.ntmps136;go_upto_region 1 with fail;clear p1;refine mX (C:=fun w'=>∃u:mH w,w'=u.w) 15 [([0,1,2,3,4,5,6,7,8,9,10,11,12,13],14,true)] [] [16] zBM zBM ?_ ?_ ⟨⟨w.drew,(zB _ _).drew⟩,rfl⟩ ?_
 ·exact zT8
 ·exact zT0
 intro wd hwd;clear hwd;refine m4 zBN zBG ?_;iterate 7 (go_big_quiet_step (fail))
 refine mG (o:=36) yM SB.out zBE rfl (.tmp 20) rfl zBL ?_;rw[rL];simp only[Act.put,zQ,zZ,zJ];iterate 6 (go_big_quiet_step (fail))
 refine zM ?_;refine m5 (v:=.int .i64 (k:Int)) (nN (g:=201) (caps:=#[]) (args:=#[.agg (lO (scA a)),.int .i64 (n:Int),.bool bg]) (.func 201) _ _ rfl rfl (enters_of Tryz.func201 zBM rfl) (fun w' hw=>by obtain⟨u,rfl⟩:=hw;exact NE.out u.w) rfl zBL) ?_;simp only[Act.put,zQ,zZ,zJ];refine mE zBN zBG ?_;refine zM ?_;refine mC rfl ?_;intro w5 g5 C5 K hK;obtain⟨u5,rfl⟩:=C5;refine mF (g:=198) (caps:=#[]) (args:=#[.pointer (some ⟨rb,0,none⟩),.int .i64 (k:Int)]) (.func 198) _ _ rfl (enters_of Tryz.func198 zBM rfl) rfl zBL ?_;refine(RX.out u5).mono ?_;rintro e w7 ⟨gg,rfl,hg,hR,b7⟩;have B7:=zW (u5.below.trans (b7.mono u5.below.size));have R7:=zW hR;clear hg hR b7;refine⟨_,rfl,?_⟩;refine hK _ _ ?_;clear hK K;simp only[Act.put,zQ,zZ,zJ];try simp only[lA,zX,zK,zV]
 iterate 1 (go_big_quiet_step (fail))
 refine zM ?_;intro w8 g8;have D:=zW (D.out.step (B7.out.trans (g8.mono B7.out.size)));have RR:=zW (R7.out.below g8);clear g8 g5 B7 R7 RX NE SB RB r0 r4 u5;have VX2:=zW (fun(u:mH w8)=>VX.out u.w (D.out.x.step u.below));have VY2:=zW (fun(u:mH w8)=>VY.out u.w (D.out.x.step u.below));have sx:=D.out.x.vk HX.out.1;have sy:=D.out.x.vk HX.out.2;go_upto_region 2 with fail;refine m8 zBM zBM ?_;iterate 1 (go_big_quiet_step (fail))
 go_big_quiet_step ((go_at_call 189;exact nM (VX2.out _)))
 iterate 4 (go_big_quiet_step (fail))
 go_big_quiet_step ((go_at_call 202;exact nM (VY2.out _)))
 iterate 5 (go_big_quiet_step (fail))
 refine zM ?_;intro _ hw';obtain⟨x',rfl⟩:=hw';have b1:=x'.below;generalize x'.w=wa at*;clear sx sy VX2 VY2 VX VY;have RR:=zW (RR.out.below b1);have D:=zW (D.out.step b1);clear b1;have SB:=zW (mR D.out.x.rc.st);have r0:=D.out.x.rk 0 (.pointer (some ⟨b,0,none⟩)) rfl;have r4:=D.out.x.rk 4 (.int .i64 (n:Int)) rfl;have r13:=D.out.x.rk 13 (.bool q.cl) rfl;go_upto_region 3 with fail;refine mX (C:=fun w'=>∃u:mH wa,w'=u.w) 26 [([0,1,2,3,4,5,6,7,8,9,10,11,12,13,14,15,16,17,18,19,20],21,true),([22,23,24],25,false)] [] [27] zBM zBM ?_ ?_ ⟨⟨wa.drew,(zB _ _).drew⟩,rfl⟩ ?_
 ·exact zT8
 ·exact zT0
 intro wd hwd;clear hwd;refine m4 zBN zBG ?_;iterate 6 (go_big_quiet_step (fail))
 refine mG (o:=36) yM SB.out zBE rfl (.tmp 46) rfl zBL ?_;rw[rL];simp only[Act.put,zQ,zZ,zJ];iterate 14 (go_big_quiet_step (fail))
 refine zM ?_;refine m5 (v:=.tuple #[.agg (lO Z),.bool cv]) (nN (g:=203) (caps:=#[]) (args:=#[.agg (lO (scA a)),.int .i64 (a.v x:Int),.int .i64 (a.v y:Int),.int .i64 (n:Int),.bool bg,.bool q.cl,.slice (some ⟨gg,0,none⟩) k k]) (.func 203) _ _ rfl rfl (enters_of Tryz.func203 zBM rfl) (fun w' hw=>by obtain⟨u,rfl⟩:=hw;exact DW.out gg u.w (zHP OB.out.1 OB.out.2 (RR.out.below u.below))) rfl zBL) ?_;simp only[Act.put,zQ,zZ,zJ];refine vW zBN zBG ?_;iterate 3 (go_big_quiet_step (fail))
 refine zM ?_;refine vV rfl ?_;intro w4 g4 C4 K hK;obtain⟨u4,rfl⟩:=C4;refine nF zLK rfl ?_;have B6:=zW (u4.below.trans ((mJ u4.w (.cells (lO (m6 false 0)) 72)).mono u4.below.size));have G6:=zW (Blk.new u4.w 72 (lO (m6 false 0)));have L6:=zW u4.below.size;refine hK _ _ ⟨⟨_,B6.out⟩,rfl⟩ ?_;clear hK K g4;obtain⟨gs,hgs⟩:∃gs,u4.w.heap.size=gs:=⟨_,rfl⟩;rw[hgs]at G6 L6⊢;generalize World.alloc u4.w _=w6 at*;clear hgs u4;simp only[Act.put,zQ,zZ,zJ];refine mE zBN zBG ?_;refine zM ?_;refine mC rfl ?_;intro w5 g5 C5 K hK;obtain⟨u5,rfl⟩:=C5;have D5:=zW (D.out.step u5.below);have G5:=zW (G6.out.step g5);refine nH (ds:=lO Z) yM G5.out (mV _) (mV _) (vE _) (.tmp 6) (.tmp 63) rfl zBL zBL ?_;have B7:=zW (lU u5.below L6.out (lO Z));have G7:=zW (G5.out.store (lO Z));refine hK _ _ ?_;generalize World.setRow u5.w gs (lO Z)=w7 at*;clear G5 D5 G6;clear hK K;simp only[Act.put,zQ,zZ,zJ];try simp only[lA,zX,zK,zV]
 iterate 1 (go_big_quiet_step (fail))
 refine zM ?_;intro wb g8;have D:=zW (D.out.step (B7.out.trans (g8.mono B7.out.size)));have G:=zW (G7.out.step g8);clear g8 g5 G7 B7 B6 L6 SB r0 r4 r13 DW RR OB u5;have r0:=D.out.x.rk 0 (.pointer (some ⟨b,0,none⟩)) rfl;have GB:=zW (mR G.out);have ne0:=zW (xY G.out D.out.x.rc.st zBH);go_upto_region 4 with fail;refine mX (C:=fun w'=>∃u:mH wb,w'=u.w) 7 [] [0,1,2,3,4,5,6] [] zBM zBM ?_ ?_ ⟨⟨wb.drew,(zB _ _).drew⟩,rfl⟩ ?_
 ·exact zT8
 ·exact zT0
 intro wd hwd;clear hwd;refine mE zBN zBG ?_;iterate 4 (go_big_quiet_step (fail))
 refine mG (o:=0) yM GB.out (by rw[mV];decide) rfl (.tmp 6) rfl zBL ?_;rw[pU (mV Z)];simp only[Act.put,zQ,zZ,zJ];iterate 2 (go_big_quiet_step (fail))
 refine zM ?_;refine mC rfl ?_;intro w5 g5 C5 K hK;obtain⟨u5,rfl⟩:=C5;have D5:=zW (D.out.step u5.below);refine nB (o:=36) (ds:=lO Z) yM D5.out.x.rc.st (mV _) zBE (vE _) (.tmp 71) (.tmp 69) rfl zBL zBL ?_;have D:=zW (D5.out.row (a':={a with F:=F2}) (cs:=m3 (stC a m g) 36 (lO Z)) (yG a m g F2 a.hi a.msk (NO RF.out ZH.out.1 ZH.out.2)) rfl rfl rfl (by have h:=RF.out.res;rw[ZH.out.1]at h;exact h));have G6:=zW ((G.out.step u5.below).otherRow (b:=gs) (g:=b) ne0.out (m3 (stC a m g) 36 (lO Z)));refine hK _ _ ?_;generalize World.setRow u5.w b (m3 (stC a m g) 36 (lO Z))=w7 at D G6⊢;clear D5;clear hK K;simp only[Act.put,zQ,zZ,zJ];try simp only[lA,zX,zK,zV]
 refine zM ?_;intro wc g8;have D:=zW (D.out.step g8);have G:=zW (G6.out.step g8);clear g8 g5 r0 GB G6;have r0:wc.cell? ⟨rb,0,none⟩=some (.pointer (some ⟨b,0,none⟩)):=(D.out.x.r.cell 0).trans rfl;have cc:=D.out.x.vc (show 15<16 by decide);have fc:=D.out.x.rc.st.frozen 15;have ne:=zW (xY G.out D.out.x.rc.st zBH);go_upto_region 6 with fail;have D:=zW (D.out.put (a':={a with F:=F2,v:=Cpu.upd a.v 15 0}) 15 (.int .u8 0) (dE {a with F:=F2} m g 15 0 zBH) rfl rfl rfl D.out.x.rc.res);have G:=zW (G.out.other (b:=gs) (g:=b) ne.out 15 (.int .u8 0));generalize World.setCell wc _ _=wd at D G⊢;clear r0 cc fc;have key:∀(t:Nat) (wz:World),DD base lg b m g rb v v ⟨op,x,y,n,nn,ad,ln⟩ q w {a with F:=F2,v:=Cpu.upd a.v 15 t} pc f wz→Blk gs 72 (lO Z) wz→(wz.cell? ⟨rb,14,none⟩=some (.bool q.dw)∧wz.cell? ⟨gs,512,none⟩=some (.bool a.hi)∧wz.cell? ⟨rb,20,none⟩=some (.bool f.drew)∧wz.frozen? ⟨rb,20,none⟩=false):=fun t wz h1 h2=>⟨(h1.x.r.cell 14).trans rfl,(h2.cell 512).trans (by rw[vM _ _ zBH,←ZH.out.1];rfl),(h1.x.r.cell 20).trans rfl,h1.x.r.frozen 20⟩;have KEY:=zW key;clear key;cases cv
 ·exact zDN
 ·have r0:wd.cell? ⟨rb,0,none⟩=some (.pointer (some ⟨b,0,none⟩)):=(D.out.x.r.cell 0).trans rfl;have cc:=D.out.x.vc (show 15<16 by decide);have fc:=D.out.x.rc.st.frozen 15;go_upto_region 8 with fail;have D:=zW (D.out.put (a':={a with F:=F2,v:=Cpu.upd a.v 15 1}) 15 (.int .u8 1) ((dE {a with F:=F2,v:=Cpu.upd a.v 15 0} m g 15 1 zBH).trans (by rw[zLG])) rfl rfl rfl D.out.x.rc.res);have G:=zW (G.out.other (b:=gs) (g:=b) ne.out 15 (.int .u8 1));generalize World.setCell wd _ _=we at D G⊢;clear r0 cc fc;exact zDN
theorem XA(X:XR base lg b m g rb v a ⟨op,x,y,n,nn,ad,ln⟩ q pc f w)(O:OkA a)(hx:x<16)(hy:y<16)(hn:n<16)(hc:chk a.i (xJ a.msk n (op==41) 4:Nat) q.fa≠0):Calls Tryz.prog 136 #[.pointer (some ⟨rb,0,none⟩)] w (Z8 4 w):=by
 obtain⟨bg,hbg⟩:∃bg,(op==41)=bg:=⟨_,rfl⟩;rw[hbg]at hc;obtain⟨k,hk⟩:∃k,xJ a.msk n bg 4=k:=⟨_,rfl⟩;rw[hk]at hc;have kl:k≤128:=by rw[←hk];exact GX a.msk n bg zBY
 have NE:=zW (fun w=>hk▸XN (scA a) a.msk n bg rfl zR1 zBY w);have XX:=zW X;have RX:=zW (fun(u:mH w)=>fH (X.step u.below) k O kl hc);have p1:w.cell? ⟨rb,1,none⟩=some (.int .i64 op):=(X.r.cell 1).trans rfl;have D:=zW (DD.refl X);have SB:=zW (mR X.rc.st);have RB:=zW (mR X.r);have r0:=X.rk 0 (.pointer (some ⟨b,0,none⟩)) rfl;have r4:=X.rk 4 (.int .i64 (n:Int)) rfl;clear X O hc hx hy hk;go_enter Tryz.func136,Tryz.ntmps136;go_upto_region 1 with fail;clear p1;refine mX (C:=fun w'=>∃u:mH w,w'=u.w) 15 [([0,1,2,3,4,5,6,7,8,9,10,11,12,13],14,true)] [] [16] zBM zBM ?_ ?_ ⟨⟨w.drew,(zB _ _).drew⟩,rfl⟩ ?_
 ·exact zT8
 ·exact zT0
 intro wd hwd;clear hwd;refine m4 zBN zBG ?_;iterate 7 (go_big_quiet_step (fail))
 refine mG (o:=36) yM SB.out zBE rfl (.tmp 20) rfl zBL ?_;rw[rL];simp only[Act.put,zQ,zZ,zJ];iterate 6 (go_big_quiet_step (fail))
 refine zM ?_;refine m5 (v:=.int .i64 (k:Int)) (nN (g:=201) (caps:=#[]) (args:=#[.agg (lO (scA a)),.int .i64 (n:Int),.bool bg]) (.func 201) _ _ rfl rfl (enters_of Tryz.func201 zBM rfl) (fun w' hw=>by obtain⟨u,rfl⟩:=hw;exact NE.out u.w) rfl zBL) ?_;simp only[Act.put,zQ,zZ,zJ];refine mE zBN zBG ?_;refine zM ?_;refine mC rfl ?_;intro w5 g5 C5 K hK;obtain⟨u5,rfl⟩:=C5;refine tP (g:=198) (caps:=#[]) (args:=#[.pointer (some ⟨rb,0,none⟩),.int .i64 (k:Int)]) (.func 198) _ _ rfl (enters_of Tryz.func198 zBM rfl) rfl zBL ?_;refine(RX.out u5).mono ?_;rintro e w7 ⟨rfl,b7⟩;exact⟨_,rfl,rfl,rfl,u5.below.trans (b7.mono u5.below.size)⟩
end
end
end Go.Proofs.YtcjldabaekbdlaaGreatDoor
