/- CpuM4. -/
import Derived.Test.YtcjldabaekbdlaaGreatDoorMk10a
import Derived.Test.YtcjldabaekbdlaaGreatDoorMk1b
set_option maxRecDepth 400000
set_option maxHeartbeats 64000000
set_option linter.unusedVariables false
set_option linter.unusedSimpArgs false
namespace Go.Proofs.YtcjldabaekbdlaaGreatDoor
section
open Go.RowKit Num Dec Cpu
theorem zMH(M:List Int)(i:Int)(j:Nat)(hj:j<16):pad (seg M i 16) j=(seg M i 16).getD j 0:=by
 have h:j<(seg M i 16).length:=by rw[xU];exact hj
 rw[VT _ j h,qJ,zP h,Option.getD_some]
theorem Y9{M:List Int}(B:Bts M)(hM:M.length=65536)(i:Int)(k:Nat):∀j (h:j<(seg M i k).length),(seg M i k)[j]=((byC M i j:Nat):Int):=fun j h=>by
 have e:=o7 B hM i k j (by rw[xU]at h;exact h);rw[zP h]at e;exact qU e
theorem cut3(p:Nat)(w:World):(Instr.sliceAt 270 (.pointer (some ⟨p,0,none⟩)) none none none).run Tryz.prog w=.ok (.slice (some ⟨p,0,none⟩) 3 3) w:=by
 have h:=run_sliceAt_array_all (P:=Tryz.prog) w 270 ⟨p,0,none⟩ Tryz.underlying270;exact zFU
theorem dig_rd{p c:Nat}{w:World}(h:Blk p 270 (d3 c) w):Rd w (some ⟨p,0,none⟩) (M3 c):=fT h 0 _ fun j hj=>by
 rcases j with _|_|_|j
 ·simp[d3,M3]
 ·simp[d3,M3]
 ·simp[d3,M3]
 ·exact absurd hj (by simp[M3])
theorem zQU{b p:Nat}{T:TypeId}{cs:Array Value}{M:List Int}{v:Value}{w:World}(h:Blk b T cs w)(k:vC p M v w)(e:T≠213):b≠p:=fun hb=>by
 have h:w.heap[b]?=some (.cells cs T (0,0)):=h;have k:w.heap[p]?=some (.cells (cells M v) 213 (0,0)):=k;rw[hb,k]at h;injection h with h
 injection h with _ h
 exact e h.symm
theorem I4(v:Nat→Nat)(B:Nat→Nat)(K:Nat):∀k,k≤K→∀j,ldN v (upL 0 K) B k j=if j<k then B j else v j
 |0,_,j=>by rw[zL zBY];rfl
 |k+1,hk,j=>by
  have e:((upL 0 K).getD k 0).toNat=k:=by unfold upL;rw[qJ,jK,List.getElem?_range zBY];simp
  unfold ldN Cpu.upd;rw[e,I4 v B K k zBY j];by_cases h:j=k
  ·subst h;rw[zG rfl,zG zBY]
  ·rw[zL h];by_cases h2:j<k
   ·rw[zG h2,zG zBY]
   ·rw[zL h2,zL zBY]
theorem zKY(c:Array Value)(ys:List Value):(splice c.toList 0 ys).toArray=m3 c 0 ys.toArray:=by unfold splice m3;simp
theorem RH(a:AS)(m g:Nat)(L:List Int)(B:Nat→Nat)(k:Nat)(hk:L.length=k)(h16:k≤16)(hB:∀j (h:j<L.length),L[j]=((B j:Nat):Int)):
  (splice (stC a m g).toList 0 ((L.take 16).map (Value.int .u8))).toArray=stC {a with v:=ldN a.v (upL 0 k) B k} m g:=by
 rw[zKY,qY zBY];have hs:(L.map (Value.int .u8)).toArray.size=k:=by simp[hk]
 refine cR (by rw[hs];omega) (fun j hj=>?_) fun j hj h=>?_
 ·rw[hs]at hj;rw[qB,dY _ m g zBY,zX,jK,zP zBY];simp only[Option.map_some];rw[hB j zBY,I4 a.v B k k (zH _) j,zG hj]
 ·rw[hs]at h;refine cD _ _ _ _ _ (fun _=>?_) (fun _=>rfl) (fun _=>rfl) (fun _=>rfl) (fun _=>rfl) (fun _=>rfl) (fun _=>rfl) (fun _=>rfl) (fun _=>rfl) (fun _=>rfl) (fun _=>rfl);show a.v j=ldN a.v (upL 0 k) B k j;rw[I4 a.v B k k (zH _) j,zL zBY]
theorem XE{a:AS}{b m g:Nat}{w:World}(h:Blk b 84 (stC a m g) w)(k:Nat)(hk:k≤16):Rd w (some ⟨b,0,none⟩) (vN a.v k):=fT h 0 _ fun j hj=>by
 rw[bB]at hj;rw[qB,nJ _ _ _ zBY,dY _ _ _ zBY];simp[vN]
theorem cutV(p k:Nat)(hk:k≤16)(w:World):(Instr.sliceAt 23 (.pointer (some ⟨p,0,none⟩)) none (some (.int .i64 (k:Int))) none).run Tryz.prog w=.ok (.slice (some ⟨p,0,none⟩) k 16) w:=by
 have hl:Tryz.prog.arrayLen 23=16:=zBM;have h:=run_sliceAt_array_h (P:=Tryz.prog) w 23 ⟨p,0,none⟩ Tryz.underlying23 .i64 (k:Int) zBY (by rw[hl];omega);rw[h,hl];show Result.ok (slicedAt _ _ _ _ 1) w=_;unfold slicedAt;rw[zL (by first|omega|decide|(simp;done)),yN];simp
theorem EW{base lg b m g rb:Nat}{v v1:Value}{i:Ins}{q:Pr}{w w1 w2:World}{a a':AS}{pc:Int}{f:Ef}(D:DD base lg b m g rb v v1 i q w a pc f w1)(hb:w2.heap[b]?=some (.cells (stC a' m g) 84 (0,0)))(ha:∀k,nC b k w1 w2)(eM:a'.M=a.M)(eL:a'.L=a.L)(eR:a'.rd=a.rd)(hres:∀i,i<4→uD (a'.F i) (wid a'.hi) (hei a'.hi)):DD base lg b m g rb v v1 i q w a' pc f w2:=by
 have kk:xN (fun k=>k=b∨some k=none) w1 w2:=xN.of_apart (ha none);have no:∀p,p<w1.heap.size→p≠b→w2.heap[p]?=w1.heap[p]?:=fun p h1 h2=>kk.block p h1 (fun c=>by rcases c with c|c;exact h2 c;cases c);obtain⟨n1,n2,n3,n4,n5,n6⟩:=D.x.rc.ne;refine D.to ⟨⟨hb,?_,?_,?_,hres,D.x.rc.bb,D.x.rc.bm⟩,(no rb D.x.r.lt D.x.ne).trans D.x.r⟩ (kk.mono fun k _ c=>by rcases c with c|c;exact .inl (.inl c);cases c)
 ·rw[eM];exact(no m D.x.rc.mem.lt (fun e=>n1 e.symm)).trans D.x.rc.mem
 ·obtain⟨n,xs,o,r⟩:=D.x.rc.log;exact⟨n,xs,tA o kk (fun k ek c=>c.elim (fun c=>n4 (c▸ek)) (fun c=>by cases c)),r⟩
 ·rw[eL,eR];obtain⟨A,c,hg,o⟩:=D.x.rc.rnd.held;exact⟨D.x.rc.rnd.low,A,c,(no g D.x.rc.rnd.lt (fun e=>n2 e.symm)).trans hg,tA o kk (fun k ek c=>c.elim (fun c=>D.x.rc.row_off o ⟨by decide,by decide,by decide,by decide⟩ k ek (.inl c)) (fun c=>by cases c))⟩
section
variable {base lg b m g rb:Nat} {v:Value} {a:AS} {op:Int} {x y n nn:Nat} {ad ln:Int} {q:Pr} {pc:Int} {f:Ef} {w:World}
theorem TR(X:XR base lg b m g rb v a ⟨op,x,y,n,nn,ad,ln⟩ q pc f w)(hx:x<16):Calls Tryz.prog 140 #[.pointer (some ⟨rb,0,none⟩)] w (Did base lg b m g rb v ⟨op,x,y,n,nn,ad,ln⟩ q w ({a with fl:=ov a.fl (vN a.v (x+1))}) (pc) (f)):=by
 obtain⟨k,hk⟩:∃k,x+1=k:=⟨_,rfl⟩;rw[hk];have wr:IntKind.i64.wrap ((x:Int)+1)=(k:Int):=by rw[zU];omega
 have k16:k≤16:=zBY;have cut:=fun w=>cutV b k k16 w;have D:=zW (DD.refl X);have SB:=zW (mR X.rc.st);have RB:=zW (mR X.r);have r0:=X.rk 0 (.pointer (some ⟨b,0,none⟩)) rfl;have r2:=X.rk 2 (.int .i64 (x:Int)) rfl;have RG:=zW (fun w=>xW x hx w);have SF:=zW (fun(u:mH w)=>TG a.fl (some ⟨b,0,none⟩) k 16 (vN a.v k) u.w (XE (X.step u.below).rc.st k k16) (bB _ _));clear X hx hk;go_enter Tryz.func140,Tryz.ntmps140;refine mX (C:=fun w'=>∃u:mH w,w'=u.w) 28 [([0,1,2,3,4,5,6,7,8,9,10,11,12,13,14,15,16,17,18,19,20,21],22,true),([23,24],25,true)] [26,27] [] zBM zBM ?_ ?_ ⟨⟨w.drew,(zB _ _).drew⟩,rfl⟩ ?_
 ·exact zT8
 ·exact zT0
 intro wd hwd;clear hwd;refine m4 zBN zBG ?_;iterate 10 (go_big_quiet_step (fail))
 refine mG (o:=585) U8 SB.out zBE rfl (.tmp 11) rfl zBL ?_;rw[F9];simp only[Act.put,zQ,zZ,zJ];iterate 11 (go_big_quiet_step (fail))
 refine zM ?_;refine m5 (v:=.int .i64 (x:Int)) (nN (g:=196) (caps:=#[]) (args:=#[.int .i64 (x:Int)]) (.func 196) _ _ rfl rfl (enters_of Tryz.func196 zBM rfl) (fun w' hw=>by obtain⟨u,rfl⟩:=hw;exact(RG.out u.w).mono fun e w'' h=>⟨h.1,by rw[←h.2];exact Gr.refl _⟩) rfl zBL) ?_;simp only[Act.put,zQ,zZ,zJ];refine m4 zBN zBG ?_;iterate 2 (go_big_quiet_step (fail))
 refine zM ?_;refine m5 (v:=.agg (Go.Proofs.YtcjldabaekbdlaaGreatDoor.pc (ov a.fl (vN a.v k)))) (nN (g:=53) (caps:=#[]) (args:=#[.agg (Go.Proofs.YtcjldabaekbdlaaGreatDoor.pc a.fl),.slice (some ⟨b,0,none⟩) k 16]) (.func 53) _ _ rfl rfl (enters_of Tryz.func53 zBM rfl) (fun w' hw=>by obtain⟨u,rfl⟩:=hw;exact SF.out u) rfl zBL) ?_;simp only[Act.put,zQ,zZ,zJ];refine mE zBN zBG ?_;iterate 2 (go_big_quiet_step (fail))
 refine zM ?_;refine mC rfl ?_;intro w5 g5 C5 K hK;obtain⟨u5,rfl⟩:=C5;have D5:=zW (D.out.step u5.below);refine nB (o:=585) (ds:=Go.Proofs.YtcjldabaekbdlaaGreatDoor.pc (ov a.fl (vN a.v k))) U8 D5.out.x.rc.st (nX _) zBE (KE _) (.tmp 29) (.tmp 27) rfl zBL zBL ?_;have D:=zW (D5.out.row (a':={a with fl:=ov a.fl (vN a.v k)}) (cs:=m3 (stC a m g) 585 (Go.Proofs.YtcjldabaekbdlaaGreatDoor.pc (ov a.fl (vN a.v k)))) (NP a m g (ov a.fl (vN a.v k))) rfl rfl rfl (D5.out.x.rc.res));refine hK _ _ ?_;generalize World.setRow u5.w b (m3 (stC a m g) 585 (Go.Proofs.YtcjldabaekbdlaaGreatDoor.pc (ov a.fl (vN a.v k))))=w7 at D⊢;exact zSJ
theorem GF(X:XR base lg b m g rb v a ⟨op,x,y,n,nn,ad,ln⟩ q pc f w)(O:OkA a)(hx:x<16):Calls Tryz.prog 141 #[.pointer (some ⟨rb,0,none⟩)] w (Did base lg b m g rb v ⟨op,x,y,n,nn,ad,ln⟩ q w ({a with v:=ldN a.v (upL 0 (x+1)) (fun j=>(a.fl j).toNat) (x+1)}) (pc) (f)):=by
 obtain⟨k,hk⟩:∃k,x+1=k:=⟨_,rfl⟩;rw[hk];have wr:IntKind.i64.wrap ((x:Int)+1)=(k:Int):=by rw[zU];omega
 have k16:k≤16:=zBY;have cut:=fun w=>EN b 0 w;have D:=zW (DD.refl X);have SB:=zW (mR X.rc.st);have RB:=zW (mR X.r);have r0:=X.rk 0 (.pointer (some ⟨b,0,none⟩)) rfl;have r2:=X.rk 2 (.int .i64 (x:Int)) rfl;have RG:=zW (fun w=>xW x hx w);have LF:=zW (fun w=>zWX a.fl (k:Int) w);rw[cl_nat k k16]at LF;have TL:=zW (show((cC a.fl).take k).length=k by rw[qV,nV];omega);have TB:=zW (show∀j (h:j<((cC a.fl).take k).length),((cC a.fl).take k)[j]=(((fun j=>(a.fl j).toNat) j:Nat):Int)from fun j h=>by
  have hj:j<16:=by rw[TL.out]at h;omega
  rw[jU,yS _ _ hj];have:=O.fl j hj;simp only;omega)
 have K1:=zW (show 0<k by omega);clear X hx hk O;go_enter Tryz.func141,Tryz.ntmps141;refine mX (C:=fun w'=>∃u:mH w,w'=u.w) 22 [([0,1,2,3,4,5,6,7,8,9,10,11,12,13,14,15,16,17,18],19,true),([20],21,false)] [] [] zBM zBM ?_ ?_ ⟨⟨w.drew,(zB _ _).drew⟩,rfl⟩ ?_
 ·exact zT8
 ·exact zT0
 intro wd hwd;clear hwd;refine m4 zBN zBG ?_;iterate 13 (go_big_quiet_step (fail))
 refine mG (o:=585) U8 SB.out zBE rfl (.tmp 14) rfl zBL ?_;rw[F9];simp only[Act.put,zQ,zZ,zJ];iterate 5 (go_big_quiet_step (fail))
 refine zM ?_;refine m5 (v:=.int .i64 (x:Int)) (nN (g:=196) (caps:=#[]) (args:=#[.int .i64 (x:Int)]) (.func 196) _ _ rfl rfl (enters_of Tryz.func196 zBM rfl) (fun w' hw=>by obtain⟨u,rfl⟩:=hw;exact(RG.out u.w).mono fun e w'' h=>⟨h.1,by rw[←h.2];exact Gr.refl _⟩) rfl zBL) ?_;simp only[Act.put,zQ,zZ,zJ];refine vW zBN zBG ?_;iterate 1 (go_big_quiet_step (fail))
 refine zM ?_;refine vV rfl ?_;intro w4 g4 C4 K hK;obtain⟨u4,rfl⟩:=C4;refine mF (g:=206) (caps:=#[]) (args:=#[.agg (Go.Proofs.YtcjldabaekbdlaaGreatDoor.pc a.fl),.int .i64 (k:Int)]) (.func 206) _ _ rfl (enters_of Tryz.func206 zBM rfl) rfl zBL ?_;refine(LF.out u4.w).mono ?_;rintro e w6 hG;obtain⟨gg,cp,rfl,hcp,hg,hR,b6⟩:=hG.slice TL.out K1.out;have B6:=zW (u4.below.trans (b6.mono u4.below.size));have R6:=zW hR;clear hR b6 hg hG g4;refine⟨_,rfl,?_⟩;refine hK _ _ ⟨⟨w6,B6.out⟩,rfl⟩ ?_;clear hK K;simp only[Act.put,zQ,zZ,zJ];refine mE zBN zBG ?_;refine zM ?_;refine mC rfl ?_;intro w5 g5 C5 K hK;obtain⟨u5,rfl⟩:=C5;have D5:=zW (D.out.step u5.below);obtain⟨w7,hrun,hw7,hap⟩:=uE 3 b 0 16 16 (some ⟨b,0,none⟩) (fun _=>rfl) (some ⟨gg,0,none⟩) k cp k zBY ((cC a.fl).take k) (TL.out) (R6.out.below g5) (stC a m g).toList 84 D5.out.x.rc.st (by rw[kP,m9];omega);refine yH (.tmp 8) (.tmp 23) rfl 3 rfl (.slice (some ⟨b,0,none⟩) 16 16) (.slice (some ⟨gg,0,none⟩) k cp) (.int .i64 ((k:Nat):Int)) zBL zBL hrun 24 rfl ?_;rw[RH a m g _ (fun j=>(a.fl j).toNat) k TL.out k16 TB.out]at hw7;have D:=zW (EW (a':={a with v:=ldN a.v (upL 0 k) (fun j=>(a.fl j).toNat) k}) D5.out hw7 hap rfl rfl rfl D5.out.x.rc.res);clear hrun hw7 hap D5;refine hK _ _ ?_;clear hK K;simp only[Act.put,zQ,zZ,zJ];exact zT2
theorem Y6(X:XR base lg b m g rb v a ⟨op,x,y,n,nn,ad,ln⟩ q pc f w)(O:OkA a)(hc:chk a.i 16 q.fa=0):Calls Tryz.prog 145 #[.pointer (some ⟨rb,0,none⟩)] w (Did base lg b m g rb v ⟨op,x,y,n,nn,ad,ln⟩ q w ({a with P:=seg a.M a.i 16}) (pc) (f)):=by
 have D:=zW (DD.refl X);have SB:=zW (mR X.rc.st);have RB:=zW (mR X.r);have r0:=X.rk 0 (.pointer (some ⟨b,0,none⟩)) rfl;have RX:=zW (fun(u:mH w)=>VN (X.step u.below) 16 O zBH hc);clear X hc O;go_enter Tryz.func145,Tryz.ntmps145;refine mX (C:=fun w'=>∃u:mH w,w'=u.w) 16 [([0,1,2,3,4,5,6,7,8,9,10,11],12,false),([],13,false)] [14,15] [] zBM zBM ?_ ?_ ⟨⟨w.drew,(zB _ _).drew⟩,rfl⟩ ?_
 ·exact zT8
 ·exact zT0
 intro wd hwd;clear hwd;refine vW zBN zBG ?_;iterate 10 (go_big_quiet_step (fail))
 refine mG (o:=568) oR SB.out zBE rfl (.tmp 11) rfl zBL ?_;rw[YA];simp only[Act.put,zQ,zZ,zJ];iterate 1 (go_big_quiet_step (fail))
 refine zM ?_;refine vV rfl ?_;intro w4 g4 C4 K hK;obtain⟨u4,rfl⟩:=C4;refine mF (g:=198) (caps:=#[]) (args:=#[.pointer (some ⟨rb,0,none⟩),.int .i64 16]) (.func 198) _ _ rfl (enters_of Tryz.func198 zBM rfl) rfl zBL ?_;refine(RX.out u4).mono ?_;rintro e w6 ⟨gg,rfl,hg,hR,b6⟩;have B6:=zW (u4.below.trans (b6.mono u4.below.size));have R6:=zW hR;clear hR b6 hg g4;refine⟨_,rfl,?_⟩;refine hK _ _ ⟨⟨w6,B6.out⟩,rfl⟩ ?_;clear hK K;simp only[Act.put,zQ,zZ,zJ];refine vW zBN zBG ?_;refine zM ?_;refine vV rfl ?_;intro w4 g4 C4 K hK;obtain⟨u4,rfl⟩:=C4;refine mF (g:=207) (caps:=#[]) (args:=#[.agg (ac (ptA a) (a.pt:Int)),.slice (some ⟨gg,0,none⟩) 16 16]) (.func 207) _ _ rfl (enters_of Tryz.func207 zBM rfl) rfl zBL ?_;refine(PG (ptA a) (a.pt:Int) _ 16 16 (seg a.M a.i 16) u4.w (R6.out.below g4) (xU _ _ _)).mono ?_;rintro e w7 ⟨rfl,b7⟩;have B7:=zW (u4.below.trans (b7.mono u4.below.size));clear b7 g4 B6 R6;refine⟨_,rfl,?_⟩;refine hK _ _ ⟨⟨w7,B7.out⟩,rfl⟩ ?_;clear hK K;simp only[Act.put,zQ,zZ,zJ];refine mE zBN zBG ?_;iterate 2 (go_big_quiet_step (fail))
 refine zM ?_;refine mC rfl ?_;intro w5 g5 C5 K hK;obtain⟨u5,rfl⟩:=C5;have D5:=zW (D.out.step u5.below);refine nB (o:=568) (ds:=ac (pad (seg a.M a.i 16)) (a.pt:Int)) oR D5.out.x.rc.st (cQ _ _) zBE (MF _ _) (.tmp 17) (.tmp 15) rfl zBL zBL ?_;have D:=zW (D5.out.row (a':={a with P:=seg a.M a.i 16}) (cs:=m3 (stC a m g) 568 (ac (pad (seg a.M a.i 16)) (a.pt:Int))) (J6 a m g (seg a.M a.i 16) a.pt (fun j hj=>zMH a.M a.i j hj)) rfl rfl rfl (D5.out.x.rc.res));refine hK _ _ ?_;generalize World.setRow u5.w b (m3 (stC a m g) 568 (ac (pad (seg a.M a.i 16)) (a.pt:Int)))=w7 at D⊢;exact zSJ
theorem JQ(X:XR base lg b m g rb v a ⟨op,x,y,n,nn,ad,ln⟩ q pc f w)(O:OkA a)(hc:chk a.i 16 q.fa≠0):Calls Tryz.prog 145 #[.pointer (some ⟨rb,0,none⟩)] w (Z8 4 w):=by
 have D:=zW (DD.refl X);have SB:=zW (mR X.rc.st);have RB:=zW (mR X.r);have r0:=X.rk 0 (.pointer (some ⟨b,0,none⟩)) rfl;have RX:=zW (fun(u:mH w)=>fH (X.step u.below) 16 O zBH hc);clear X hc O;go_enter Tryz.func145,Tryz.ntmps145;refine mX (C:=fun w'=>∃u:mH w,w'=u.w) 16 [([0,1,2,3,4,5,6,7,8,9,10,11],12,false),([],13,false)] [14,15] [] zBM zBM ?_ ?_ ⟨⟨w.drew,(zB _ _).drew⟩,rfl⟩ ?_
 ·exact zT8
 ·exact zT0
 intro wd hwd;clear hwd;refine vW zBN zBG ?_;iterate 10 (go_big_quiet_step (fail))
 refine mG (o:=568) oR SB.out zBE rfl (.tmp 11) rfl zBL ?_;rw[YA];simp only[Act.put,zQ,zZ,zJ];iterate 1 (go_big_quiet_step (fail))
 refine zM ?_;refine vV rfl ?_;intro w4 g4 C4 K hK;obtain⟨u4,rfl⟩:=C4;refine tP (g:=198) (caps:=#[]) (args:=#[.pointer (some ⟨rb,0,none⟩),.int .i64 16]) (.func 198) _ _ rfl (enters_of Tryz.func198 zBM rfl) rfl zBL ?_;exact zFA
theorem zLT(X:XR base lg b m g rb v a ⟨op,x,y,n,nn,ad,ln⟩ q pc f w)(O:OkA a)(hx:x<16)(hb:base≤w.heap.size)(hg:lg≤950)(hc:chk a.i (x+1:Nat) q.fa=0):Calls Tryz.prog 130 #[.pointer (some ⟨rb,0,none⟩)] w (Did base (lg+1) b m g rb v ⟨op,x,y,n,nn,ad,ln⟩ q w ((if q.ki=true then{a with M:=put a.M a.i (vN a.v (x+1))}else{a with M:=put a.M a.i (vN a.v (x+1)),i:=(a.i+((x+1:Nat):Int))%65536})) (pc) (f)):=by
 obtain⟨k,hk⟩:∃k,x+1=k:=⟨_,rfl⟩;rw[hk]at hc⊢;have wr:IntKind.i64.wrap ((x:Int)+1)=(k:Int):=by rw[zU];omega
 have k16:k≤16:=zBY;obtain⟨Z,hZ⟩:∃Z,(if q.ki=true then{a with M:=put a.M a.i (vN a.v k)}else{a with M:=put a.M a.i (vN a.v k),i:=(a.i+(k:Int))%65536})=Z:=⟨_,rfl⟩;rw[hZ];have HZ:=zW hZ;clear hZ;have cut:=fun w=>cutV b k k16 w;have D:=zW (DD.refl X);have r0:w.cell? ⟨rb,0,none⟩=some (.pointer (some ⟨b,0,none⟩)):=(X.r.cell 0).trans rfl;have r2:w.cell? ⟨rb,2,none⟩=some (.int .i64 (x:Int)):=(X.r.cell 2).trans rfl;have RG:=zW (fun w=>xW x hx w);have WR:=zW (YF X (some ⟨b,0,none⟩) k 16 (vN a.v k) O hb hg zBY zBY k16 (bB _ _) (XE X.rc.st k k16) (fun ad e=>by cases e;exact X.rc.ne.1) hc);have K3:=zW (show(k:Int)≤300 by omega);have O2:=zW (zQH (i:=a.i) O (b:=vN a.v k) (fun c hc=>by unfold vN at hc;simp only[jR,j8]at hc;obtain⟨j,hj,rfl⟩:=hc;have:=O.v j zBY;omega));clear X O hx hb hg hc hk;go_enter Tryz.func130,Tryz.ntmps130;go_wp2_with fail;refine(RG.out _).mono ?_;rintro e w1 ⟨rfl,rfl⟩;go_wp2_with fail;refine WR.out.mono ?_;rintro e w2 ⟨rfl,v2,D2⟩;have D:=zW D2;clear D2 r0 r2;go_wp2_with fail;refine(zQM D.out.x (k:Int) O2.out (qG k) K3.out).mono ?_;rintro e w3 ⟨rfl,v3,D3⟩;have D:=zW (D.out.then D3);clear D3;go_wp2_with fail;go_end0
 exact⟨rfl,v3,HZ.out▸D.out⟩
theorem F4(X:XR base lg b m g rb v a ⟨op,x,y,n,nn,ad,ln⟩ q pc f w)(O:OkA a)(hx:x<16)(hc:chk a.i (x+1:Nat) q.fa≠0):Calls Tryz.prog 130 #[.pointer (some ⟨rb,0,none⟩)] w (Z8 4 w):=by
 obtain⟨k,hk⟩:∃k,x+1=k:=⟨_,rfl⟩;rw[hk]at hc;have wr:IntKind.i64.wrap ((x:Int)+1)=(k:Int):=by rw[zU];omega
 have k16:k≤16:=zBY;have cut:=fun w=>cutV b k k16 w;have r0:w.cell? ⟨rb,0,none⟩=some (.pointer (some ⟨b,0,none⟩)):=(X.r.cell 0).trans rfl;have r2:w.cell? ⟨rb,2,none⟩=some (.int .i64 (x:Int)):=(X.r.cell 2).trans rfl;have RG:=zW (fun w=>xW x hx w);have WR:=zW (aF X (some ⟨b,0,none⟩) k 16 O zBY hc);clear X O hx hc hk;go_enter Tryz.func130,Tryz.ntmps130;go_wp2_with fail;refine(RG.out _).mono ?_;rintro e w1 ⟨rfl,rfl⟩;go_wp2_with fail;refine WR.out.mono ?_;rintro e w2 ⟨rfl,b2⟩;exact⟨rfl,rfl,b2⟩
theorem load19(X:XR base lg b m g rb v a ⟨op,x,y,n,nn,ad,ln⟩ q pc f w)(O:OkA a)(hx:x<16)(hc:chk a.i (x+1:Nat) q.fa=0):Calls Tryz.prog 131 #[.pointer (some ⟨rb,0,none⟩)] w (Did base lg b m g rb v ⟨op,x,y,n,nn,ad,ln⟩ q w ((if q.ki=true then{a with v:=ldN a.v (upL 0 (x+1)) (byC a.M a.i) (x+1)}else{a with v:=ldN a.v (upL 0 (x+1)) (byC a.M a.i) (x+1),i:=(a.i+((x+1:Nat):Int))%65536})) (pc) (f)):=by
 obtain⟨k,hk⟩:∃k,x+1=k:=⟨_,rfl⟩;rw[hk]at hc⊢;have wr:IntKind.i64.wrap ((x:Int)+1)=(k:Int):=by rw[zU];omega
 have k16:k≤16:=zBY;obtain⟨Z,hZ⟩:∃Z,(if q.ki=true then{a with v:=ldN a.v (upL 0 k) (byC a.M a.i) k}else{a with v:=ldN a.v (upL 0 k) (byC a.M a.i) k,i:=(a.i+(k:Int))%65536})=Z:=⟨_,rfl⟩;rw[hZ];have HZ:=zW hZ;clear hZ;have cut:=fun w=>EN b 0 w;have D:=zW (DD.refl X);have r0:w.cell? ⟨rb,0,none⟩=some (.pointer (some ⟨b,0,none⟩)):=(X.r.cell 0).trans rfl;have r2:w.cell? ⟨rb,2,none⟩=some (.int .i64 (x:Int)):=(X.r.cell 2).trans rfl;have q0:=X.rk 0 (.pointer (some ⟨b,0,none⟩)) rfl;have RG:=zW (fun w=>xW x hx w);have RX:=zW (fun(u:mH w)=>VN (X.step u.below) k O zBY hc);have K3:=zW (show(k:Int)≤300 by omega);have TB:=zW (Y9 O.B O.M a.i k);have O2:=zW (LJ O (I6 O.v (upL 0 k) (byC a.M a.i) (fun j=>by have:=WY O.B a.i j;omega) k));clear X O hx hc hk;go_enter Tryz.func131,Tryz.ntmps131;go_wp2_with fail;refine(RG.out _).mono ?_;rintro e w1 ⟨rfl,rfl⟩;go_upto_region 1 with fail;clear r0 r2;refine mX (C:=fun w'=>∃u:mH w,w'=u.w) 10 [([0,1,2,3,4,5,6,7,8],9,false)] [] [] zBM zBM ?_ ?_ ⟨⟨w.drew,(zB _ _).drew⟩,rfl⟩ ?_
 ·exact zT8
 ·exact zT0
 intro wd hwd;clear hwd;refine vW zBN zBG ?_;iterate 9 (go_big_quiet_step (fail))
 refine zM ?_;refine vV rfl ?_;intro w4 g4 C4 K hK;obtain⟨u4,rfl⟩:=C4;refine mF (g:=198) (caps:=#[]) (args:=#[.pointer (some ⟨rb,0,none⟩),.int .i64 (k:Int)]) (.func 198) _ _ rfl (enters_of Tryz.func198 zBM rfl) rfl zBL ?_;refine(RX.out u4).mono ?_;rintro e w6 ⟨gg,rfl,hg,hR,b6⟩;have B6:=zW (u4.below.trans (b6.mono u4.below.size));have R6:=zW hR;clear hR b6 hg g4;refine⟨_,rfl,?_⟩;refine hK _ _ ⟨⟨w6,B6.out⟩,rfl⟩ ?_;clear hK K;simp only[Act.put,zQ,zZ,zJ];refine mE zBN zBG ?_;refine zM ?_;refine mC rfl ?_;intro w5 g5 C5 K hK;obtain⟨u5,rfl⟩:=C5;have D5:=zW (D.out.step u5.below);obtain⟨w7,hrun,hw7,hap⟩:=uE 3 b 0 16 16 (some ⟨b,0,none⟩) (fun _=>rfl) (some ⟨gg,0,none⟩) k k k zBY (seg a.M a.i k) (xU _ _ _) (R6.out.below g5) (stC a m g).toList 84 D5.out.x.rc.st (by rw[kP,m9];omega);refine yH (.tmp 16) (.tmp 19) rfl 3 rfl (.slice (some ⟨b,0,none⟩) 16 16) (.slice (some ⟨gg,0,none⟩) k k) (.int .i64 ((k:Nat):Int)) zBL zBL hrun 20 rfl ?_;rw[RH a m g _ (byC a.M a.i) k (xU _ _ _) k16 TB.out]at hw7;have D:=zW (EW (a':={a with v:=ldN a.v (upL 0 k) (byC a.M a.i) k}) D5.out hw7 hap rfl rfl rfl D5.out.x.rc.res);clear hrun hw7 hap D5;refine hK _ _ ?_;clear hK K;simp only[Act.put,zQ,zZ,zJ];try simp only[lA,zX,zK,zV]
 refine zM ?_;intro w8 g8;have D:=zW (D.out.step g8);clear g8 g5;clear q0 R6 B6;go_wp2_with fail;refine(zQM D.out.x (k:Int) O2.out (qG k) K3.out).mono ?_;rintro e w9 ⟨rfl,v3,D3⟩;have D:=zW (D.out.then D3);clear D3;go_wp2_with fail;go_end0
 exact⟨rfl,v3,HZ.out▸D.out⟩
theorem zJZ(X:XR base lg b m g rb v a ⟨op,x,y,n,nn,ad,ln⟩ q pc f w)(O:OkA a)(hx:x<16)(hc:chk a.i (x+1:Nat) q.fa≠0):Calls Tryz.prog 131 #[.pointer (some ⟨rb,0,none⟩)] w (Z8 4 w):=by
 obtain⟨k,hk⟩:∃k,x+1=k:=⟨_,rfl⟩;rw[hk]at hc;have wr:IntKind.i64.wrap ((x:Int)+1)=(k:Int):=by rw[zU];omega
 have k16:k≤16:=zBY;have cut:=fun w=>EN b 0 w;have r0:w.cell? ⟨rb,0,none⟩=some (.pointer (some ⟨b,0,none⟩)):=(X.r.cell 0).trans rfl;have r2:w.cell? ⟨rb,2,none⟩=some (.int .i64 (x:Int)):=(X.r.cell 2).trans rfl;have q0:=X.rk 0 (.pointer (some ⟨b,0,none⟩)) rfl;have RG:=zW (fun w=>xW x hx w);have RX:=zW (fun(u:mH w)=>fH (X.step u.below) k O zBY hc);clear X O hx hc hk;go_enter Tryz.func131,Tryz.ntmps131;go_wp2_with fail;refine(RG.out _).mono ?_;rintro e w1 ⟨rfl,rfl⟩;go_upto_region 1 with fail;clear r0 r2;refine mX (C:=fun w'=>∃u:mH w,w'=u.w) 10 [([0,1,2,3,4,5,6,7,8],9,false)] [] [] zBM zBM ?_ ?_ ⟨⟨w.drew,(zB _ _).drew⟩,rfl⟩ ?_
 ·exact zT8
 ·exact zT0
 intro wd hwd;clear hwd;refine vW zBN zBG ?_;iterate 9 (go_big_quiet_step (fail))
 refine zM ?_;refine vV rfl ?_;intro w4 g4 C4 K hK;obtain⟨u4,rfl⟩:=C4;refine tP (g:=198) (caps:=#[]) (args:=#[.pointer (some ⟨rb,0,none⟩),.int .i64 (k:Int)]) (.func 198) _ _ rfl (enters_of Tryz.func198 zBM rfl) rfl zBL ?_;exact zFA
theorem zJF(X:XR base lg b m g rb v a ⟨op,x,y,n,nn,ad,ln⟩ q pc f w)(O:OkA a)(hx:x<16)(hb:base≤w.heap.size)(hg:lg≤950)(hc:chk a.i 3 q.fa=0):Calls Tryz.prog 129 #[.pointer (some ⟨rb,0,none⟩)] w (Did base (lg+1) b m g rb v ⟨op,x,y,n,nn,ad,ln⟩ q w ({a with M:=put a.M a.i (M3 (a.v x))}) (pc) (f)):=by
 have XX:=zW X;have HX:=zW hx;have DI:=zW (fun w=>JF.dg (a.v x) w (O.v x hx));have OO:=zW O;have cut:=fun p w=>cut3 p w;have HB:=zW (zY hb (zY hg hc));clear X O hx hb hg hc;go_enter Tryz.func129,Tryz.ntmps129;go_wp2_with fail;refine(oA XX.out HX.out).mono ?_;rintro e w1 ⟨rfl,b1⟩;have D:=zW ((DD.refl XX.out).step b1);have BW:=zW b1;clear b1;have cv:=D.out.x.vc HX.out;go_wp2_with fail;refine(DI.out _).mono ?_;rintro e w2 ⟨rfl,b2⟩;have D:=zW (D.out.step b2);have BW:=zW (BW.out.trans (b2.mono BW.out.size));clear b2 cv;simp only[];go_at_K
 iterate 1 go_step
 refine nY (ds:=d3 (a.v x)) zBK zXE rfl rfl (zW6 _) rfl rfl rfl (.tmp 2) (.tmp 7) rfl zBL zBL ?_;simp only[Act.put,zQ,zZ,zJ];have G:=zW (Blk.new w2 270 (d3 (a.v x)));have b3:=mJ w2 (.cells (d3 (a.v x)) 270);have D:=zW (D.out.step b3);have BW:=zW (BW.out.trans (b3.mono BW.out.size));clear b3;obtain⟨gs,hgs⟩:∃gs,w2.heap.size=gs:=⟨_,rfl⟩;rw[hgs]at G⊢;generalize World.alloc w2 _=w8 at*;clear hgs;go_wp2_with fail;refine(YF D.out.x (some ⟨gs,0,none⟩) 3 3 (M3 (a.v x)) OO.out (zD HB.out.1 BW.out.size) HB.out.2.1 zBH zBH zBH rfl (dig_rd G.out) (fun ad e=>by cases e;exact zQU G.out D.out.x.rc.mem zBH) HB.out.2.2).mono ?_;rintro e w9 ⟨rfl,v9,D9⟩;have D:=zW (D.out.then D9);clear D9;go_wp2_with fail;go_end0
 exact⟨rfl,v9,D.out⟩
theorem WQ(X:XR base lg b m g rb v a ⟨op,x,y,n,nn,ad,ln⟩ q pc f w)(O:OkA a)(hx:x<16)(hc:chk a.i 3 q.fa≠0):Calls Tryz.prog 129 #[.pointer (some ⟨rb,0,none⟩)] w (Z8 4 w):=by
 have XX:=zW X;have HX:=zW hx;have DI:=zW (fun w=>JF.dg (a.v x) w (O.v x hx));have OO:=zW O;have cut:=fun p w=>cut3 p w;have HB:=zW hc;clear X O hx hc;go_enter Tryz.func129,Tryz.ntmps129;go_wp2_with fail;refine(oA XX.out HX.out).mono ?_;rintro e w1 ⟨rfl,b1⟩;have D:=zW ((DD.refl XX.out).step b1);have BW:=zW b1;clear b1;have cv:=D.out.x.vc HX.out;go_wp2_with fail;refine(DI.out _).mono ?_;rintro e w2 ⟨rfl,b2⟩;have D:=zW (D.out.step b2);have BW:=zW (BW.out.trans (b2.mono BW.out.size));clear b2 cv;simp only[];go_at_K
 iterate 1 go_step
 refine nY (ds:=d3 (a.v x)) zBK zXE rfl rfl (zW6 _) rfl rfl rfl (.tmp 2) (.tmp 7) rfl zBL zBL ?_;simp only[Act.put,zQ,zZ,zJ];have G:=zW (Blk.new w2 270 (d3 (a.v x)));have b3:=mJ w2 (.cells (d3 (a.v x)) 270);have D:=zW (D.out.step b3);have BW:=zW (BW.out.trans (b3.mono BW.out.size));clear b3;obtain⟨gs,hgs⟩:∃gs,w2.heap.size=gs:=⟨_,rfl⟩;rw[hgs]at G⊢;generalize World.alloc w2 _=w8 at*;clear hgs;go_wp2_with fail;refine(aF D.out.x (some ⟨gs,0,none⟩) 3 3 OO.out zBH HB.out).mono ?_;rintro e w9 ⟨rfl,b9⟩;exact⟨rfl,rfl,BW.out.trans (b9.mono BW.out.size)⟩
end
end
end Go.Proofs.YtcjldabaekbdlaaGreatDoor
