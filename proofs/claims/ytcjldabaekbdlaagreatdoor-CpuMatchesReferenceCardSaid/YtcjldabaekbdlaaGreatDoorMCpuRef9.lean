/- CpuRef9. -/
import Derived.Test.YtcjldabaekbdlaaGreatDoorMk5a
set_option maxRecDepth 400000
set_option maxHeartbeats 64000000
set_option linter.unusedVariables false
set_option linter.unusedSimpArgs false
namespace Go.Proofs.YtcjldabaekbdlaaGreatDoor
section
open Go.RowKit Num Dec Cpu
theorem zVP{w:World}{base n c:Nat}{e:TypeId}{A:Option Addr}{xs:List Value}(h:w.ownsRow base e 1 (.slice A n c) n xs)(ad:Addr)(ha:A=some ad):base≤ad.block:=by
 subst ha;exact(h.lt _ rfl).1
theorem LM{L:List Int}(h:Bts L)(k:Nat):∃bn:Nat,nxt L k=(bn:Int)∧bn<256:=by
 unfold nxt;rw[qJ];by_cases hk:k%L.length<L.length
 ·rw[zP hk];have:=h _ hk;exact⟨(L[k%L.length]).toNat,by simp;omega,by omega⟩
 ·rw[qD zBY];exact⟨0,rfl,by omega⟩
theorem zVQ(N:Nat)(a:AS)(z:Sls)(op:Int)(x nn:Nat)(y n addr len:Int)(w:World)(H:RS N w z a)(O:OkA a)(hx:x<16)(hnn:nn<256):
  Calls Tryz.prog 72 #[.agg (cst (mT a z)),.agg (lI ⟨op,x,y,n,nn,addr,len⟩)] w (vA N z (yP a op x nn addr) w):=by
 have RR:=zW H;obtain⟨s,hs⟩:∃s,mT a z=s:=⟨_,rfl⟩;rw[hs];have HS:=zW hs;have D0:=zW (DI.new w s vP ⟨op,x,y,n,nn,addr,len⟩);have HX:=zW (zY hx (O.v x hx));have HI:=zW O.i;have HNN:=zW hnn;have LB:=zW O.LB;have LN:=zW O.L;have RD:=zW O.rd;have FL:=zW O.fl;obtain⟨vx,hv⟩:∃vx,a.v x=vx:=⟨_,rfl⟩;have HV:=zW hv;have HSV:=zW (show s.v x=vx by rw[←hs];exact hv);have v256:(vx:Int)<256:=by have:=HX.out.2;omega
 have v0:0≤(vx:Int):=zBY;have xi:(x:Int)<16:=zBY;have x0:0≤(x:Int):=zBY;clear H O hs hv hx hnn;go_enter Tryz.func72,Tryz.ntmps72;go_upto_region 0 with fail;refine zN ?_;refine mZ rfl _ (.tmp 0) rfl (cst s) rfl ?_;simp only[Act.put,zQ,zZ,zJ];refine mZ rfl _ (.tmp 1) rfl (lI ⟨op,x,y,n,nn,addr,len⟩) rfl ?_;simp only[Act.put,zQ,zZ,zJ,zR];refine qL rfl fun K hK=>nF xI rfl (hK _ _ ?_);clear hK K;simp only[Act.put,zQ,zZ,zJ,zR];obtain⟨g,hg⟩:∃g,w.heap.size=g:=⟨_,rfl⟩;rw[hg]at D0⊢;generalize World.alloc (World.alloc (World.alloc _ _) _) _=w1 at D0⊢;clear hg;have i0:w1.cell? ⟨g+1,0,none⟩=some (.int .i64 op):=(D0.out.i.cell 0).trans rfl;have i1:w1.cell? ⟨g+1,1,none⟩=some (.int .i64 (x:Int)):=(D0.out.i.cell 1).trans rfl;have i5:w1.cell? ⟨g+1,5,none⟩=some (.int .i64 addr):=(D0.out.i.cell 5).trans rfl;have cx:w1.cell? ⟨g,x,none⟩=some (.int .u8 (vx:Int)):=(D0.out.s.cell x).trans ((wJ s HX.out.1).trans (by rw[HSV.out]));by_cases h20:op=20
 ·subst h20;have ED:=zW (show yP a 20 x nn addr={a with i:=addr}from by unfold yP;simp);exact zSQ
 by_cases h48:op=48
 ·subst h48;have ED:=zW (show yP a 48 x nn addr={a with i:=addr}from by unfold yP;simp);exact zSQ
 by_cases h22:op=22
 ·subst h22;clear i5;obtain⟨bn,hbn,b256⟩:∃bn:Nat,nxt a.L a.rd=(bn:Int)∧bn<256:=LM LB.out a.rd;obtain⟨R,hR⟩:∃R,a.rd=R:=⟨_,rfl⟩;have ED:=zW (show yP a 22 x nn addr={a with v:=Cpu.upd a.v x (bn&&&nn),rd:=R+1}from by unfold yP;rw[zL zBH,zG rfl,hbn,hR,jS]);rw[hR]at hbn;have CA:=zW (fun(w':World) (h:Below w.heap.size w w')=>(show Calls Tryz.prog 156 #[.slice z.L.A z.L.n z.L.c,.int .i64 (R:Int)] w' fun e w''=>e=.returned (.int .u8 (bn:Int))∧Gr w' w'' from by
   have h:=zMX z.L.A z.L.n z.L.c a.L (R:Int) w' (RR.out.L.1.below h) RR.out.L.2 (by have:=LN.out;have:=RR.out.L.2;omega) (by have:=RD.out;omega);rw[VH,hbn]at h;exact h.mono fun _ _ ⟨he,hw⟩=>⟨he,by rw[←hw];exact Gr.refl _⟩))
  have CB:=zW (fun(w':World)=>(show Calls Tryz.prog 155 #[.int .u8 (bn:Int),.int .i64 (nn:Int)] w' fun e w''=>e=.returned (.int .u8 ((bn&&&nn:Nat):Int))∧Gr w' w'' from(zZP bn nn w' b256 HNN.out).mono fun _ _ ⟨he,hw⟩=>⟨he,by rw[←hw];exact Gr.refl _⟩));have RB:=zW (show bn&&&nn<256 from dF b256 HNN.out);obtain⟨rv,hrv⟩:∃rv,bn&&&nn=rv:=⟨_,rfl⟩;rw[hrv]at ED CB RB;have c29:w1.cell? ⟨g,29,none⟩=some (.slice z.L.A z.L.n z.L.c):=((D0.out.s.cell 29).trans (nW _ 13)).trans zRB;have c30:w1.cell? ⟨g,30,none⟩=some (.int .i64 (R:Int)):=((D0.out.s.cell 30).trans (nW _ 14)).trans (by rw[←HS.out,←hR];rfl);have i4:w1.cell? ⟨g+1,4,none⟩=some (.int .i64 (nn:Int)):=(D0.out.i.cell 4).trans rfl;have k29:=mH.cell c29 D0.out.s.lt;have k30:=mH.cell c30 D0.out.s.lt;have k4:=mH.cell i4 D0.out.i.lt;have k1:=mH.cell i1 D0.out.i.lt;have R1:(R:Int)≤1000000000:=by have:=RD.out;omega
  have HRR:=zW hR;clear hbn hR b256 hrv;go_upto_region 7 with fail;clear c29 c30 i4 i0 i1 cx;refine mX (C:=fun w'=>∃u:mH w1,w'=u.w) 12 [([0,1,2,3,4,5,7,8,10],6,true),([],9,true)] [11] [] zBM zBM ?_ ?_ ⟨⟨w1.drew,(zB _ _).drew⟩,rfl⟩ ?_
  ·exact zT8
  ·exact zT0
  intro wd hwd;have bd:=zW (show Below w1.heap.size w1 wd by rw[hwd];exact(zB _ _).drew);clear hwd;refine m4 zBN zBG ?_;repeat(go_big_quiet_step (rfl))
  refine zM ?_;refine m5 (v:=.int .u8 (bn:Int)) (nN (g:=156) (caps:=#[]) (args:=#[.slice z.L.A z.L.n z.L.c,.int .i64 (R:Int)]) (.func 156) #[.tmp 26,.tmp 28] #[22,3] rfl rfl (enters_of Tryz.func156 zBM rfl) (fun w' hw=>by obtain⟨u,rfl⟩:=hw;exact CA.out _ (D0.out.low.trans (u.below.mono D0.out.low.size))) rfl zBR) ?_;simp only[Act.put,zQ,zZ,zJ];refine m4 zBN zBG ?_;repeat(go_big_quiet_step (rfl))
  refine zM ?_;refine m5 (v:=.int .u8 (rv:Int)) (nN (g:=155) (caps:=#[]) (args:=#[.int .u8 (bn:Int),.int .i64 (nn:Int)]) (.func 155) #[.tmp 29,.tmp 31] #[5,3] rfl rfl (enters_of Tryz.func155 zBM rfl) (fun w' hw=>CB.out w') rfl zBR) ?_;simp only[Act.put,zQ,zZ,zJ];refine mE zBN zBG ?_;repeat(go_big_quiet_step (rfl))
  refine zM ?_;refine mC rfl ?_;intro w7 g7 C7 K7 hK;obtain⟨u7,rfl⟩:=C7;have D7:=zW (D0.out.step u7.below);refine bA D7.out.s x (.int .u8 (rv:Int)) zBM rfl (by rw[lC];have:=HX.out.1;omega) (.tmp 34) (.tmp 32) rfl zBL zBL ?_;refine hK _ _ ?_;clear hK K7;simp only[Act.put,zQ,zZ,zJ];simp only[lA];refine zM ?_;intro w8 g8;have D8:=zW ((D7.out.put x (.int .u8 (rv:Int)) (oV s HX.out.1 rv)).step g8);clear g8 g7 u7 D7 D0 bd k29 k30 k4 k1;have c30:w8.cell? ⟨g,30,none⟩=some (.int .i64 (R:Int)):=((D8.out.s.cell 30).trans (nW _ 14)).trans (by rw[←HS.out];exact congrArg (fun r:Nat=>some (Value.int .i64 (r:Int))) HRR.out);have f30:=D8.out.s.frozen 30;go_upto_region 30 with fail;have D9:=zW (D8.out.put 30 (.int .i64 ((R:Int)+1)) (zJE _ ((R:Int)+1)));generalize World.setCell _ _ _=w9 at D9⊢;go_upto_region 30 with fail;refine zN ?_;refine lP mM D9.out.s (lC _) rfl (.tmp 2) rfl rfl ?_;simp only[Act.put,zQ,zZ,zJ];refine lE mM D9.out.o (lC _) (lC _) (nZ _) rfl (.tmp 4) (.tmp 111) rfl rfl rfl ?_;simp only[Act.put,zQ,zZ,zJ];have RE:=D9.out.o.store (cst {{s with v:=Cpu.upd s.v x rv}with rd:=((R:Int)+1)});have BZ:=lU D9.out.low (show w.heap.size≤g+1+1 by have:=D9.out.at_;omega) (cst {{s with v:=Cpu.upd s.v x rv}with rd:=((R:Int)+1)});exact zT4
 by_cases h26:op=26
 ·subst h26;clear i5;have ED:=zW (show yP a 26 x nn addr={a with v:=Cpu.upd a.v x a.dl}from by unfold yP;simp);have c24:w1.cell? ⟨g,24,none⟩=some (.int .u8 (a.dl:Int)):=((D0.out.s.cell 24).trans (nW _ 8)).trans zRB;have fx:=D0.out.s.frozen x;go_upto_region 30 with fail;have D1:=zW (D0.out.put x (.int .u8 (a.dl:Int)) (oV s HX.out.1 a.dl));generalize World.setCell _ _ _=w3 at D1⊢;go_upto_region 30 with fail;refine zN ?_;refine lP mM D1.out.s (lC _) rfl (.tmp 2) rfl rfl ?_;simp only[Act.put,zQ,zZ,zJ];refine lE mM D1.out.o (lC _) (lC _) (nZ _) rfl (.tmp 4) (.tmp 111) rfl rfl rfl ?_;simp only[Act.put,zQ,zZ,zJ];have RE:=D1.out.o.store (cst {s with v:=Cpu.upd s.v x a.dl});have BZ:=lU D1.out.low (show w.heap.size≤g+1+1 by have:=D1.out.at_;omega) (cst {s with v:=Cpu.upd s.v x a.dl});exact zT4
 by_cases h28:op=28
 ·subst h28;clear i5;have ED:=zW (show yP a 28 x nn addr={a with dl:=a.v x}from by unfold yP;simp);rw[HV.out]at ED;have c24:w1.cell? ⟨g,24,none⟩=some (.int .u8 (s.dl:Int)):=(D0.out.s.cell 24).trans (nW _ 8);have f24:=D0.out.s.frozen 24;go_upto_region 30 with fail;have D1:=zW (D0.out.put 24 (.int .u8 (vx:Int)) (YQ s vx));generalize World.setCell _ _ _=w3 at D1⊢;go_upto_region 30 with fail;refine zN ?_;refine lP mM D1.out.s (lC _) rfl (.tmp 2) rfl rfl ?_;simp only[Act.put,zQ,zZ,zJ];refine lE mM D1.out.o (lC _) (lC _) (nZ _) rfl (.tmp 4) (.tmp 111) rfl rfl rfl ?_;simp only[Act.put,zQ,zZ,zJ];have RE:=D1.out.o.store (cst {s with dl:=vx});have BZ:=lU D1.out.low (show w.heap.size≤g+1+1 by have:=D1.out.at_;omega) (cst {s with dl:=vx});exact zT4
 by_cases h29:op=29
 ·subst h29;clear i5;have ED:=zW (show yP a 29 x nn addr={a with sd:=a.v x}from by unfold yP;simp);rw[HV.out]at ED;have c25:w1.cell? ⟨g,25,none⟩=some (.int .u8 (s.sd:Int)):=(D0.out.s.cell 25).trans (nW _ 9);have f25:=D0.out.s.frozen 25;go_upto_region 30 with fail;have D1:=zW (D0.out.put 25 (.int .u8 (vx:Int)) (X9 s vx));generalize World.setCell _ _ _=w3 at D1⊢;go_upto_region 30 with fail;refine zN ?_;refine lP mM D1.out.s (lC _) rfl (.tmp 2) rfl rfl ?_;simp only[Act.put,zQ,zZ,zJ];refine lE mM D1.out.o (lC _) (lC _) (nZ _) rfl (.tmp 4) (.tmp 111) rfl rfl rfl ?_;simp only[Act.put,zQ,zZ,zJ];have RE:=D1.out.o.store (cst {s with sd:=vx});have BZ:=lU D1.out.low (show w.heap.size≤g+1+1 by have:=D1.out.at_;omega) (cst {s with sd:=vx});exact zT4
 by_cases h30:op=30
 ·subst h30;clear i5;obtain⟨I,hI⟩:∃I,a.i=I:=⟨_,rfl⟩;obtain⟨r,hr⟩:∃r:Nat,(I+(vx:Int))%65536=(r:Int):=⟨((I+(vx:Int))%65536).toNat,by omega⟩;have MD:=zW (fun w'=>dX (I+(vx:Int)) r w' hr);have ED:=zW (show yP a 30 x nn addr={a with i:=(r:Int)}from by unfold yP;rw[zL zBH,zL zBH,zL zBH,zL zBH,zL zBH,zG rfl,hI,HV.out,hr]);have I0:0≤I:=by have:=HI.out;omega
  have I1:I≤65535:=by have:=HI.out;omega
  have c16:w1.cell? ⟨g,16,none⟩=some (.int .i64 I):=((D0.out.s.cell 16).trans (nW _ 0)).trans (by rw[←HS.out,←hI];rfl);have f16:=D0.out.s.frozen 16;clear hI hr;go_wp2_with fail;refine(MD.out _).mono ?_;rintro e w2 ⟨rfl,rfl⟩;go_upto_region 30 with fail;have D1:=zW (D0.out.put 16 (.int .i64 (r:Int)) (rX s (r:Int)));generalize World.setCell _ _ _=w3 at D1⊢;go_upto_region 30 with fail;refine zN ?_;refine lP mM D1.out.s (lC _) rfl (.tmp 2) rfl rfl ?_;simp only[Act.put,zQ,zZ,zJ];refine lE mM D1.out.o (lC _) (lC _) (nZ _) rfl (.tmp 4) (.tmp 111) rfl rfl rfl ?_;simp only[Act.put,zQ,zZ,zJ];have RE:=D1.out.o.store (cst {s with i:=(r:Int)});have BZ:=lU D1.out.low (show w.heap.size≤g+1+1 by have:=D1.out.at_;omega) (cst {s with i:=(r:Int)});exact zT4
 by_cases h31:op=31
 ·subst h31;clear i5;have ED:=zW (show yP a 31 x nn addr={a with i:=80+5*((vx:Int)%16)}from by unfold yP;simp[HV.out]);have c16:w1.cell? ⟨g,16,none⟩=some (.int .i64 s.i):=(D0.out.s.cell 16).trans (nW _ 0);have f16:=D0.out.s.frozen 16;go_upto_region 30 with fail;have D1:=zW (D0.out.put 16 (.int .i64 (80+5*((vx:Int)%16))) (rX s (80+5*((vx:Int)%16))));generalize World.setCell _ _ _=w3 at D1⊢;go_upto_region 30 with fail;refine zN ?_;refine lP mM D1.out.s (lC _) rfl (.tmp 2) rfl rfl ?_;simp only[Act.put,zQ,zZ,zJ];refine lE mM D1.out.o (lC _) (lC _) (nZ _) rfl (.tmp 4) (.tmp 111) rfl rfl rfl ?_;simp only[Act.put,zQ,zZ,zJ];have RE:=D1.out.o.store (cst {s with i:=80+5*((vx:Int)%16)});have BZ:=lU D1.out.low (show w.heap.size≤g+1+1 by have:=D1.out.at_;omega) (cst {s with i:=80+5*((vx:Int)%16)});exact zT4
 by_cases h42:op=42
 ·subst h42;clear i5;have ED:=zW (show yP a 42 x nn addr={a with i:=160+10*((vx:Int)%16)}from by unfold yP;simp[HV.out]);have c16:w1.cell? ⟨g,16,none⟩=some (.int .i64 s.i):=(D0.out.s.cell 16).trans (nW _ 0);have f16:=D0.out.s.frozen 16;go_upto_region 30 with fail;have D1:=zW (D0.out.put 16 (.int .i64 (160+10*((vx:Int)%16))) (rX s (160+10*((vx:Int)%16))));generalize World.setCell _ _ _=w3 at D1⊢;go_upto_region 30 with fail;refine zN ?_;refine lP mM D1.out.s (lC _) rfl (.tmp 2) rfl rfl ?_;simp only[Act.put,zQ,zZ,zJ];refine lE mM D1.out.o (lC _) (lC _) (nZ _) rfl (.tmp 4) (.tmp 111) rfl rfl rfl ?_;simp only[Act.put,zQ,zZ,zJ];have RE:=D1.out.o.store (cst {s with i:=160+10*((vx:Int)%16)});have BZ:=lU D1.out.low (show w.heap.size≤g+1+1 by have:=D1.out.at_;omega) (cst {s with i:=160+10*((vx:Int)%16)});exact zT4
 by_cases h43:op=43
 ·subst h43;clear i5;obtain⟨F28,cF,eF⟩:∃F28 cF,z.fl=⟨F28,16,cF⟩:=⟨z.fl.A,z.fl.c,by have:=RR.out.fl.1;cases h:z.fl;rw[h]at this;simp at this;simp[this]⟩;have HF:=zW (show∀w',Below w.heap.size w w'→Rd w' F28 (cC a.fl)from fun w' h=>by have:=RR.out.fl.2;rw[eF]at this;exact this.below h);have ED:=zW (show yP a 43 x nn addr={a with fl:=ov a.fl (vN a.v (x+1))}from by unfold yP;simp);have FR:=zW (fun w'=>KH s (x+1) w' (by have:=HX.out.1;omega));rw[show s.v=a.v by rw[←HS.out];rfl]at FR;have EX:=zW (show((x+1:Nat):Int)=(x:Int)+1 by omega);rw[EX.out]at FR;have SV:=zW (fun(B:Option Addr) (d:Nat) (w':World) (h:Below w.heap.size w w') (rd:Rd w' B (vN a.v (x+1)))=>N4 a.fl F28 cF B (x+1) d (vN a.v (x+1)) w' (HF.out w' h) rd (bB _ _) (by have:=HX.out.1;omega));have c28:w1.cell? ⟨g,28,none⟩=some (.slice F28 16 cF):=((D0.out.s.cell 28).trans (nW _ 12)).trans (by rw[←HS.out,show(uI (mT a z))[12]?=some z.fl.v from rfl,eF];rfl);have k28:=mH.cell c28 D0.out.s.lt;have k1:=mH.cell i1 D0.out.i.lt;have wx:IntKind.i64.wrap ((x:Int)+1)=(x:Int)+1:=j5 _ zBY;have FS:=zW (fun w' (hw:∃u:mH w1,w'=u.w)=>(show Blk g 43 (cst s) w' from by obtain⟨u,rfl⟩:=hw;exact D0.out.s.step u.below));clear eF;go_upto_region 22 with fail;clear c28 i0 i1 cx;refine mX (C:=fun w'=>∃u:mH w1,w'=u.w) 9 [([0,1,2,3,4,5],6,false),([],7,false)] [8] [] zBM zBM ?_ ?_ ⟨⟨w1.drew,(zB _ _).drew⟩,rfl⟩ ?_
  ·exact zT8
  ·exact zT0
  intro wd hwd;have bd:=zW (show Below w1.heap.size w1 wd by rw[hwd];exact(zB _ _).drew);clear hwd;refine vW zBN zBG ?_;repeat(first
   |(refine l9 mM FS.out (lC _) ?_ (.tmp 2) ?_ ?_ ?_;(focus rfl);(focus rfl);(focus(simp[Act.eval];done));simp only[Act.put,zQ,zZ,zJ])
   |go_big_quiet_step (rfl))
  refine zM ?_
  refine vV rfl ?_;intro w5 g5 C5 K7 hK;obtain⟨u5,rfl⟩:=C5;refine mF (g:=154) (caps:=#[]) (args:=#[.agg (cst s),.int .i64 ((x:Int)+1)]) (.func 154) #[.tmp 83,.tmp 86] #[43,3] rfl (enters_of Tryz.func154 zBM rfl) rfl (by simp[Act.eval,wx]) ?_;refine(FR.out _).mono ?_;rintro e w6 ⟨A5,c5,rfl,o5,b6⟩;have D6:=zW ((D0.out.step u5.below).step b6);have O6:=zW o5;have B6:=zW (u5.below.trans (b6.mono u5.below.size));refine⟨_,rfl,?_⟩;refine hK _ _ ⟨⟨w6,B6.out⟩,rfl⟩ ?_;clear hK K7 o5 b6 g5 wx;simp only[Act.put,zQ,zZ,zJ];refine vW zBN zBG ?_;refine zM ?_;refine vV rfl ?_;intro w7 g7 C7 K7 hK;obtain⟨u7,rfl⟩:=C7;have D7:=zW (D6.out.step g7);refine mF (g:=57) (caps:=#[]) (args:=#[.slice F28 16 cF,.slice A5 (x+1) c5]) (.func 57) #[.tmp 82,.tmp 87] #[22,22] rfl (enters_of Tryz.func57 zBM rfl) rfl zBR ?_;refine(SV.out A5 c5 _ D7.out.low (wE (nE O6.out g7))).mono ?_;rintro e w8 ⟨v8,rfl,o8,b8⟩;rw[nV]at o8;obtain⟨A8,c8,rfl⟩:=vQ o8;have O8:=zW (cV o8 (show g+1+1+1≤u7.w.heap.size from D7.out.o.lt));have D8:=zW (D7.out.step b8);have B8:=zW (u7.below.trans (b8.mono u7.below.size));clear o8 b8;refine⟨_,rfl,?_⟩;refine hK _ _ ⟨⟨w8,B8.out⟩,rfl⟩ ?_;clear hK K7 g7;simp only[Act.put,zQ,zZ,zJ];refine mE zBN zBG ?_;repeat(go_big_quiet_step (rfl))
  refine zM ?_;refine mC rfl ?_;intro w9 g9 C9 K7 hK;obtain⟨u9,rfl⟩:=C9;have D9:=zW (D8.out.step g9);have O9:=zW (nE O8.out g9);refine bA D9.out.s 28 (.slice A8 16 c8) zBM rfl zB2 (.tmp 89) (.tmp 88) rfl rfl rfl ?_;refine hK _ _ ?_;clear hK K7;simp only[Act.put,zQ,zZ,zJ];simp only[lA];refine zM ?_;intro w10 g10;have D10:=zW ((D9.out.put 28 (.slice A8 16 c8) (X4 s ⟨A8,16,c8⟩)).step g10);have O10:=zW (nE (vG (g:=none) O9.out (nC.setCell 28 (.slice A8 16 c8)) (vY O9.out D9.out.s zBH) (fun _ e=>by cases e)) g10);clear k28 k1 FS D9 D8 D7 D6 D0 O6 O8 O9 g10 g9 u9 u7 u5 bd;go_upto_region 30 with fail;refine zN ?_;refine lP mM D10.out.s (lC _) rfl (.tmp 2) rfl rfl ?_;simp only[Act.put,zQ,zZ,zJ];refine lE mM D10.out.o (lC _) (lC _) (nZ _) rfl (.tmp 4) (.tmp 111) rfl rfl rfl ?_;simp only[Act.put,zQ,zZ,zJ];have RE:=D10.out.o.store (cst {s with fl:=⟨A8,16,c8⟩});have BZ:=lU D10.out.low (show w.heap.size≤g+1+1 by have:=D10.out.at_;omega) (cst {s with fl:=⟨A8,16,c8⟩});have PZ:=vG (g:=none) O10.out (nC.setRow (cst {s with fl:=⟨A8,16,c8⟩})) (vY O10.out D10.out.o zBH) (fun _ e=>by cases e);generalize World.setRow _ _ _=wz at RE BZ PZ⊢;go_wp2_with fail;iterate 4 (try go_step)
  exact zT (zF rfl _ _ (g+1+1) _ _ _ _ rfl RE Tryz.underlying43 rfl zBU) rfl (vA.mk {z with fl:=⟨A8,16,c8⟩} zRZ (by rw[ED.out];exact(RR.out.step BZ).setF (wE PZ)) BZ ⟨.inl ⟨rfl,zH _⟩,rfl,rfl,.inl rfl,.inl rfl,.inr (fun _ e=>by have h1:=(D10.out).at_;have h2:=(zVP PZ _ e);omega),.inl rfl⟩)
 by_cases h44:op=44
 ·subst h44;clear i5;obtain⟨F28,cF,eF⟩:∃F28 cF,z.fl=⟨F28,16,cF⟩:=⟨z.fl.A,z.fl.c,by have:=RR.out.fl.1;cases h:z.fl;rw[h]at this;simp at this;simp[this]⟩;have HF:=zW (show∀w',Below w.heap.size w w'→Rd w' F28 (cC a.fl)from fun w' h=>by have:=RR.out.fl.2;rw[eF]at this;exact this.below h);obtain⟨B,hB⟩:∃B:Nat→Nat,B=fun j=>(a.fl j).toNat:=⟨_,rfl⟩;have ED:=zW (show yP a 44 x nn addr={a with v:=ldN a.v (upL 0 (x+1)) B (x+1)}from by rw[hB];unfold yP;simp);have FBY:=zW (show∀j,j<16→∀w',Below w.heap.size w w'→∃ad2,F28=some ad2∧w'.cell? (ad2.add j)=some (.int .u8 (B j:Int))from fun j hj w' h=>by
   have hl:j<(cC a.fl).length:=by rw[nV];exact hj
   obtain⟨ad2,e,_,hc⟩:=HF.out w' h (by intro e;rw[e]at hl;cases hl);refine⟨ad2,e,?_⟩;rw[hc j hl,yS _ _ hj,hB];have:=FL.out j hj;simp only[Int.toNat_of_nonneg this.1])
  clear hB;have E0:cst s=cst {s with v:=ldN a.v (upL 0 (x+1)) B 0}:=by rw[show ldN a.v (upL 0 (x+1)) B 0=s.v from by rw[←HS.out];rfl]
  have E28:=zW eF;have D1:=zW (show DI w g {s with v:=ldN a.v (upL 0 (x+1)) B 0} vP ⟨44,x,y,n,nn,addr,len⟩ w1 from⟨E0▸D0.out.s,D0.out.i,D0.out.o,D0.out.low,D0.out.at_⟩);clear E0 D0 eF;go_upto_region 24 with fail;clear i0 i1 cx;go_wp2;go_loopw [6] (fun i wr=>∃j:Nat,j≤x+1∧i=.int .i64 (j:Int)∧DI w g {s with v:=ldN a.v (upL 0 (x+1)) B j} vP ⟨44,x,y,n,nn,addr,len⟩ wr) (fun i _=>x+1-(intOf i).toNat)
  case atStart=>exact⟨0,qE _,rfl,D1.out⟩
  case round=>
   clear D1
   obtain⟨j,hj,rfl,d⟩:=hrel
   have D1:=zW d
   clear d
   have i1:wr.cell? ⟨g+1,1,none⟩=some (.int .i64 (x:Int)):=(D1.out.i.cell 1).trans rfl
   by_cases hlt:j<x+1
   ·have jI:(j:Int)≤(x:Int):=zBY
    have j16:j<16:=by have:=HX.out.1;omega
    have j16I:(j:Int)<16:=zBY
    obtain⟨ad2,eB,cB⟩:=FBY.out j j16 wr D1.out.low
    have c28:wr.cell? ⟨g,28,none⟩=some (.slice F28 16 cF):=((D1.out.s.cell 28).trans (nW _ 12)).trans (by rw[show(uI {s with v:=ldN a.v (upL 0 (x+1)) B j})[12]?=some s.fl.v from rfl,←HS.out,show(mT a z).fl=z.fl from rfl,E28.out];rfl)
    have c5:=(D1.out.s.cell j).trans (wJ _ j16)
    have f5:=D1.out.s.frozen j
    subst eB
    have HJ:=zW (zY hlt j16)
    obtain⟨bv,hbv⟩:∃bv,B j=bv:=⟨_,rfl⟩
    have HB:=zW hbv
    rw[hbv]at cB
    clear hbv hj
    go_wp2
    have D2:=zW (D1.out.put j (.int .u8 (bv:Int)) (oV _ j16 bv))
    clear c5 f5 cB c28 i1
    go_roundw
    case rel=>exact⟨j+1,by have:=HJ.out.1;omega,by go_num,by
     have e:ldN a.v (upL 0 (x+1)) B (j+1)=Cpu.upd (ldN a.v (upL 0 (x+1)) B j) j bv:=by
      have:=HJ.out.1;show Cpu.upd _ _ _=_;rw[HB.out,show((upL 0 (x+1)).getD j 0).toNat=j by simp[upL,this]]
     rw[e]
     exact D2.out⟩
    case measure=>simp[intOf];have:=HJ.out.1;omega
   ·obtain rfl:j=x+1:=by omega
    have jI:¬((x+1:Nat):Int)≤(x:Int):=zBY
    clear hlt hj
    go_upto_region 30 with fail
    clear jI i1 FBY
    go_upto_region 30 with fail
    refine zN ?_
    refine lP mM D1.out.s (lC _) rfl (.tmp 2) rfl rfl ?_
    simp only[Act.put,zQ,zZ,zJ]
    refine lE mM D1.out.o (lC _) (lC _) (nZ _) rfl (.tmp 4) (.tmp 111) rfl rfl rfl ?_
    simp only[Act.put,zQ,zZ,zJ]
    have RE:=D1.out.o.store (cst {s with v:=ldN a.v (upL 0 (x+1)) B (x+1)})
    have BZ:=lU D1.out.low (show w.heap.size≤g+1+1 by have:=D1.out.at_;omega) (cst {s with v:=ldN a.v (upL 0 (x+1)) B (x+1)})
    generalize World.setRow _ _ _=wz at RE BZ⊢
    go_wp2_with fail
    iterate 4 (try go_step)
    exact zT (zF rfl _ _ (g+1+1) _ _ _ _ rfl RE Tryz.underlying43 rfl zBU) rfl (vA.mk z zRZ zBC BZ ⟨.inl ⟨rfl,zH _⟩,rfl,rfl,.inl rfl,.inl rfl,.inl rfl,.inl rfl⟩)
 by_cases h51:op=51
 ·subst h51;clear i5;have ED:=zW (show yP a 51 x nn addr={a with pt:=a.v x}from by unfold yP;simp);rw[HV.out]at ED;have c27:w1.cell? ⟨g,27,none⟩=some (.int .u8 (s.pt:Int)):=(D0.out.s.cell 27).trans (nW _ 11);have f27:=D0.out.s.frozen 27;go_upto_region 30 with fail;have D1:=zW (D0.out.put 27 (.int .u8 (vx:Int)) (zJC s vx));generalize World.setCell _ _ _=w3 at D1⊢;go_upto_region 30 with fail;refine zN ?_;refine lP mM D1.out.s (lC _) rfl (.tmp 2) rfl rfl ?_;simp only[Act.put,zQ,zZ,zJ];refine lE mM D1.out.o (lC _) (lC _) (nZ _) rfl (.tmp 4) (.tmp 111) rfl rfl rfl ?_;simp only[Act.put,zQ,zZ,zJ];have RE:=D1.out.o.store (cst {s with pt:=vx});have BZ:=lU D1.out.low (show w.heap.size≤g+1+1 by have:=D1.out.at_;omega) (cst {s with pt:=vx});exact zT4
 have e20:(op==20)=false:=by simpa using h20
 have e48:(op==48)=false:=by simpa using h48
 have e22:(op==22)=false:=by simpa using h22
 have e26:(op==26)=false:=by simpa using h26
 have e28:(op==28)=false:=by simpa using h28
 have e29:(op==29)=false:=by simpa using h29
 have e30:(op==30)=false:=by simpa using h30
 have e31:(op==31)=false:=by simpa using h31
 have e42:(op==42)=false:=by simpa using h42
 have e43:(op==43)=false:=by simpa using h43
 have e44:(op==44)=false:=by simpa using h44
 have e51:(op==51)=false:=by simpa using h51
 have ED:=zW (show yP a op x nn addr=a by unfold yP;rw[zL (fun h=>h.elim h20 h48),zL h22,zL h26,zL h28,zL h29,zL h30,zL h31,zL h42,zL h43,zL h44,zL h51]);clear i5 h20 h48 h22 h26 h28 h29 h30 h31 h42 h43 h44 h51;go_upto_region 30 with fail;clear i0 i1 cx e20 e48 e22 e26 e28 e29 e30 e31 e42 e43 e44 e51;go_upto_region 30 with fail;refine zN ?_;refine lP mM D0.out.s (lC _) rfl (.tmp 2) rfl rfl ?_;simp only[Act.put,zQ,zZ,zJ];refine lE mM D0.out.o (lC _) (lC _) (nZ _) rfl (.tmp 4) (.tmp 111) rfl rfl rfl ?_;exact zDG
end
end Go.Proofs.YtcjldabaekbdlaaGreatDoor
