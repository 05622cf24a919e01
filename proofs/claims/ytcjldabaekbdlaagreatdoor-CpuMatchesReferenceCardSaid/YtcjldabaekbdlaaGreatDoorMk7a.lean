/- CpuEx, CpuOk, CpuAdv, CpuLev. -/
import Derived.Test.YtcjldabaekbdlaaGreatDoorMCpuRef7
import Derived.Test.YtcjldabaekbdlaaGreatDoorMCpuRef8b
import Derived.Test.YtcjldabaekbdlaaGreatDoorMCpuRef9
set_option maxRecDepth 400000
set_option maxHeartbeats 64000000
set_option linter.unusedVariables false
set_option linter.unusedSimpArgs false
namespace Go.Proofs.YtcjldabaekbdlaaGreatDoor
section
open Go.RowKit Num Dec Cpu
structure Ef where
 c:Int
 halt:Bool
 wait:Bool
 drew:Bool
def zBQ(op:Int):Bool:=decide (op=32)||(decide (op=33)||(decide (op=34)||(decide (op=46)||(decide (op=47)||decide (op=50)))))
def stB(N:Nat)(a:AS)(op:Int)(x y n nn:Nat)(addr len:Int)(q:Pr):AS:=
 if yC op=true then{a with v:=xZ a.v ⟨op,x,y,n,nn,addr,len⟩ q}else if uL op=true then cN a (skB a.v ⟨op,x,y,n,nn,addr,len⟩) q.lv else
 if op=24 then cN a (dn a.ks ((a.v x%16:Nat):Int)) q.lv else if op=25 then cN a (!dn a.ks ((a.v x%16:Nat):Int)) q.lv else
 if op=2 then{a with sk:=a.sk.dropLast,pc:=a.sk.getLastD 0}else if op=3 then{a with pc:=addr}else if op=4 then{a with sk:=a.sk++[a.pc],pc:=addr}else
 if op=21 then{a with pc:=(addr+(a.v (if q.jx=true then x else 0):Int))%65536}else if op=23∨op=41 then EQ N a op x y n q.cl else
 if zBQ op=true then xP a op x y (spN a.msk op x y n) q.ki else yP (tI a op n) op x nn addr
def caA(a:AS)(op:Int)(x y n:Nat)(q:Pr):Int:=caN a.sk.length a.i a.msk op x y n q.fa
def nxA(a:AS)(len:Int):AS:={a with pc:=(a.pc+len)%65536}
def stA(N:Nat)(a:AS)(op:Int)(x y n nn:Nat)(addr len:Int)(q:Pr):AS:=
 if caA a op x y n q=0 then(if op=38 then a else stB N (nxA a len) op x y n nn addr len q)else a
def efA(a:AS)(op:Int)(x y n:Nat)(q:Pr):Ef:=
 if caA a op x y n q=0 then(if op=38 then⟨0,true,false,false⟩else⟨0,false,op==27,(op==23||op==41)&&(q.dw&& !a.hi)⟩)else⟨caA a op x y n q,false,false,false⟩
def efc(e:Ef):Array Value:=#[.int .i64 e.c,.bool e.halt,.bool e.wait,.bool e.drew]
theorem sT:xX Tryz.prog 54 4:=⟨⟨_,Tryz.underlying54,rfl⟩,by kernel_rfl⟩
theorem yT(e:Ef):cL (efc e):=by unfold cL efc;simp[Value.oneCell']
theorem oS:cY Tryz.prog 54 (efc ⟨0,false,false,false⟩):=by unfold cY;kernel_rfl
theorem SI(c:Int):Tryz.prog.built 54 [(0,.int .i64 c)]=some (efc ⟨c,false,false,false⟩):=by kernel_rfl
theorem UT:Tryz.prog.built 54 [(1,.bool true)]=some (efc ⟨0,true,false,false⟩):=by kernel_rfl
theorem UG(b:Bool):Tryz.prog.built 54 [(2,.bool b)]=some (efc ⟨0,false,b,false⟩):=by kernel_rfl
theorem L4(s:CS):(cst s).extract 0 (0+16)=rg s.v:=by
 apply qH
 intro j
 rw[lV,lC];by_cases hj:j<16
 ·rw[zG zBY,qB,wJ _ hj,gJ _ hj]
 ·rw[zL zBY,zE (by rw[mK];omega)]
theorem QC(s:CS)(v:Nat→Nat):m3 (cst s) 0 (rg v)=cst {s with v:=v}:=by
 apply qH
 intro j
 unfold m3;rw[lZ,jP,qB,mK,zX];by_cases h2:j<16
 ·rw[qA (by simp[mK];omega),jY,gJ _ h2,wJ _ h2]
 ·rw[qP (by simp[mK];omega),kO];simp only[kP,mK];obtain⟨m,rfl⟩:∃m,j=16+m:=⟨j-16,by omega⟩;rw[show 16+(16+m-16)=16+m by omega,jY,nW,nW];rfl
theorem wS{P:Program}{fn:Func}{p q:Tmp}{ty tz:TypeId}(h:fn.results=#[.cell p ty,.cell q tz])(tmps:Array Value)(w:World)(g k:Nat)(t u:TypeId)(cs ds:Array Value)(fr fs:Nat×Nat)
  (hp:tmps.getD p undef=.pointer (some ⟨g,0,none⟩)) (hq:tmps.getD q undef=.pointer (some ⟨k,0,none⟩)) (hg:w.heap[g]?=some (.cells cs t fr)) (hk:w.heap[k]?=some (.cells ds u fs)) {n m:Nat} (A:xX P ty n) (hn:cs.size=n) (B:xX P tz m) (hm:ds.size=m):
  (results fn tmps).run P w=.ok (.tuple #[.agg cs,.agg ds]) w:=by
 obtain⟨⟨d,hu,hd⟩,hi⟩:=A;obtain⟨⟨d2,hu2,hd2⟩,hi2⟩:=B;have hp':tmps[p]?.getD undef=.pointer (some ⟨g,0,none⟩):=by simpa using hp
 have hq':tmps[q]?.getD undef=.pointer (some ⟨k,0,none⟩):=by simpa using hq
 have hl:=run_loadVar_row w g t ty cs fr d hg hu zTV (by rw[hi,hn]);have hl2:=run_loadVar_row w k u tz ds fs d2 hk hu2 (by cases d2<;>simp_all [TypeDesc.isRow]) (by rw[hi2,hm]);simp[results,h,hp',hq',asAddr,hl,hl2]
structure EX(w:World)(g:Nat)(s:CS)(i:Ins)(q:Pr)(w1:World):Prop where
 s:Blk g 43 (cst s) w1
 i:Blk (g+1) 47 (lI i) w1
 p:Blk (g+1+1) 31 (prc q) w1
 o:Blk (g+1+1+1) 43 (cst vP) w1
 f:Blk (g+1+1+1+1) 54 (efc ⟨0,false,false,false⟩) w1
 low:Below w.heap.size w w1
 at_:w.heap.size≤g
section
variable {w w1 w2:World} {g:Nat} {s s':CS} {i:Ins} {q:Pr}
theorem EX.new(w:World)(s:CS)(i:Ins)(q:Pr):EX w w.heap.size s i q (((((w.alloc (.cells (cst s) 43)).alloc (.cells (lI i) 47)).alloc (.cells (prc q) 31)).alloc (.cells (cst vP) 43)).alloc (.cells (efc ⟨0,false,false,false⟩) 54)):=by
 have D:=DQ.new w s vP i q;refine⟨D.s.alloc _,D.i.alloc _,D.p.alloc _,D.o.alloc _,?_,D.low.alloc D.low.size _,zH _⟩;have h:=Blk.new ((((w.alloc (.cells (cst s) 43)).alloc (.cells (lI i) 47)).alloc (.cells (prc q) 31)).alloc (.cells (cst vP) 43)) 54 (efc ⟨0,false,false,false⟩);rw[zR,zR,zR,zR]at h;exact h
theorem EX.step(h:EX w g s i q w1)(hb:Below w1.heap.size w1 w2):EX w g s i q w2:=⟨h.s.step hb,h.i.step hb,h.p.step hb,h.o.step hb,h.f.step hb,h.low.trans (hb.mono h.low.size),h.at_⟩
theorem EX.row(h:EX w g s i q w1):EX w g s' i q (w1.setRow g (cst s')):=
 ⟨h.s.store _,h.i.otherRow zBY _,h.p.otherRow zBY _,h.o.otherRow zBY _,h.f.otherRow zBY _,lU h.low h.at_ _,h.at_⟩
theorem EX.put(h:EX w g s i q w1)(k:Nat)(v:Value)(e:(cst s).setIfInBounds k v=cst s'):EX w g s' i q (w1.setCell ⟨g,k,none⟩ v):=
 ⟨(h.s.put k _).eq e,h.i.other zBY k _,h.p.other zBY k _,h.o.other zBY k _,h.f.other zBY k _,h.low.trans ((Below.setCell (zB _ _) h.at_ _)),h.at_⟩
theorem EX.away(h:EX w g s i q w1){b:Nat}(hb:g+1+1+1+1<b)(o:Nat)(v:Value):EX w g s i q (w1.setCell ⟨b,o,none⟩ v):=
 ⟨h.s.other zBY o v,h.i.other zBY o v,h.p.other zBY o v,h.o.other zBY o v,h.f.other zBY o v,h.low.trans ((Below.setCell (zB _ _) (show w.heap.size≤b by have:=h.at_;omega) _)),h.at_⟩
end
theorem vI:xX Tryz.prog 31 8:=⟨⟨_,Tryz.underlying31,rfl⟩,by kernel_rfl⟩
def YR(N:Nat)(z:Sls)(a:AS)(f:Ef)(w:World)(e:Ending)(w':World):Prop:=∃z',e=.returned (.tuple #[.agg (cst (mT a z')),.agg (efc f)])∧RS N w' z' a∧Below w.heap.size w w'∧Fr w z z'
theorem YR.mk{N:Nat}{z:Sls}{a a':AS}{f f':Ef}{w:World}{e:Ending}{w':World}(ea:a'=a)(ef:f'=f)(z':Sls)(h:e=.returned (.tuple #[.agg (cst (mT a' z')),.agg (efc f')]))(r:RS N w' z' a')(b:Below w.heap.size w w')(k:Fr w z z'):YR N z a f w e w':=by
 subst ea ef;exact⟨z',h,r,b,k⟩
def yA(N g:Nat)(w:World):Prop:=∀A gs F,Px4 N A gs F w→(∀ad,A=some ad→ad.block≠g)∧∀i,i<4→gs.getD i 0≠g
theorem yA.st{N g:Nat}{w:World}{s:CS}(S:Blk g 43 (cst s) w):yA N g w:=fun _ _ _ h=>h.not_st S
theorem yA.ef{N g:Nat}{w:World}{ef:Ef}(S:Blk g 54 (efc ef) w):yA N g w:=fun A gs F h=>by
 constructor
 ·intro ad e hb;obtain⟨b,o,hA,hlt,hc⟩:=h.row zRF;rw[hA]at e;cases e
  simp only at hb
  subst hb;have h1:=hc 1 (by rw[h.len];decide);rw[S.cell]at h1;have hs:∀(k:Nat) (v:Value),(efc ef)[k]?=some v→isSl v=false:=by
   intro k v hv;rcases k with _|_|_|_|k
   ·cases hv;rfl
   ·cases hv;rfl
   ·cases hv;rfl
   ·cases hv;rfl
   ·rw[zE (by simp[efc])]at hv;cases hv
  have:=hs _ _ h1;cases this
 ·intro i hi e;have h1:=(h.px i hi).at_ 0 zBH;rw[e,S.cell]at h1;cases h1
theorem Px4.away{N:Nat}{A:Option Addr}{gs:List Nat}{F:Nat→Nat→Bool}{w w':World}{g:Nat}(h:Px4 N A gs F w)(np:yA N g w)(hs:w.heap.size≤w'.heap.size)(hk:∀k,k≠g→w'.heap[k]?=w.heap[k]?):Px4 N A gs F w':=by
 obtain⟨ha,hp⟩:=np _ _ _ h;exact zDF
section
variable {N:Nat} {w0 wc w1 w2:World} {z z':Sls} {a0 a1:AS} {g:Nat}
theorem iE{A A0:Option Addr}{L L0:List Int}(h:Rd w1 A L)(hl:L.length=L0.length)(old:A=A0∧Rd w0 A0 L0∨∀ad,A=some ad→wc.heap.size≤ad.block)(h0:w0.heap.size≤g)(hc:g<wc.heap.size)(hs:w1.heap.size≤w2.heap.size)(hk:∀k,k≠g→w2.heap[k]?=w1.heap[k]?):Rd w2 A L:=fun hne=>by
 obtain⟨ad,e,hb,hc1⟩:=h hne;have hg:ad.block≠g:=by
  rcases old with⟨e1,r⟩|f
  ·obtain⟨ad2,e2,hb2,_⟩:=r (by intro e3;rw[e3]at hl;exact hne (kA hl));rw[←e1,e]at e2;cases e2
   omega
  ·have:=f ad e;omega
 exact⟨ad,e,zS hb hs,fun j hj=>(qM (by rw[cP];exact hk _ hg)).trans (hc1 j hj)⟩
theorem RS.past(R0:RS N w0 z a0)(R:RS N w1 z' a1)(F:Fr wc z z')(h0:w0.heap.size≤g)(hc:g<wc.heap.size)(S:yA N g w1)(hs:w1.heap.size≤w2.heap.size)(hk:∀k,k≠g→w2.heap[k]?=w1.heap[k]?):RS N w2 z' a1:=by
 refine⟨?_,?_,?_,?_,⟨?_,R.P.2⟩,⟨R.fl.1,?_⟩,⟨?_,R.L.2⟩⟩
 ·refine⟨fun _ _=>qE _,fun hne=>?_,R.sk.len,R.sk.cap,R.sk.max⟩;obtain⟨b,o,e,hb,hc1⟩:=R.sk.row hne;have hg:b≠g:=by
   rcases F.sk with⟨e1,hn⟩|f
   ·have hl:0<a1.sk.length:=List.length_pos_iff.2 hne;have hl2:0<a0.sk.length:=by rw[R0.sk.len];rw[R.sk.len]at hl;omega
    obtain⟨b2,o2,e2,hb2,_⟩:=R0.sk.row (by intro e3;rw[e3]at hl2;cases hl2);rw[←e1,e]at e2;cases e2
    omega
   ·have:=f _ e;simp only at this;omega
  exact⟨b,o,e,zS hb hs,fun j hj=>(qM (hk b hg)).trans (hc1 j hj)⟩
 ·obtain⟨ad,c,e,r⟩:=R.M;refine⟨ad,c,e,r.away ?_ hs hk⟩;rcases F.M with e1|f
  ·obtain⟨ad2,c2,e2,r2⟩:=R0.M;rw[e1,e2]at e;cases e
   have:=r2.1
   omega
  ·have:=f ad (by rw[e]);omega
 ·obtain⟨A,cap,gs,e,p⟩:=R.G;exact⟨A,cap,gs,e,p.away S hs hk⟩
 ·refine⟨R.K.len,R.K.max,fun i hi=>?_⟩;obtain⟨b,o,e,hb,c1,c2,k⟩:=R.K.at_ i hi;have hl:a1.ks.length=a0.ks.length:=by rw[R.K.len,R0.K.len,F.K]
  obtain⟨b2,o2,e2,hb2,_⟩:=R0.K.at_ i zBY;rw[←F.K,e]at e2;cases e2
  exact⟨b,o,e,zS hb hs,(rK (hk b zBY) _).trans c1,(rK (hk b zBY) _).trans c2,k⟩
 ·rcases F.P with e1|f
  ·exact iE (w0:=w0) (wc:=wc) (L0:=a0.P) R.P.1 (by rw[R.P.2,R0.P.2,e1]) (.inl ⟨by rw[e1],R0.P.1⟩) h0 hc hs hk
  ·exact iE (w0:=w0) (wc:=wc) (L0:=a1.P) (A0:=z'.P.A) R.P.1 rfl (.inr f) h0 hc hs hk
 ·rcases F.fl with e1|f
  ·exact iE (w0:=w0) (wc:=wc) (L0:=cC a0.fl) R.fl.2 (by rw[nV,nV]) (.inl ⟨by rw[e1],R0.fl.2⟩) h0 hc hs hk
  ·exact iE (w0:=w0) (wc:=wc) (L0:=cC a1.fl) (A0:=z'.fl.A) R.fl.2 rfl (.inr f) h0 hc hs hk
 ·exact iE (w0:=w0) (wc:=wc) (L0:=a0.L) R.L.1 (by rw[R.L.2,R0.L.2,F.L]) (.inl ⟨by rw[F.L],R0.L.1⟩) h0 hc hs hk
end
theorem RS.skip{N:Nat}{w:World}{z:Sls}{a:AS}(h:RS N w z a)(b:Bool)(l:Int):RS N w z (cN a b l):=by
 unfold cN;split
 ·exact h.nums _ _ _ _ _ _ _ _ _
 ·exact h
theorem pZ(a:AS)(z:Sls)(N:Nat)(b:Bool)(q:Pr)(w:World)(H:RS N w z a)(O:OkA a):
  Calls Tryz.prog 66 #[.agg (cst (mT a z)),.bool b,.agg (prc q)] w fun e w'=>e=.returned (.agg (cst (mT (cN a b q.lv) z)))∧Below w.heap.size w w':=by
 cases b
 ·exact zW7 (mT a z) q w
 ·obtain⟨ad,c,e,r⟩:=H.M;have hseg:seg a.M a.pc 2=[((byC a.M a.pc 0:Nat):Int),((byC a.M a.pc 1:Nat):Int)]:=by
   have h0:=o7 O.B O.M a.pc 2 0 zBH;have h1:=o7 O.B O.M a.pc 2 1 zBH;apply kT
   intro j
   rcases j with _|_|j
   ·exact h0
   ·exact h1
   ·rw[qD (by rw[xU];omega),qD zBT]
  exact zJI (mT a z) q ad 65536 c a.M _ _ w e rfl O.M r O.pc hseg
def bC(i:Ins)(l:Int):Prop:=∃b0 b1 b2 b3:Nat,b0<256∧b1<256∧b2<256∧b3<256∧dec b0 b1 b2 b3 l=i
theorem bC.nat{i:Ins}{l:Int}(h:bC i l)(hl:1≤l∧l≤3):∃(op:Int) (x y n nn:Nat) (addr len:Int),i=⟨op,x,y,n,nn,addr,len⟩∧(0≤op∧op≤51)∧x<16∧y<16∧n<16∧nn<256∧(0≤addr∧addr≤65535)∧(0≤len∧len≤4):=by
 obtain⟨b0,b1,b2,b3,h0,h1,h2,h3,e⟩:=h;obtain⟨r1,r2,r3,r4,r5,r6⟩:=zJS b0 b1 b2 b3 l h0 h1 h2 h3 e;have hlen:0≤i.len∧i.len≤4:=by
  rcases fI b0 b1 b2 b3 l h0 h1 hl with c|⟨_,_,_,_,c⟩
  ·rw[e]at c;rw[c];decide
  ·rw[e]at c;omega
 obtain⟨op,x,y,n,nn,addr,len⟩:=i;simp only at r1 r2 r3 r4 r5 r6 hlen;obtain⟨X,rfl⟩:=qR r2.1;obtain⟨Y,rfl⟩:=qR r3.1;obtain⟨M,rfl⟩:=qR r4.1;obtain⟨K,rfl⟩:=qR r5.1;exact⟨op,X,Y,M,K,addr,len,rfl,r1,by omega,by omega,by omega,by omega,r6,hlen⟩
theorem bC.up{i:Ins}{l m:Int}(h:bC i l)(hl:1≤l∧l≤3)(hm:l≤m∧m≤3)(hi:i.op≠0):bC i m:=by
 obtain⟨b0,b1,b2,b3,h0,h1,h2,h3,e⟩:=h;refine⟨b0,b1,b2,b3,h0,h1,h2,h3,?_⟩;rcases fI b0 b1 b2 b3 l h0 h1 hl with c|⟨_,c,_⟩
 ·rw[e]at c;rw[c]at hi;exact absurd rfl hi
 ·rw[c m hm.1 hm.2,e]
structure OkB(a:AS):Prop where
 o:OkA a
 s:∀x∈a.sk,0≤x∧x≤65535
theorem zGV{v:Nat→Nat}(hv:OkV v)(op:Int)(x y nn:Nat)(n addr len:Int)(q:Pr)(hx:x<16)(hy:y<16)(hn:nn<256):OkV (xZ v ⟨op,x,y,n,nn,addr,len⟩ q):=by
 have hs:shX v ⟨op,x,y,n,nn,addr,len⟩ q<256:=by unfold shX;split;exact hv _ hy;exact hv _ hx
 have hR:xR op (v x) (v y) (shX v ⟨op,x,y,n,nn,addr,len⟩ q) nn<256:=zGW (hv x hx) (hv y hy) hs hn;unfold xZ;simp only[jS];split
 ·split
  ·exact sU hv _ _ hR
  ·rename_i f hf
   have:=zGY hs hf;exact sU (sU hv _ _ hR) _ _ zBY
 ·exact hv
theorem VO{v:Nat→Nat}(hv:OkV v)(r:List Int)(B:Nat→Nat):∀k,(∀j,j<k→B j<256)→OkV (ldN v r B k)
 |0,_=>hv
 |k+1,hB=>sU (VO hv r B k fun j hj=>hB j zBY) _ _ (hB k zBY)
theorem I6{v:Nat→Nat}(hv:OkV v)(r:List Int)(B:Nat→Nat)(hB:∀j,B j<256)(k:Nat):OkV (ldN v r B k):=VO hv r B k fun j _=>hB j
theorem JR{M:List Int}:Bts M↔∀x∈M,0≤x∧x≤255:=by
 constructor
 ·intro h x hx;obtain⟨k,hk,rfl⟩:=List.getElem_of_mem hx;exact h k hk
 ·exact fun h k hk=>h _ (lS hk)
theorem oY:∀(b:List Int) (M:List Int) (a:Int),Bts M→(∀x∈b,0≤x∧x≤255)→Bts (put M a b)
 |[],M,a,h,_=>h
 |x::t,M,a,h,hb=>by
  refine oY t _ _ ?_ fun y hy=>hb y (by simp[hy]);rw[JR]at h⊢;intro y hy;rcases List.mem_or_eq_of_mem_set hy with c|c
  ·exact h y c
  ·rw[c];exact hb x zBT
theorem LK{a:AS}(O:OkA a)(b:Bool)(l:Int):OkA (cN a b l):=by
 unfold cN;split
 ·exact⟨O.v,O.i,(by simp only;omega),O.sk,O.M,O.B,O.msk,O.ks,O.dl,O.sd,O.P,O.pt,O.fl,O.L,O.LB,O.rd⟩
 ·exact O
theorem LJ{a:AS}(O:OkA a){v:Nat→Nat}(hv:OkV v):OkA {a with v:=v}:=⟨hv,O.i,O.pc,O.sk,O.M,O.B,O.msk,O.ks,O.dl,O.sd,O.P,O.pt,O.fl,O.L,O.LB,O.rd⟩
theorem XV{a:AS}(O:OkA a){i:Int}(hi:0≤i∧i≤65535):OkA {a with i:=i}:=⟨O.v,hi,O.pc,O.sk,O.M,O.B,O.msk,O.ks,O.dl,O.sd,O.P,O.pt,O.fl,O.L,O.LB,O.rd⟩
theorem IA{a:AS}(O:OkA a){i:Int}(hi:0≤i∧i≤65535):OkA {a with pc:=i}:=⟨O.v,O.i,hi,O.sk,O.M,O.B,O.msk,O.ks,O.dl,O.sd,O.P,O.pt,O.fl,O.L,O.LB,O.rd⟩
theorem zQH{a:AS}(O:OkA a){b:List Int}{i:Int}(hb:∀x∈b,0≤x∧x≤255):OkA {a with M:=put a.M i b}:=⟨O.v,O.i,O.pc,O.sk,(by simp only;rw[cE];exact O.M),oY b _ _ O.B hb,O.msk,O.ks,O.dl,O.sd,O.P,O.pt,O.fl,O.L,O.LB,O.rd⟩
theorem H5{a:AS}(O:OkA a)(op:Int)(x y n:Nat)(hx:x<16)(hy:y<16):OkA (sF a op x y (spN a.msk op x y n)):=by
 have hb:=fun j=>WY O.B a.i j;unfold sF;split
 ·refine zQH O fun c hc=>?_;have hv:=O.v x hx;unfold M3 at hc;simp only[List.mem_cons,j6,or_false]at hc;rcases hc with rfl|rfl|rfl<;>omega
 split
 ·refine zQH O fun c hc=>?_;unfold vN at hc;simp only[jR,j8]at hc;obtain⟨j,hj,rfl⟩:=hc;have hk:spN a.msk op x y n=x+1:=by rename_i h1 h2;subst h2;rfl
  have:=O.v j zBY;omega
 split
 ·exact LJ O (I6 O.v _ _ (fun j=>by have:=hb j;omega) _)
 split
 ·refine zQH O fun c hc=>?_;simp only[jR]at hc;obtain⟨r,hr,rfl⟩:=hc;have h16:r.toNat<16:=by
   unfold uM at hr;split at hr
   ·unfold upL at hr;simp only[jR,j8]at hr;obtain⟨j,hj,rfl⟩:=hr;omega
   ·unfold dnL at hr;simp only[jR,j8]at hr;obtain⟨j,hj,rfl⟩:=hr;omega
  have:=O.v _ h16;omega
 split
 ·exact LJ O (I6 O.v _ _ (fun j=>by have:=hb j;omega) _)
 split
 ·rename_i h
  have hk:spN a.msk op x y n=16:=by subst h;rfl
  exact⟨O.v,O.i,O.pc,O.sk,O.M,O.B,O.msk,O.ks,O.dl,O.sd,(by simp only;rw[xU,hk]),O.pt,O.fl,O.L,O.LB,O.rd⟩
 ·exact O
theorem zMP{a:AS}(O:OkA a)(op:Int)(x y n:Nat)(ki:Bool)(hx:x<16)(hy:y<16):OkA (xP a op x y (spN a.msk op x y n) ki):=by
 unfold xP;split
 ·exact XV (H5 O op x y n hx hy) zBY
 ·exact H5 O op x y n hx hy
theorem zME{a:AS}(O:OkA a)(op:Int){n:Nat}(hn:n<16):OkA (tI a op n):=by
 exact zD0
theorem bN{c:Prop}[Decidable c]{x y:AS}(hx:c→OkA x)(hy:¬c→OkA y):OkA (if c then x else y):=by
 by_cases h:c
 ·rw[zG h];exact hx h
 ·rw[zL h];exact hy h
theorem zKG{c:Prop}[Decidable c]{x y:AS}{z:List Int}(hx:x.sk=z)(hy:y.sk=z):(if c then x else y).sk=z:=by
 exact zFG
theorem rd_if{c:Prop}[Decidable c]{x y:AS}{z:Nat}(hx:x.rd≤z)(hy:y.rd≤z):(if c then x else y).rd≤z:=by
 exact zFG
theorem zVZ{c:Prop}[Decidable c]{x y:AS}{z:Nat}(hx:x.rd=z)(hy:y.rd=z):(if c then x else y).rd=z:=by
 exact zFG
theorem zMC{a:AS}(O:OkA a)(hr:a.rd<1000000000)(op:Int)(x nn:Nat)(addr:Int)(hx:x<16)(hn:nn<256)(ha:0≤addr∧addr≤65535):OkA (yP a op x nn addr):=by
 have vx:=O.v x hx;have h16:(a.v x%16:Nat)<16:=kC _ zBH;unfold yP;refine bN (fun hop=>?_) fun hop=>?_
 ·exact XV O ha
 refine bN (fun hop=>?_) fun hop=>?_
 ·obtain⟨bn,e,hb⟩:=LM O.LB a.rd;have hw:(nxt a.L a.rd).toNat&&&nn<256:=Nat.lt_of_le_of_lt Nat.and_le_right hn;exact⟨sU O.v _ _ hw,O.i,O.pc,O.sk,O.M,O.B,O.msk,O.ks,O.dl,O.sd,O.P,O.pt,O.fl,O.L,O.LB,by simp only;omega⟩
 refine bN (fun hop=>?_) fun hop=>?_
 ·exact LJ O (sU O.v _ _ O.dl)
 refine bN (fun hop=>?_) fun hop=>?_
 ·exact⟨O.v,O.i,O.pc,O.sk,O.M,O.B,O.msk,O.ks,vx,O.sd,O.P,O.pt,O.fl,O.L,O.LB,O.rd⟩
 refine bN (fun hop=>?_) fun hop=>?_
 ·exact⟨O.v,O.i,O.pc,O.sk,O.M,O.B,O.msk,O.ks,O.dl,vx,O.P,O.pt,O.fl,O.L,O.LB,O.rd⟩
 refine bN (fun hop=>?_) fun hop=>?_
 ·exact XV O zBY
 refine bN (fun hop=>?_) fun hop=>?_
 ·exact XV O zBY
 refine bN (fun hop=>?_) fun hop=>?_
 ·exact XV O zBY
 refine bN (fun hop=>?_) fun hop=>?_
 ·refine⟨O.v,O.i,O.pc,O.sk,O.M,O.B,O.msk,O.ks,O.dl,O.sd,O.P,O.pt,fun j hj=>?_,O.L,O.LB,O.rd⟩;simp only;by_cases hl:j<(vN a.v (x+1)).length
  ·rw[QH _ _ _ hl,show(vN a.v (x+1))[j]'hl=(a.v j:Int)from by simp[vN]];have:=O.v j hj;omega
  ·rw[pD _ _ _ hl];exact O.fl j hj
 refine bN (fun hop=>?_) fun hop=>?_
 ·exact LJ O (VO O.v _ _ _ fun j hj=>by have:=O.fl j zBY;omega)
 refine bN (fun hop=>?_) fun hop=>?_
 ·exact⟨O.v,O.i,O.pc,O.sk,O.M,O.B,O.msk,O.ks,O.dl,O.sd,O.P,vx,O.fl,O.L,O.LB,O.rd⟩
 ·exact O
theorem zVU{a:AS}(O:OkA a){L:List Int}(hL:L.length≤16){pc:Int}(hp:0≤pc∧pc≤65535):OkA {a with sk:=L,pc:=pc}:=⟨O.v,O.i,hp,hL,O.M,O.B,O.msk,O.ks,O.dl,O.sd,O.P,O.pt,O.fl,O.L,O.LB,O.rd⟩
theorem sQ{a b:AS}(O:OkB a)(h:OkA b)(e:b.sk=a.sk):OkB b:=⟨h,by rw[e];exact O.s⟩
theorem Y3(a:AS)(b:Bool)(l:Int):(cN a b l).sk=a.sk:=by unfold cN;split<;>rfl
theorem sk_mem(a:AS)(op:Int)(x y k:Nat)(ki:Bool):(xP a op x y k ki).sk=a.sk:=by
 have h:(sF a op x y k).sk=a.sk:=by unfold sF;repeat' (first|rfl|refine zKG ?_ ?_)
 unfold xP
 split
 ·exact h
 ·exact h
theorem sk_dsp(a:AS)(op:Int)(n:Nat):(tI a op n).sk=a.sk:=by
 unfold tI;repeat' (first|rfl|refine zKG ?_ ?_)
theorem sk_dev(a:AS)(op:Int)(x nn:Nat)(addr:Int):(yP a op x nn addr).sk=a.sk:=by
 unfold yP;repeat' (first|rfl|refine zKG ?_ ?_)
theorem zVX(a:AS)(op:Int)(n:Nat):(tI a op n).rd=a.rd:=by
 unfold tI;repeat' (first|rfl|refine zVZ ?_ ?_)
theorem zMF(N:Nat){a:AS}(O:OkB a)(hr:a.rd<1000000000)(op:Int)(x y n nn:Nat)(addr len:Int)(q:Pr)(hx:x<16)(hy:y<16)(hn:n<16)(hnn:nn<256)(ha:0≤addr∧addr≤65535)(hf:op=4→a.sk.length≠16):OkB (stB N a op x y n nn addr len q):=by
 have O':=O.o;unfold stB;split
 ·exact sQ O (LJ O' (zGV O'.v op x y nn n addr len q hx hy hnn)) rfl
 split
 ·exact sQ O (LK O' _ _) (Y3 _ _ _)
 split
 ·exact sQ O (LK O' _ _) (Y3 _ _ _)
 split
 ·exact sQ O (LK O' _ _) (Y3 _ _ _)
 split
 ·have hp:0≤a.sk.getLastD 0∧a.sk.getLastD 0≤65535:=by
   rcases List.eq_nil_or_concat a.sk with e|⟨L,b,e⟩
   ·rw[e];decide
   ·rw[e];have:=O.s b (by rw[e];simp);simpa using this
  refine⟨zVU O' (by rw[List.length_dropLast];have:=O'.sk;omega) hp,fun c hc=>O.s c (List.dropLast_subset _ hc)⟩
 split
 ·exact sQ O (IA O' ha) rfl
 split
 ·rename_i h4
  refine⟨zVU O' (by have h1:=O'.sk;have h2:=hf h4;simp;omega) ha,fun c hc=>?_⟩;simp only[List.mem_append,List.mem_cons,j6,or_false]at hc;rcases hc with hc|rfl
  ·exact O.s c hc
  ·exact O'.pc
 split
 ·exact sQ O (IA O' zBY) rfl
 split
 ·refine sQ O ?_ rfl;have hv:OkV (Cpu.upd a.v 15 (if hiK (byC a.M a.i) a.F a.msk n (op==41) q.cl (a.v x) (a.v y) (rwN a.hi) (rhN a.hi) N 4=true then 1 else 0)):=sU O'.v _ _ (by split<;>decide);exact⟨hv,O'.i,O'.pc,O'.sk,O'.M,O'.B,O'.msk,O'.ks,O'.dl,O'.sd,O'.P,O'.pt,O'.fl,O'.L,O'.LB,O'.rd⟩
 split
 ·exact sQ O (zMP O' op x y n q.ki hx hy) (sk_mem _ _ _ _ _ _)
 ·exact sQ O (zMC (zME O' op hn) (by rw[zVX];exact hr) op x nn addr hx hnn ha) ((sk_dev _ _ _ _ _).trans (sk_dsp _ _ _))
theorem ZY(N:Nat){a:AS}(O:OkB a)(hr:a.rd<1000000000)(op:Int)(x y n nn:Nat)(addr len:Int)(q:Pr)(hx:x<16)(hy:y<16)(hn:n<16)(hnn:nn<256)(ha:0≤addr∧addr≤65535):OkB (stA N a op x y n nn addr len q):=by
 unfold stA;split
 ·rename_i hc
  split
  ·exact O
  ·have O1:OkB (nxA a len):=⟨IA O.o zBY,O.s⟩;refine zMF N O1 hr op x y n nn addr len q hx hy hn hnn ha fun h4 h16=>?_;unfold caA caN at hc;rw[zL zBY,zG ⟨h4,h16⟩]at hc;cases hc
 ·exact O
theorem rd_dev(a:AS)(op:Int)(x nn:Nat)(addr:Int):(yP a op x nn addr).rd≤a.rd+1:=by
 unfold yP;repeat' (first|exact qC _|exact zH _|refine rd_if ?_ ?_)
theorem rd_st(N:Nat)(a:AS)(op:Int)(x y n nn:Nat)(addr len:Int)(q:Pr):(stA N a op x y n nn addr len q).rd≤a.rd+1:=by
 have hs:∀(b:AS) (t:Bool) (l:Int),(cN b t l).rd=b.rd:=fun b t l=>by unfold cN;split<;>rfl
 have hm:∀(b:AS) (k:Nat),(xP b op x y k q.ki).rd=b.rd:=fun b k=>by
  have h:(sF b op x y k).rd=b.rd:=by unfold sF;repeat' (first|rfl|refine zVZ ?_ ?_)
  unfold xP
  split
  ·exact h
  ·exact h
 have h0:(nxA a len).rd=a.rd:=rfl
 unfold stA;split
 ·split
  ·omega
  ·unfold stB;repeat' split
   all_goals first|(rw[hs,h0];omega)|(rw[hm,h0];omega)|(have h:=rd_dev (tI (nxA a len) op n) op x nn addr;rw[zVX,h0]at h;exact h)|(show(nxA a len).rd≤_;rw[h0];omega)
 ·omega
theorem XQ{c:Prop}[Decidable c]{x y:AS}{z:Int}(hx:x.pc=z)(hy:y.pc=z):(if c then x else y).pc=z:=by
 exact zFG
theorem pc_mem(a:AS)(op:Int)(x y k:Nat)(ki:Bool):(xP a op x y k ki).pc=a.pc:=by
 have h:(sF a op x y k).pc=a.pc:=by unfold sF;repeat' (first|rfl|refine XQ ?_ ?_)
 unfold xP
 split
 ·exact h
 ·exact h
theorem pc_dsp(a:AS)(op:Int)(n:Nat):(tI a op n).pc=a.pc:=by
 unfold tI;repeat' (first|rfl|refine XQ ?_ ?_)
theorem pc_dev(a:AS)(op:Int)(x nn:Nat)(addr:Int):(yP a op x nn addr).pc=a.pc:=by
 unfold yP;repeat' (first|rfl|refine XQ ?_ ?_)
def V3(op:Int):Prop:=op=0∨op=3∨op=4∨op=2∨op=21
def aH(op:Int):Prop:=op=5∨op=6∨op=7∨op=19∨op=24∨op=25
theorem pc_stB(N:Nat)(a:AS)(op:Int)(x y n nn:Nat)(addr len:Int)(q:Pr)(hg:¬V3 op)(hs:¬aH op):(stB N a op x y n nn addr len q).pc=a.pc:=by
 unfold V3 at hg;unfold aH at hs;unfold stB;refine XQ rfl ?_;have h1:¬uL op=true:=by unfold uL;simp;omega
 rw[zL h1,zL (show¬op=24 by omega),zL (show¬op=25 by omega),zL (show¬op=2 by omega),zL (show¬op=3 by omega),zL (show¬op=4 by omega),zL (show¬op=21 by omega)];refine XQ rfl ?_;refine XQ (pc_mem _ _ _ _ _ _) ?_;exact(pc_dev _ _ _ _ _).trans (pc_dsp _ _ _)
theorem zLU(a:AS)(c:Bool)(l:Int)(p:Int)(h:a.pc=(p+2)%65536)(hp:0≤p∧p≤65535):(cN a c l).pc=(p+2)%65536∨(cN a c l).pc=(p+4)%65536∨((cN a c l).pc=(p+6)%65536∧l=3):=by
 unfold cN;cases c
 ·exact .inl h
 ·right
  rw[zG rfl];simp only;unfold skl;split
  ·rename_i hc
   right
   exact⟨by rw[h];omega,hc.1⟩
  ·left
   rw[h];omega
theorem zMM(N:Nat)(a:AS)(op:Int)(x y n nn:Nat)(addr len:Int)(q:Pr)(hs:aH op):∃c,stB N a op x y n nn addr len q=cN a c q.lv:=by
 unfold stB;have ha:¬yC op=true:=by unfold aH at hs;unfold yC;simp;omega
 rw[zL ha];by_cases h:uL op=true
 ·rw[zG h];exact⟨_,rfl⟩
 ·rw[zL h];by_cases h4:op=24
  ·rw[zG h4];exact⟨_,rfl⟩
  ·rw[zL h4];by_cases h5:op=25
   ·rw[zG h5];exact⟨_,rfl⟩
   ·exfalso
    apply h
    unfold aH at hs
    unfold uL;simp;omega
def adv(p p':Int):Int:=if p'-p<0 then p'-p+65536 else p'-p
theorem JS(p k:Int)(hp:0≤p∧p≤65535)(hk:0≤k∧k≤6):adv p ((p+k)%65536)=k:=by unfold adv;split<;>omega
theorem PA(p:Int):adv p p=0:=by unfold adv;split<;>omega
theorem SR(a:AS)(op:Int)(x y n:Nat)(q:Pr)(hi:a.i≤65535)(h:op=38∨aH op):caA a op x y n q=0:=by
 unfold aH at h;have hs:spN a.msk op x y n=0:=by
  unfold spN;rw[zL zBY,zL zBY,zL zBY,zL zBY,zL zBY,zL zBY]
 unfold caA caN;rw[hs,zL zBY,zL zBY,zL zBY,zL zBY]
theorem adv19(N:Nat)(a:AS)(op:Int)(x y n nn:Nat)(addr len:Int)(q:Pr)(hp:0≤a.pc∧a.pc≤65535)(hi:a.i≤65535)(hl:0≤len∧len≤4)(h2:aH op→len=2):
  V3 op∨(op=38∧adv a.pc (stA N a op x y n nn addr len q).pc=0∧(efA a op x y n q).halt=true)∨(aH op∧(adv a.pc (stA N a op x y n nn addr len q).pc=2∨adv a.pc (stA N a op x y n nn addr len q).pc=4∨(adv a.pc (stA N a op x y n nn addr len q).pc=6∧q.lv=3)))∨
  (¬V3 op∧op≠38∧¬aH op∧(((efA a op x y n q).c≠0∧adv a.pc (stA N a op x y n nn addr len q).pc=0)∨((efA a op x y n q).c=0∧adv a.pc (stA N a op x y n nn addr len q).pc=len))):=by
 by_cases hg:V3 op
 ·exact .inl hg
 right
 by_cases h38:op=38
 ·left
  have hc:=SR a op x y n q hi (.inl h38);unfold stA efA;rw[zG hc,zG hc,zG h38,zG h38];exact⟨h38,PA _,rfl⟩
 right
 by_cases hs:aH op
 ·left
  have hc:=SR a op x y n q hi (.inr hs);unfold stA;rw[zG hc,zL h38];obtain⟨c,e⟩:=zMM N (nxA a len) op x y n nn addr len q hs;rw[e];refine⟨hs,?_⟩;rcases zLU (nxA a len) c q.lv a.pc (by rw[h2 hs];rfl) hp with r|r|⟨r,l⟩
  ·exact .inl (by rw[r];exact JS _ _ hp zBH)
  ·exact .inr (.inl (by rw[r];exact JS _ _ hp zBH))
  ·exact .inr (.inr ⟨by rw[r];exact JS _ _ hp zBH,l⟩)
 right
 refine⟨hg,h38,hs,?_⟩;unfold stA efA;by_cases hc:caA a op x y n q=0
 ·right
  rw[zG hc,zG hc,zL h38,zL h38,pc_stB N _ op x y n nn addr len q hg hs];exact⟨rfl,JS _ _ hp zBY⟩
 ·left
  rw[zL hc,zL hc];exact⟨hc,PA _⟩
theorem zQE{op x y n nn addr len l:Int}(h:bC ⟨op,x,y,n,nn,addr,len⟩ l)(hl:1≤l∧l≤3)(h48:op≠48∧op≠0):len=2:=by
 obtain⟨b0,b1,b2,b3,h0,h1,h2,h3,e⟩:=h;rcases fI b0 b1 b2 b3 l h0 h1 hl with c|⟨_,_,_,_,c⟩
 ·rw[e]at c;exact absurd (congrArg Ins.op c) h48.2
 ·rw[e]at c;rcases c with⟨c,_⟩|⟨_,c⟩
  ·exact absurd c h48.1
  ·exact c
theorem iH:cY Tryz.prog 47 wQ:=by unfold cY;kernel_rfl
def lvP(q:Pr)(l:Int):Pr:={q with lv:=l}
theorem zQQ{h l:Nat}{k:Int}(hn:¬(h=240∧l=0)):skl h l k=2:=by
 unfold skl;rw[zL (by rintro⟨_,a,b⟩;exact hn ⟨a,b⟩)]
theorem J9(a:AS)(c:Bool)(k l:Int)(hn:¬(byC a.M a.pc 0=240∧byC a.M a.pc 1=0)):cN a c k=cN a c l:=by
 unfold cN;rw[zQQ hn,zQQ hn]
theorem stB_lv(N:Nat)(a:AS)(op:Int)(x y n nn:Nat)(addr len:Int)(q:Pr)(l:Int)(hn:¬(byC a.M a.pc 0=240∧byC a.M a.pc 1=0)):stB N a op x y n nn addr len (lvP q l)=stB N a op x y n nn addr len q:=by
 unfold stB;rw[J9 a _ (lvP q l).lv q.lv hn,J9 a _ (lvP q l).lv q.lv hn,J9 a _ (lvP q l).lv q.lv hn];rfl
theorem caA_lv(a:AS)(op:Int)(x y n:Nat)(q:Pr)(l:Int):caA a op x y n (lvP q l)=caA a op x y n q:=rfl
theorem efA_lv(a:AS)(op:Int)(x y n:Nat)(q:Pr)(l:Int):efA a op x y n (lvP q l)=efA a op x y n q:=rfl
theorem stA_lv(N:Nat)(a:AS)(op:Int)(x y n nn:Nat)(addr len:Int)(q:Pr)(l:Int)(h2:len=2)(hn:¬(byC a.M ((a.pc+2)%65536) 0=240∧byC a.M ((a.pc+2)%65536) 1=0)):stA N a op x y n nn addr len (lvP q l)=stA N a op x y n nn addr len q:=by
 subst h2;unfold stA;rw[caA_lv,stB_lv N (nxA a 2) op x y n nn addr 2 q l hn]
theorem lv_one{op x y n nn addr len:Int}(h:bC ⟨op,x,y,n,nn,addr,len⟩ 1)(h0:op≠0):op≠48:=by
 obtain⟨b0,b1,b2,b3,g0,g1,g2,g3,e⟩:=h;rcases fI b0 b1 b2 b3 1 g0 g1 zBH with c|⟨_,_,_,c,_⟩
 ·rw[e]at c;exact absurd (congrArg Ins.op c) h0
 ·rw[e]at c;intro h48;subst h48;exact absurd (show lv 48≤1 from c) zRN
end
end Go.Proofs.YtcjldabaekbdlaaGreatDoor
