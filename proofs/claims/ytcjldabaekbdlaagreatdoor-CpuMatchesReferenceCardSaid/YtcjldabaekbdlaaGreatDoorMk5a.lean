/- CpuAS, CpuReal. -/
import Derived.Test.YtcjldabaekbdlaaGreatDoorMCpuRef6
set_option maxRecDepth 400000
set_option maxHeartbeats 64000000
set_option linter.unusedVariables false
set_option linter.unusedSimpArgs false
namespace Go.Proofs.YtcjldabaekbdlaaGreatDoor
section
open Go.RowKit Num Dec Cpu
structure AS where
 v:Nat→Nat
 i:Int
 pc:Int
 sk:List Int
 M:List Int
 F:Nat→Nat→Bool
 hi:Bool
 msk:Nat
 ks:List Ev
 dl:Nat
 sd:Nat
 P:List Int
 pt:Nat
 fl:Nat→Int
 L:List Int
 rd:Nat
structure OkA(a:AS):Prop where
 v:OkV a.v
 i:0≤a.i∧a.i≤65535
 pc:0≤a.pc∧a.pc≤65535
 sk:a.sk.length≤16
 M:a.M.length=65536
 B:Bts a.M
 msk:a.msk≤15
 ks:a.ks.length≤1000
 dl:a.dl<256
 sd:a.sd<256
 P:a.P.length=16
 pt:a.pt<256
 fl:∀j,j<16→0≤a.fl j∧a.fl j≤255
 L:a.L.length≤100000
 LB:Bts a.L
 rd:a.rd≤1000000000
def rwN(hi:Bool):Nat:=if hi=true then 128 else 64
def rhN(hi:Bool):Nat:=if hi=true then 64 else 32
theorem zZD(hi:Bool):Res hi (rwN hi) (rhN hi):=by
 cases hi
 ·exact .inr ⟨rfl,rfl,rfl⟩
 ·exact .inl ⟨rfl,rfl,rfl⟩
def ldN(v:Nat→Nat)(r:List Int)(B:Nat→Nat):Nat→Nat→Nat
 |0=>v
 |k+1=>Cpu.upd (ldN v r B k) (r.getD k 0).toNat (B k)
def M3(c:Nat):List Int:=[((c/100:Nat):Int),((c/10%10:Nat):Int),((c%10:Nat):Int)]
def sF(a:AS)(op:Int)(x y k:Nat):AS:=
 if op=32 then{a with M:=put a.M a.i (M3 (a.v x))}else if op=33 then{a with M:=put a.M a.i (vN a.v k)}else if op=34 then{a with v:=ldN a.v (upL 0 k) (byC a.M a.i) k}else
 if op=46 then{a with M:=put a.M a.i ((uM x y).map fun r=>(a.v r.toNat:Int))}else if op=47 then{a with v:=ldN a.v (uM x y) (byC a.M a.i) k}else if op=50 then{a with P:=seg a.M a.i k}else a
def xP(a:AS)(op:Int)(x y k:Nat)(ki:Bool):AS:=
 if(op=33∨op=34)∧ki=false then{sF a op x y k with i:=(a.i+(k:Int))%65536}else sF a op x y k
def JJ(a:AS)(dx dy:Int):Nat→Nat→Bool:=fun i=>if onB a.msk i then rW (a.F i) dx dy (rwN a.hi) (rhN a.hi)else a.F i
def tI(a:AS)(op:Int)(n:Nat):AS:=
 if op=1 then{a with F:=fun i=>if onB a.msk i then fun _=>false else a.F i}else if op=35 then{a with F:=JJ a 0 (n:Int)}else if op=36 then{a with F:=JJ a 4 0}else
 if op=37 then{a with F:=JJ a (-4) 0}else if op=39 then{a with F:=fun _ _=>false,hi:=false}else if op=40 then{a with F:=fun _ _=>false,hi:=true}else
 if op=45 then{a with F:=JJ a 0 (-(n:Int))}else if op=49 then{a with msk:=n}else a
def yP(a:AS)(op:Int)(x nn:Nat)(addr:Int):AS:=
 if op=20∨op=48 then{a with i:=addr}else if op=22 then{a with v:=Cpu.upd a.v x ((nxt a.L a.rd).toNat&&&nn),rd:=a.rd+1}else if op=26 then{a with v:=Cpu.upd a.v x a.dl}else
 if op=28 then{a with dl:=a.v x}else if op=29 then{a with sd:=a.v x}else if op=30 then{a with i:=(a.i+(a.v x:Int))%65536}else
 if op=31 then{a with i:=80+5*((a.v x%16:Nat):Int)}else if op=42 then{a with i:=160+10*((a.v x%16:Nat):Int)}else
 if op=43 then{a with fl:=ov a.fl (vN a.v (x+1))}else if op=44 then{a with v:=ldN a.v (upL 0 (x+1)) (fun j=>(a.fl j).toNat) (x+1)}else
 if op=51 then{a with pt:=a.v x}else a
def cN(a:AS)(b:Bool)(lv:Int):AS:=if b=true then{a with pc:=(a.pc+skl (byC a.M a.pc 0) (byC a.M a.pc 1) lv)%65536}else a
def EQ(N:Nat)(a:AS)(op:Int)(x y n:Nat)(cl:Bool):AS:=
 {a with F:=drK (byC a.M a.i) a.F a.msk n (op==41) cl (a.v x) (a.v y) (rwN a.hi) (rhN a.hi) 4,v:=Cpu.upd a.v 15 (if hiK (byC a.M a.i) a.F a.msk n (op==41) cl (a.v x) (a.v y) (rwN a.hi) (rhN a.hi) N 4=true then 1 else 0)}
structure Sls where
 sk:Sl
 M:Sl
 G:Sl
 K:Sl
 P:Sl
 fl:Sl
 L:Sl
def mT(a:AS)(z:Sls):CS:=⟨a.v,a.i,a.pc,z.sk,z.M,z.G,a.hi,(a.msk:Int),z.K,a.dl,a.sd,z.P,a.pt,z.fl,z.L,(a.rd:Int)⟩
structure RS(N:Nat)(w:World)(z:Sls)(a:AS):Prop where
 sk:oT 0 w z.sk.A z.sk.n z.sk.c a.sk
 M:∃ad c,z.M=⟨some ad,65536,c⟩∧Rm ad a.M w
 G:∃A cap gs,z.G=⟨A,4,cap⟩∧Px4 N A gs a.F w
 K:Evs w z.K.A z.K.n a.ks
 P:Rd w z.P.A a.P∧a.P.length=z.P.n
 fl:z.fl.n=16∧Rd w z.fl.A (cC a.fl)
 L:Rd w z.L.A a.L∧a.L.length=z.L.n
section
variable {N:Nat} {w w':World} {z:Sls} {a:AS}
theorem RS.step(h:RS N w z a)(b:Below w.heap.size w w'):RS N w' z a:=by
 obtain⟨ad,c,e,r⟩:=h.M;obtain⟨A,cap,gs,e2,p⟩:=h.G;exact⟨h.sk.below b,⟨ad,c,e,r.step b⟩,⟨A,cap,gs,e2,p.step b⟩,h.K.step b,⟨h.P.1.below b,h.P.2⟩,⟨h.fl.1,h.fl.2.below b⟩,⟨h.L.1.below b,h.L.2⟩⟩
theorem RS.setG(h:RS N w z a){A:Option Addr}{cap:Nat}{gs:List Nat}{F:Nat→Nat→Bool}(p:Px4 N A gs F w)(hi:Bool)(m:Nat):RS N w {z with G:=⟨A,4,cap⟩} {a with F:=F,hi:=hi,msk:=m}:=
 ⟨h.sk,h.M,⟨A,cap,gs,rfl,p⟩,h.K,h.P,h.fl,h.L⟩
theorem RS.setM(h:RS N w z a){ad:Addr}{c:Nat}{M:List Int}(p:Rm ad M w):RS N w {z with M:=⟨some ad,65536,c⟩} {a with M:=M}:=
 ⟨h.sk,⟨ad,c,rfl,p⟩,h.G,h.K,h.P,h.fl,h.L⟩
theorem RS.setMi(h:RS N w z a){ad:Addr}{c:Nat}{M:List Int}(p:Rm ad M w)(i:Int):RS N w {z with M:=⟨some ad,65536,c⟩} {a with M:=M,i:=i}:=
 ⟨h.sk,⟨ad,c,rfl,p⟩,h.G,h.K,h.P,h.fl,h.L⟩
theorem RS.setP(h:RS N w z a){A:Option Addr}{n c:Nat}{L:List Int}(p:Rd w A L)(e:L.length=n):RS N w {z with P:=⟨A,n,c⟩} {a with P:=L}:=
 ⟨h.sk,h.M,h.G,h.K,⟨p,e⟩,h.fl,h.L⟩
theorem RS.setF(h:RS N w z a){A:Option Addr}{c:Nat}{f:Nat→Int}(p:Rd w A (cC f)):RS N w {z with fl:=⟨A,16,c⟩} {a with fl:=f}:=
 ⟨h.sk,h.M,h.G,h.K,h.P,⟨rfl,p⟩,h.L⟩
theorem RS.setS(h:RS N w z a){A:Option Addr}{n c:Nat}{L:List Int}(p:oT 0 w A n c L)(pc:Int):RS N w {z with sk:=⟨A,n,c⟩} {a with sk:=L,pc:=pc}:=
 ⟨p,h.M,h.G,h.K,h.P,h.fl,h.L⟩
theorem RS.nums(h:RS N w z a)(v:Nat→Nat)(i pc:Int)(hi:Bool)(m d s pt rd:Nat):RS N w z {a with v:=v,i:=i,pc:=pc,hi:=hi,msk:=m,dl:=d,sd:=s,pt:=pt,rd:=rd}:=
 ⟨h.sk,h.M,h.G,h.K,h.P,h.fl,h.L⟩
end
def FrS(w:World)(s:Sl):Prop:=∀ad,s.A=some ad→w.heap.size≤ad.block
structure Fr(w:World)(z z':Sls):Prop where
 sk:(z'.sk.A=z.sk.A∧z'.sk.n≤z.sk.n)∨FrS w z'.sk
 K:z'.K=z.K
 L:z'.L=z.L
 M:z'.M=z.M∨FrS w z'.M
 P:z'.P=z.P∨FrS w z'.P
 fl:z'.fl=z.fl∨FrS w z'.fl
 G:FA z.G.A z'.G.A w.heap.size
theorem Fr.refl(w:World)(z:Sls):Fr w z z:=⟨.inl ⟨rfl,zH _⟩,rfl,rfl,.inl rfl,.inl rfl,.inl rfl,.inl rfl⟩
theorem Fr.trans{w w1:World}{z z1 z2:Sls}(h:Fr w z z1)(k:Fr w1 z1 z2)(hs:w.heap.size≤w1.heap.size):Fr w z z2:=by
 have up:∀s,FrS w1 s→FrS w s:=fun s f ad e=>zD hs (f ad e);exact⟨k.sk.elim (fun e=>h.sk.elim (fun e2=> .inl ⟨e.1.trans e2.1,zD e.2 e2.2⟩) (fun f=> .inr (fun ad ea=>f ad (e.1▸ea)))) (fun f=> .inr (up _ f)),k.K.trans h.K,k.L.trans h.L,k.M.elim (fun e=>e▸h.M) (fun f=> .inr (up _ f)),k.P.elim (fun e=>e▸h.P) (fun f=> .inr (up _ f)),k.fl.elim (fun e=>e▸h.fl) (fun f=> .inr (up _ f)),h.G.trans k.G hs⟩
theorem Fr.low{w w1:World}{z z':Sls}(h:Fr w1 z z')(hs:w.heap.size≤w1.heap.size):Fr w z z':=(Fr.refl w z).trans h hs
def vA(N:Nat)(z:Sls)(a:AS)(w:World)(e:Ending)(w':World):Prop:=∃z',e=.returned (.agg (cst (mT a z')))∧RS N w' z' a∧Below w.heap.size w w'∧Fr w z z'
theorem vA.mk{N:Nat}{z:Sls}{a:AS}{w:World}{e:Ending}{w':World}(z':Sls)(h:e=.returned (.agg (cst (mT a z'))))(r:RS N w' z' a)(b:Below w.heap.size w w')(f:Fr w z z'):vA N z a w e w':=⟨z',h,r,b,f⟩
structure DI(w:World)(g:Nat)(s z:CS)(i:Ins)(w1:World):Prop where
 s:Blk g 43 (cst s) w1
 i:Blk (g+1) 47 (lI i) w1
 o:Blk (g+1+1) 43 (cst z) w1
 low:Below w.heap.size w w1
 at_:w.heap.size≤g
section
variable {w w1 w2:World} {g:Nat} {s s' z:CS} {i:Ins}
theorem DI.new(w:World)(s z:CS)(i:Ins):DI w w.heap.size s z i (((w.alloc (.cells (cst s) 43)).alloc (.cells (lI i) 47)).alloc (.cells (cst z) 43)):=by
 have D:=D2.new w s i;refine⟨D.s.alloc _,D.i.alloc _,?_,D.low.alloc zBS _,zH _⟩;have h:=Blk.new ((w.alloc (.cells (cst s) 43)).alloc (.cells (lI i) 47)) 43 (cst z);rw[zR,zR]at h;exact h
theorem DI.step(h:DI w g s z i w1)(hb:Below w1.heap.size w1 w2):DI w g s z i w2:=⟨h.s.step hb,h.i.step hb,h.o.step hb,h.low.trans (hb.mono h.low.size),h.at_⟩
theorem DI.row(h:DI w g s z i w1):DI w g s' z i (w1.setRow g (cst s')):=⟨h.s.store _,h.i.otherRow zBY _,h.o.otherRow zBY _,lU h.low h.at_ _,h.at_⟩
theorem DI.put(h:DI w g s z i w1)(k:Nat)(v:Value)(e:(cst s).setIfInBounds k v=cst s'):DI w g s' z i (w1.setCell ⟨g,k,none⟩ v):=
 ⟨(h.s.put k _).eq e,h.i.other zBY k _,h.o.other zBY k _,h.low.trans ((Below.setCell (zB _ _) h.at_ _)),h.at_⟩
theorem DQ.put{q:Pr}(h:DQ w g s z i q w1)(k:Nat)(v:Value)(e:(cst s).setIfInBounds k v=cst s'):DQ w g s' z i q (w1.setCell ⟨g,k,none⟩ v):=
 ⟨(h.s.put k _).eq e,h.i.other zBY k _,h.p.other zBY k _,h.o.other zBY k _,h.low.trans ((Below.setCell (zB _ _) h.at_ _)),h.at_⟩
end
theorem Rm.away{ad:Addr}{M:List Int}{w w':World}(h:Rm ad M w){g:Nat}(hg:ad.block≠g)(hs:w.heap.size≤w'.heap.size)(hk:∀k,k≠g→w'.heap[k]?=w.heap[k]?):Rm ad M w':=
 ⟨zS h.1 hs,fun j hj=>by
  rw[←h.2 j hj];exact qM (by rw[cP];exact hk _ hg)⟩
def rA(n:Nat)(f:Nat→Value):Array Value:=((List.range n).map f).toArray
section
variable {n:Nat} {f h:Nat→Value}
theorem uJ:(rA n f).size=n:=by simp[rA]
theorem dU{j:Nat}(hj:j<n):(rA n f)[j]?=some (f j):=by simp[rA,hj]
theorem zK4{j:Nat}(hj:n≤j):(rA n f)[j]?=none:=by simp[rA];omega
theorem TU{c:Array Value}(hs:c.size=n)(hc:∀j,j<n→c[j]?=some (f j)):c=rA n f:=by
 apply qH
 intro j
 by_cases hj:j<n
 ·rw[hc j hj,dU hj]
 ·rw[zK4 zBY,zE zBY]
theorem bV(k:Nat)(v:Value)(e:∀j,j<n→h j=if j=k then v else f j):(rA n f).setIfInBounds k v=rA n h:=TU (by simp[rA]) fun j hj=>by
 rw[jJ,uJ,e j hj];by_cases hk:k=j
 ·subst hk;rw[zG rfl,zG hj,zG rfl]
 ·rw[zL hk,zL (fun c=>hk c.symm),dU hj]
theorem tW{o m:Nat}{c:Array Value}(hm:c.size=m)(ho:o+m≤n)(e:∀j,j<m→c[j]?=some (f (o+j))):(rA n f).extract o (o+m)=c:=by
 apply qH
 intro j
 rw[lV,uJ];by_cases hj:j<m
 ·rw[zG zBY,dU zBY,e j hj]
 ·rw[zL zBY,zE zBY]
theorem cR{o:Nat}{c:Array Value}(ho:o+c.size≤n)(e1:∀j,j<c.size→c[j]?=some (h (o+j)))(e2:∀j,j<n→(j<o∨o+c.size≤j)→f j=h j):m3 (rA n f) o c=rA n h:=by
 refine TU ?_ fun j hj=>?_
 ·unfold m3;simp[rA];omega
 ·unfold m3;rw[zX];by_cases h1:j<o
  ·rw[lH,qA (by simp[rA];omega),List.getElem?_take_of_lt h1,jY,dU hj,e2 j hj (.inl h1)]
  ·by_cases h2:j<o+c.size
   ·rw[lH,qP (by simp[rA];omega),qA (by simp[rA];omega)];have hl:((rA n f).toList.take o).length=o:=by simp[rA];omega
    rw[hl,jY,e1 (j-o) zBY];congr 2
    omega
   ·rw[qP (by simp[rA];omega)];have hl:((rA n f).toList.take o++c.toList).length=o+c.size:=by simp[rA];omega
    rw[hl,kO,jY,show o+c.size+(j-(o+c.size))=j by omega,dU hj,e2 j hj (.inr zBY)]
end
def dnA(l:List Ev):Nat→Bool:=fun k=>dn l (k:Int)
def scA(a:AS):Sc:=⟨fun i=>fwd (a.F i),a.hi,(a.msk:Int)⟩
def ptA(a:AS):Nat→Int:=fun j=>a.P.getD j 0
def xB(a:AS)(m g j:Nat):Value:=
 if j<16 then .int .u8 (a.v j:Int)else if j=16 then .int .i64 a.i else if j=17 then .int .i64 a.pc else
 if j<34 then .int .i64 (stF a.sk (j-18))else if j=34 then .int .i64 (a.sk.length:Int)else if j=35 then .pointer (some ⟨m,0,none⟩)else
 if j<550 then wU (scA a) (j-36)else if j<566 then .bool (dnA a.ks (j-550))else if j=566 then .int .u8 (a.dl:Int)else if j=567 then .int .u8 (a.sd:Int)else
 if j<584 then .int .u8 (ptA a (j-568))else if j=584 then .int .u8 (a.pt:Int)else if j<601 then .int .u8 (a.fl (j-585))else .pointer (some ⟨g,0,none⟩)
def stC(a:AS)(m g:Nat):Array Value:=rA 602 (xB a m g)
theorem zY2:xX Tryz.prog 84 602:=⟨⟨_,Tryz.underlying84,rfl⟩,by kernel_rfl⟩
section
variable (a:AS) (m g:Nat)
theorem m9:(stC a m g).size=602:=uJ
theorem nJ{j:Nat}(hj:j<602):(stC a m g)[j]?=some (xB a m g j):=dU hj
theorem one_if{p:Prop}[Decidable p]{x y:Value}(hx:x.oneCell'=true)(hy:y.oneCell'=true):(if p then x else y).oneCell'=true:=by split<;>assumption
theorem zLP:cL (stC a m g):=by
 unfold cL stC rA;rw[jV];intro v hv;simp only[lF,jR,j8]at hv;obtain⟨j,_,rfl⟩:=hv;unfold xB wU;repeat' (first|rfl|refine one_if ?_ ?_)
theorem dY{j:Nat}(h:j<16):xB a m g j=.int .u8 (a.v j:Int):=by unfold xB;rw[zG h]
theorem dL:xB a m g 16=.int .i64 a.i:=rfl
theorem zYK:xB a m g 17=.int .i64 a.pc:=rfl
theorem YX:xB a m g 34=.int .i64 (a.sk.length:Int):=rfl
theorem aJ:xB a m g 35=.pointer (some ⟨m,0,none⟩):=rfl
theorem SN:xB a m g 566=.int .u8 (a.dl:Int):=rfl
theorem zYX:xB a m g 567=.int .u8 (a.sd:Int):=rfl
theorem MX:xB a m g 584=.int .u8 (a.pt:Int):=rfl
theorem zJ7:xB a m g 601=.pointer (some ⟨g,0,none⟩):=rfl
theorem YJ{j:Nat}(h:j<16):xB a m g (18+j)=.int .i64 (stF a.sk j):=by
 unfold xB;rw[zL zBY,zL zBY,zL zBY,zG zBY,show 18+j-18=j by omega]
theorem aZ{j:Nat}(h:j<514):xB a m g (36+j)=wU (scA a) j:=by
 unfold xB;rw[zL zBY,zL zBY,zL zBY,zL zBY,zL zBY,zL zBY,zG zBY,show 36+j-36=j by omega]
theorem ZE{j:Nat}(h:j<16):xB a m g (550+j)=.bool (dnA a.ks j):=by
 unfold xB;rw[zL zBY,zL zBY,zL zBY,zL zBY,zL zBY,zL zBY,zL zBY,zG zBY,show 550+j-550=j by omega]
theorem aX{j:Nat}(h:j<16):xB a m g (568+j)=.int .u8 (ptA a j):=by
 unfold xB;rw[zL zBY,zL zBY,zL zBY,zL zBY,zL zBY,zL zBY,zL zBY,zL zBY,zL zBY,zL zBY,zG zBY,show 568+j-568=j by omega]
theorem MK{j:Nat}(h:j<16):xB a m g (585+j)=.int .u8 (a.fl j):=by
 unfold xB;rw[zL zBY,zL zBY,zL zBY,zL zBY,zL zBY,zL zBY,zL zBY,zL zBY,zL zBY,zL zBY,zL zBY,zL zBY,zG zBY,show 585+j-585=j by omega]
theorem zKX:(stC a m g).extract 0 (0+16)=rg a.v:=tW (mK _) zBY fun j hj=>by rw[gJ _ hj,qB,dY a m g hj]
theorem fW:(stC a m g).extract 18 (18+17)=nS a.sk:=tW (nQ _) zBY fun j hj=>by
 unfold nS;rw[xG _ _ _ hj];by_cases h:j<16
 ·rw[zG h,YJ a m g h]
 ·rw[zL h,show 18+j=34 by omega,YX]
theorem rL:(stC a m g).extract 36 (36+514)=lO (scA a):=tW (mV _) zBY fun j hj=>by rw[vM _ _ hj,aZ a m g hj]
theorem zLS:(stC a m g).extract 550 (550+16)=kc (dnA a.ks):=tW (vF _) zBY fun j hj=>by rw[ZG _ _ hj,ZE a m g hj]
theorem YA:(stC a m g).extract 568 (568+17)=ac (ptA a) (a.pt:Int):=tW (cQ _ _) zBY fun j hj=>by
 by_cases h:j<16
 ·rw[ZO _ _ _ h,aX a m g h]
 ·obtain rfl:j=16:=by omega
  simp[ac,MX]
theorem F9:(stC a m g).extract 585 (585+16)=pc a.fl:=tW (nX _) zBY fun j hj=>by rw[rD _ _ hj,MK a m g hj]
end
theorem cD(a b:AS)(m g:Nat)(j:Nat)(hv:j<16→a.v j=b.v j)(hi:j=16→a.i=b.i)(hp:j=17→a.pc=b.pc)(hs:18≤j∧j≤34→a.sk=b.sk)(hc:36≤j∧j<550→scA a=scA b)(hk:550≤j∧j<566→dnA a.ks=dnA b.ks)(hd:j=566→a.dl=b.dl)(ht:j=567→a.sd=b.sd)
  (hP:568≤j∧j<584→ptA a=ptA b) (hq:j=584→a.pt=b.pt) (hf:585≤j∧j<601→a.fl=b.fl):xB a m g j=xB b m g j:=by
 unfold xB;by_cases h1:j<16
 ·rw[zG h1,zG h1,hv h1]
 rw[zL h1,zL h1];by_cases h2:j=16
 ·rw[zG h2,zG h2,hi h2]
 rw[zL h2,zL h2];by_cases h3:j=17
 ·rw[zG h3,zG h3,hp h3]
 rw[zL h3,zL h3];by_cases h4:j<34
 ·rw[zG h4,zG h4,hs zBY]
 rw[zL h4,zL h4];by_cases h5:j=34
 ·rw[zG h5,zG h5,hs zBY]
 rw[zL h5,zL h5];by_cases h6:j=35
 ·rw[zG h6,zG h6]
 rw[zL h6,zL h6];by_cases h7:j<550
 ·rw[zG h7,zG h7,hc zBY]
 rw[zL h7,zL h7];by_cases h8:j<566
 ·rw[zG h8,zG h8,hk zBY]
 rw[zL h8,zL h8];by_cases h9:j=566
 ·rw[zG h9,zG h9,hd h9]
 rw[zL h9,zL h9];by_cases h10:j=567
 ·rw[zG h10,zG h10,ht h10]
 rw[zL h10,zL h10];by_cases h11:j<584
 ·rw[zG h11,zG h11,hP zBY]
 rw[zL h11,zL h11];by_cases h12:j=584
 ·rw[zG h12,zG h12,hq h12]
 rw[zL h12,zL h12];by_cases h13:j<601
 ·rw[zG h13,zG h13,hf zBY]
 rw[zL h13,zL h13]
section
variable (a:AS) (m g:Nat)
theorem RN(v:Nat→Nat):m3 (stC a m g) 0 (rg v)=stC {a with v:=v} m g:=cR (by rw[mK];omega) (fun j hj=>by rw[mK]at hj;rw[gJ _ hj,qB,dY _ m g hj]) fun j hj h=>by
 rw[mK]at h;exact cD _ _ _ _ _ zBY (fun _=>rfl) (fun _=>rfl) (fun _=>rfl) (fun _=>rfl) (fun _=>rfl) (fun _=>rfl) (fun _=>rfl) (fun _=>rfl) (fun _=>rfl) (fun _=>rfl)
theorem dE(k r:Nat)(hk:k<16):(stC a m g).setIfInBounds k (.int .u8 (r:Int))=stC {a with v:=Cpu.upd a.v k r} m g:=bV _ _ fun j hj=>by
 by_cases e:j=k
 ·subst e;rw[zG rfl,dY _ m g hk];unfold Cpu.upd;simp
 ·rw[zL e];exact cD _ _ _ _ _ (fun _=>by simp[Cpu.upd,e]) (fun _=>rfl) (fun _=>rfl) (fun _=>rfl) (fun _=>rfl) (fun _=>rfl) (fun _=>rfl) (fun _=>rfl) (fun _=>rfl) (fun _=>rfl) (fun _=>rfl)
theorem dC(i:Int):(stC a m g).setIfInBounds 16 (.int .i64 i)=stC {a with i:=i} m g:=bV _ _ fun j hj=>by
 by_cases e:j=16
 ·subst e;rw[zG rfl,dL]
 ·rw[zL e];exact cD _ _ _ _ _ (fun _=>rfl) (fun c=>absurd c e) (fun _=>rfl) (fun _=>rfl) (fun _=>rfl) (fun _=>rfl) (fun _=>rfl) (fun _=>rfl) (fun _=>rfl) (fun _=>rfl) (fun _=>rfl)
theorem NC(i:Int):(stC a m g).setIfInBounds 17 (.int .i64 i)=stC {a with pc:=i} m g:=bV _ _ fun j hj=>by
 by_cases e:j=17
 ·subst e;rw[zG rfl,zYK]
 ·rw[zL e];exact cD _ _ _ _ _ (fun _=>rfl) (fun _=>rfl) (fun c=>absurd c e) (fun _=>rfl) (fun _=>rfl) (fun _=>rfl) (fun _=>rfl) (fun _=>rfl) (fun _=>rfl) (fun _=>rfl) (fun _=>rfl)
theorem zZJ(d:Nat):(stC a m g).setIfInBounds 566 (.int .u8 (d:Int))=stC {a with dl:=d} m g:=bV _ _ fun j hj=>by
 by_cases e:j=566
 ·subst e;rw[zG rfl,SN]
 ·rw[zL e];exact cD _ _ _ _ _ (fun _=>rfl) (fun _=>rfl) (fun _=>rfl) (fun _=>rfl) (fun _=>rfl) (fun _=>rfl) (fun c=>absurd c e) (fun _=>rfl) (fun _=>rfl) (fun _=>rfl) (fun _=>rfl)
theorem zZZ(d:Nat):(stC a m g).setIfInBounds 567 (.int .u8 (d:Int))=stC {a with sd:=d} m g:=bV _ _ fun j hj=>by
 by_cases e:j=567
 ·subst e;rw[zG rfl,zYX]
 ·rw[zL e];exact cD _ _ _ _ _ (fun _=>rfl) (fun _=>rfl) (fun _=>rfl) (fun _=>rfl) (fun _=>rfl) (fun _=>rfl) (fun _=>rfl) (fun c=>absurd c e) (fun _=>rfl) (fun _=>rfl) (fun _=>rfl)
theorem F6(d s:Nat):m3 (stC a m g) 566 #[.int .u8 (d:Int),.int .u8 (s:Int)]=stC {a with dl:=d,sd:=s} m g:=cR (by show 566+2≤602;omega) (fun j hj=>by rcases(show j=0∨j=1 by simp at hj;omega)with rfl|rfl<;>rfl) fun j hj h=>by
 have h:j<566∨568≤j:=h;exact cD _ _ _ _ _ (fun _=>rfl) (fun _=>rfl) (fun _=>rfl) (fun _=>rfl) (fun _=>rfl) (fun _=>rfl) zBY zBY (fun _=>rfl) (fun _=>rfl) (fun _=>rfl)
theorem aS(L:List Int):m3 (stC a m g) 18 (nS L)=stC {a with sk:=L} m g:=cR (by rw[nQ];omega) (fun j hj=>by
  rw[nQ]at hj;unfold nS;rw[xG _ _ _ hj];by_cases h:j<16
  ·rw[zG h,YJ _ m g h]
  ·rw[zL h,show 18+j=34 by omega,YX]) fun j hj h=>by
 rw[nQ]at h;exact cD _ _ _ _ _ (fun _=>rfl) (fun _=>rfl) (fun _=>rfl) zBY (fun _=>rfl) (fun _=>rfl) (fun _=>rfl) (fun _=>rfl) (fun _=>rfl) (fun _=>rfl) (fun _=>rfl)
theorem yG(F:Nat→Nat→Bool)(hi:Bool)(msk:Nat){c:Array Value}(hc:c=lO ⟨fun i=>fwd (F i),hi,(msk:Int)⟩):m3 (stC a m g) 36 c=stC {a with F:=F,hi:=hi,msk:=msk} m g:=by
 subst hc;exact cR zRU (fun j hj=>by
  rw[mV]at hj;rw[vM _ _ hj,aZ _ m g hj];rfl) fun j hj h=>by
  rw[mV]at h;exact cD _ _ _ _ _ (fun _=>rfl) (fun _=>rfl) (fun _=>rfl) (fun _=>rfl) zBY (fun _=>rfl) (fun _=>rfl) (fun _=>rfl) (fun _=>rfl) (fun _=>rfl) (fun _=>rfl)
theorem F7(ks:List Ev){K:Nat→Bool}(hK:∀j,j<16→K j=dnA ks j):m3 (stC a m g) 550 (kc K)=stC {a with ks:=ks} m g:=cR (by rw[vF];omega) (fun j hj=>by
  rw[vF]at hj;rw[ZG _ _ hj,ZE _ m g hj,hK j hj]) fun j hj h=>by
 rw[vF]at h;exact cD _ _ _ _ _ (fun _=>rfl) (fun _=>rfl) (fun _=>rfl) (fun _=>rfl) (fun _=>rfl) zBY (fun _=>rfl) (fun _=>rfl) (fun _=>rfl) (fun _=>rfl) (fun _=>rfl)
theorem J6(P:List Int)(pt:Nat){Q:Nat→Int}(hQ:∀j,j<16→Q j=P.getD j 0):m3 (stC a m g) 568 (ac Q (pt:Int))=stC {a with P:=P,pt:=pt} m g:=cR zTY (fun j hj=>by
  rw[cQ]at hj;by_cases h:j<16
  ·rw[ZO _ _ _ h,aX _ m g h,hQ j h];rfl
  ·obtain rfl:j=16:=by omega
   simp[ac,MX]) fun j hj h=>by
 rw[cQ]at h;exact cD _ _ _ _ _ (fun _=>rfl) (fun _=>rfl) (fun _=>rfl) (fun _=>rfl) (fun _=>rfl) (fun _=>rfl) (fun _=>rfl) (fun _=>rfl) zBY zBY (fun _=>rfl)
theorem NP(f:Nat→Int):m3 (stC a m g) 585 (pc f)=stC {a with fl:=f} m g:=cR zTD (fun j hj=>by
  rw[nX]at hj;rw[rD _ _ hj,MK _ m g hj]) fun j hj h=>by
 rw[nX]at h;exact cD _ _ _ _ _ (fun _=>rfl) (fun _=>rfl) (fun _=>rfl) (fun _=>rfl) (fun _=>rfl) (fun _=>rfl) (fun _=>rfl) (fun _=>rfl) (fun _=>rfl) (fun _=>rfl) zBY
end
end
end Go.Proofs.YtcjldabaekbdlaaGreatDoor
