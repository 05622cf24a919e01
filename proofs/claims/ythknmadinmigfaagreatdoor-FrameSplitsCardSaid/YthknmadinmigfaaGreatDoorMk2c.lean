/- ScrRefD, CpuRef5, CpuRef6, CpuAS, CpuReal, CpuRef7, CpuRef8, CpuRef8b, CpuRef9, CpuEx, CpuRef11, CpuRef12, DecLaw, CpuOk, CpuRC. -/
import Derived.Test.YthknmadinmigfaaGreatDoorMk2b
set_option maxRecDepth 400000
set_option maxHeartbeats 64000000
set_option linter.unusedVariables false
set_option linter.unusedSimpArgs false
namespace Go.Proofs.YthknmadinmigfaaGreatDoor
section
open Go.RowKit Go.Shelf Num
section
variable (G:Nat→Nat) (F:Nat→Nat→Bool) (M n:Nat) (big clip:Bool) (x y m h N:Nat)
def spK(k:Nat):Nat→Bool:=zX2 (nth (pR G (if big then 16 else n) (if big then 2 else 1) (yY M n big k))) (if big then 16 else n) ((if big then 2 else 1)*8) (x%m) (y%h) m h clip
def drK(k i:Nat):Nat→Bool:=if i<k∧onB M i=true then fun t=>F i t^^spK G M n big clip x y m h i t else F i
def hiK:Nat→Bool
 |0=>false
 |k+1=>if onB M k then hiK k||phitTo (fun t=>F k t&&spK G M n big clip x y m h k t) N else hiK k
end
def DatR(A:Option Addr)(n:Nat)(G:Nat→Nat)(w:World):Prop:=0<n→∃ad,A=some ad∧ad.block<w.heap.size∧∀j,j<n→w.cell? (ad.add j)=some (.int .u8 (G j:Int))
theorem DatR.step{A:Option Addr}{n:Nat}{G:Nat→Nat}{w w':World}(h:DatR A n G w)(hb:Below w.heap.size w w'):DatR A n G w':=fun hn=>by
 obtain⟨ad,h1,h2,h3⟩:=h hn;exact⟨ad,h1,zF h2 hb.size,fun j hj=>(hb.cell (p:=ad.add j) (by unfold Addr.add;split<;>exact h2)).trans (h3 j hj)⟩
end
section
open Go.RowKit Num Dec Cpu
structure Px4(N:Nat)(A:Option Addr)(gs:List Nat)(F:Nat→Nat→Bool)(w:World):Prop where
 len:gs.length=4
 row:Row (encP N) w A gs
 px:∀i,i<4→Pxs (gs.getD i 0) (F i) w
theorem Px4.step{N:Nat}{A:Option Addr}{gs:List Nat}{F:Nat→Nat→Bool}{w w':World}(h:Px4 N A gs F w)(hb:Below w.heap.size w w'):Px4 N A gs F w':=
 ⟨h.len,h.row.below hb,fun i hi=>(h.px i hi).step hb⟩
def byC(M:List Int)(a:Int)(j:Nat):Nat:=(M.getD ((a+(j:Int))%65536).toNat 0).toNat
def Bts(M:List Int):Prop:=∀k (h:k<M.length),0≤M[k]∧M[k]≤255
theorem R9{M:List Int}(h:Bts M)(a:Int)(j:Nat):byC M a j≤255:=by
 unfold byC;rw[qV];by_cases hk:((a+(j:Int))%65536).toNat<M.length
 ·rw[zP hk];have:=h _ hk;simp;omega
 ·rw[qW zLS];simp
theorem seg_at{M:List Int}(hB:Bts M)(hM:M.length=65536)(a:Int)(n j:Nat)(hj:j<n):(seg M a n)[j]?=some (byC M a j:Int):=by
 rw[wC M a n j hM hj];have hk:((a+(j:Int))%65536).toNat<M.length:=zLS;unfold byC;rw[qV,zP hk];have:=hB _ hk;simp;omega
theorem Z6{w w':World}{b:Nat}(h:w'.heap[b]?=w.heap[b]?)(o:Nat):w'.cell? ⟨b,o,none⟩=w.cell? ⟨b,o,none⟩:=by
 simp only[World.cell?,h]
theorem XM{w w':World}{b:Nat}(h:w'.heap[b]?=w.heap[b]?)(o:Nat):w'.frozen? ⟨b,o,none⟩=w.frozen? ⟨b,o,none⟩:=by
 simp only[World.frozen?,h]

structure AS where
 v:Nat→Nat
 i:Int
 pc:Int
 sk:List Int
 M:List Int
 F:Nat→Nat→Bool
 hi:Bool
 msk:Nat
 ks:List Ev
 dl:Nat
 sd:Nat
 P:List Int
 pt:Nat
 fl:Nat→Int
 L:List Int
 rd:Nat
structure OkA(a:AS):Prop where
 v:OkV a.v
 i:0≤a.i∧a.i≤65535
 pc:0≤a.pc∧a.pc≤65535
 sk:a.sk.length≤16
 M:a.M.length=65536
 B:Bts a.M
 msk:a.msk≤15
 ks:a.ks.length≤1000
 dl:a.dl<256
 sd:a.sd<256
 P:a.P.length=16
 pt:a.pt<256
 fl:∀j,j<16→0≤a.fl j∧a.fl j≤255
 L:a.L.length≤100000
 LB:Bts a.L
 rd:a.rd≤1000000000
def rwN(hi:Bool):Nat:=if hi=true then 128 else 64
def rhN(hi:Bool):Nat:=if hi=true then 64 else 32
def ldN(v:Nat→Nat)(r:List Int)(B:Nat→Nat):Nat→Nat→Nat
 |0=>v
 |k+1=>Cpu.upd (ldN v r B k) (r.getD k 0).toNat (B k)
def J8(c:Nat):List Int:=[((c/100:Nat):Int),((c/10%10:Nat):Int),((c%10:Nat):Int)]
def oB(a:AS)(op:Int)(x y k:Nat):AS:=
 if op=32 then{a with M:=put a.M a.i (J8 (a.v x))}else if op=33 then{a with M:=put a.M a.i (nP a.v k)}else if op=34 then{a with v:=ldN a.v (upL 0 k) (byC a.M a.i) k}else
 if op=46 then{a with M:=put a.M a.i ((wK x y).map fun r=>(a.v r.toNat:Int))}else if op=47 then{a with v:=ldN a.v (wK x y) (byC a.M a.i) k}else if op=50 then{a with P:=seg a.M a.i k}else a
def iL(a:AS)(op:Int)(x y k:Nat)(ki:Bool):AS:=
 if(op=33∨op=34)∧ki=false then{oB a op x y k with i:=(a.i+(k:Int))%65536}else oB a op x y k
def zXO(a:AS)(dx dy:Int):Nat→Nat→Bool:=fun i=>if onB a.msk i then eK (a.F i) dx dy (rwN a.hi) (rhN a.hi)else a.F i
def bA(a:AS)(op:Int)(n:Nat):AS:=
 if op=1 then{a with F:=fun i=>if onB a.msk i then fun _=>false else a.F i}else if op=35 then{a with F:=zXO a 0 (n:Int)}else if op=36 then{a with F:=zXO a 4 0}else
 if op=37 then{a with F:=zXO a (-4) 0}else if op=39 then{a with F:=fun _ _=>false,hi:=false}else if op=40 then{a with F:=fun _ _=>false,hi:=true}else
 if op=45 then{a with F:=zXO a 0 (-(n:Int))}else if op=49 then{a with msk:=n}else a
def X9(a:AS)(op:Int)(x nn:Nat)(addr:Int):AS:=
 if op=20∨op=48 then{a with i:=addr}else if op=22 then{a with v:=Cpu.upd a.v x ((nxt a.L a.rd).toNat&&&nn),rd:=a.rd+1}else if op=26 then{a with v:=Cpu.upd a.v x a.dl}else
 if op=28 then{a with dl:=a.v x}else if op=29 then{a with sd:=a.v x}else if op=30 then{a with i:=(a.i+(a.v x:Int))%65536}else
 if op=31 then{a with i:=80+5*((a.v x%16:Nat):Int)}else if op=42 then{a with i:=160+10*((a.v x%16:Nat):Int)}else
 if op=43 then{a with fl:=ov a.fl (nP a.v (x+1))}else if op=44 then{a with v:=ldN a.v (upL 0 (x+1)) (fun j=>(a.fl j).toNat) (x+1)}else
 if op=51 then{a with pt:=a.v x}else a
def u9(a:AS)(b:Bool)(lv:Int):AS:=if b=true then{a with pc:=(a.pc+skl (byC a.M a.pc 0) (byC a.M a.pc 1) lv)%65536}else a
def drawA(N:Nat)(a:AS)(op:Int)(x y n:Nat)(cl:Bool):AS:=
 {a with F:=drK (byC a.M a.i) a.F a.msk n (op==41) cl (a.v x) (a.v y) (rwN a.hi) (rhN a.hi) 4,v:=Cpu.upd a.v 15 (if hiK (byC a.M a.i) a.F a.msk n (op==41) cl (a.v x) (a.v y) (rwN a.hi) (rhN a.hi) N 4=true then 1 else 0)}
structure Sls where
 sk:Sl
 M:Sl
 G:Sl
 K:Sl
 P:Sl
 fl:Sl
 L:Sl
def zW8(a:AS)(z:Sls):CS:=⟨a.v,a.i,a.pc,z.sk,z.M,z.G,a.hi,(a.msk:Int),z.K,a.dl,a.sd,z.P,a.pt,z.fl,z.L,(a.rd:Int)⟩
structure RS(N:Nat)(w:World)(z:Sls)(a:AS):Prop where
 sk:IT 0 w z.sk.A z.sk.n z.sk.c a.sk
 M:∃ad c,z.M=⟨some ad,65536,c⟩∧Rm ad a.M w
 G:∃A cap gs,z.G=⟨A,4,cap⟩∧Px4 N A gs a.F w
 K:Evs w z.K.A z.K.n a.ks
 P:Rd w z.P.A a.P∧a.P.length=z.P.n
 fl:z.fl.n=16∧Rd w z.fl.A (yL a.fl)
 L:Rd w z.L.A a.L∧a.L.length=z.L.n
section
variable {N:Nat} {w w':World} {z:Sls} {a:AS}
theorem RS.step(h:RS N w z a)(b:Below w.heap.size w w'):RS N w' z a:=by
 obtain⟨ad,c,e,r⟩:=h.M;obtain⟨A,cap,gs,e2,p⟩:=h.G;exact⟨h.sk.below b,⟨ad,c,e,r.step b⟩,⟨A,cap,gs,e2,p.step b⟩,h.K.step b,⟨h.P.1.below b,h.P.2⟩,⟨h.fl.1,h.fl.2.below b⟩,⟨h.L.1.below b,h.L.2⟩⟩
theorem RS.setM(h:RS N w z a){ad:Addr}{c:Nat}{M:List Int}(p:Rm ad M w):RS N w {z with M:=⟨some ad,65536,c⟩} {a with M:=M}:=
 ⟨h.sk,⟨ad,c,rfl,p⟩,h.G,h.K,h.P,h.fl,h.L⟩
theorem RS.setP(h:RS N w z a){A:Option Addr}{n c:Nat}{L:List Int}(p:Rd w A L)(e:L.length=n):RS N w {z with P:=⟨A,n,c⟩} {a with P:=L}:=
 ⟨h.sk,h.M,h.G,h.K,⟨p,e⟩,h.fl,h.L⟩
theorem RS.nums(h:RS N w z a)(v:Nat→Nat)(i pc:Int)(hi:Bool)(m d s pt rd:Nat):RS N w z {a with v:=v,i:=i,pc:=pc,hi:=hi,msk:=m,dl:=d,sd:=s,pt:=pt,rd:=rd}:=
 ⟨h.sk,h.M,h.G,h.K,h.P,h.fl,h.L⟩
end
def FrS(w:World)(s:Sl):Prop:=∀ad,s.A=some ad→w.heap.size≤ad.block
structure Fr(w:World)(z z':Sls):Prop where
 sk:(z'.sk.A=z.sk.A∧z'.sk.n≤z.sk.n)∨FrS w z'.sk
 K:z'.K=z.K
 L:z'.L=z.L
 M:z'.M=z.M∨FrS w z'.M
 P:z'.P=z.P∨FrS w z'.P
 fl:z'.fl=z.fl∨FrS w z'.fl
 G:FA z.G.A z'.G.A w.heap.size
theorem Fr.refl(w:World)(z:Sls):Fr w z z:=⟨.inl ⟨rfl,zH _⟩,rfl,rfl,.inl rfl,.inl rfl,.inl rfl,.inl rfl⟩
theorem Fr.trans{w w1:World}{z z1 z2:Sls}(h:Fr w z z1)(k:Fr w1 z1 z2)(hs:w.heap.size≤w1.heap.size):Fr w z z2:=by
 have up:∀s,FrS w1 s→FrS w s:=fun s f ad e=>zR hs (f ad e);exact⟨k.sk.elim (fun e=>h.sk.elim (fun e2=> .inl ⟨e.1.trans e2.1,zR e.2 e2.2⟩) (fun f=> .inr (fun ad ea=>f ad (e.1▸ea)))) (fun f=> .inr (up _ f)),k.K.trans h.K,k.L.trans h.L,k.M.elim (fun e=>e▸h.M) (fun f=> .inr (up _ f)),k.P.elim (fun e=>e▸h.P) (fun f=> .inr (up _ f)),k.fl.elim (fun e=>e▸h.fl) (fun f=> .inr (up _ f)),h.G.trans k.G hs⟩
theorem Fr.low{w w1:World}{z z':Sls}(h:Fr w1 z z')(hs:w.heap.size≤w1.heap.size):Fr w z z':=(Fr.refl w z).trans h hs
def zLF(N:Nat)(z:Sls)(a:AS)(w:World)(e:Ending)(w':World):Prop:=∃z',e=.returned (.agg (cst (zW8 a z')))∧RS N w' z' a∧Below w.heap.size w w'∧Fr w z z'
theorem zLF.mk{N:Nat}{z:Sls}{a:AS}{w:World}{e:Ending}{w':World}(z':Sls)(h:e=.returned (.agg (cst (zW8 a z'))))(r:RS N w' z' a)(b:Below w.heap.size w w')(f:Fr w z z'):zLF N z a w e w':=⟨z',h,r,b,f⟩
section
variable {w w1 w2:World} {g:Nat} {s s' z:CS} {i:Ins}
end
theorem Rm.away{ad:Addr}{M:List Int}{w w':World}(h:Rm ad M w){g:Nat}(hg:ad.block≠g)(hs:w.heap.size≤w'.heap.size)(hk:∀k,k≠g→w'.heap[k]?=w.heap[k]?):Rm ad M w':=
 ⟨zF h.1 hs,fun j hj=>by
  rw[←h.2 j hj];exact qE (by rw[yV];exact hk _ hg)⟩
def yW(n:Nat)(f:Nat→Value):Array Value:=((List.range n).map f).toArray
section
variable {n:Nat} {f h:Nat→Value}
theorem vR:(yW n f).size=n:=by simp[yW]
theorem wX{j:Nat}(hj:j<n):(yW n f)[j]?=some (f j):=by simp[yW,hj]
theorem OZ{j:Nat}(hj:n≤j):(yW n f)[j]?=none:=by simp[yW];omega
theorem NX{c:Array Value}(hs:c.size=n)(hc:∀j,j<n→c[j]?=some (f j)):c=yW n f:=by
 apply qZ
 intro j
 by_cases hj:j<n
 ·rw[hc j hj,wX hj]
 ·rw[OZ zLS,zD zLS]
theorem wJ(k:Nat)(v:Value)(e:∀j,j<n→h j=if j=k then v else f j):(yW n f).setIfInBounds k v=yW n h:=NX (by simp[yW]) fun j hj=>by
 rw[qX,vR,e j hj];by_cases hk:k=j
 ·subst hk;rw[zN rfl,zN hj,zN rfl]
 ·rw[zL hk,zL (fun c=>hk c.symm),wX hj]
theorem cK{o m:Nat}{c:Array Value}(hm:c.size=m)(ho:o+m≤n)(e:∀j,j<m→c[j]?=some (f (o+j))):(yW n f).extract o (o+m)=c:=by
 apply qZ
 intro j
 rw[jD,vR];by_cases hj:j<m
 ·rw[zN zLS,wX zLS,e j hj]
 ·rw[zL zLS,zD zLS]
theorem nN{o:Nat}{c:Array Value}(ho:o+c.size≤n)(e1:∀j,j<c.size→c[j]?=some (h (o+j)))(e2:∀j,j<n→(j<o∨o+c.size≤j)→f j=h j):lM (yW n f) o c=yW n h:=by
 refine NX ?_ fun j hj=>?_
 ·unfold lM;simp[yW];omega
 ·unfold lM;rw[zX];by_cases h1:j<o
  ·rw[j9,qS (by simp[yW];omega),List.getElem?_take_of_lt h1,jJ,wX hj,e2 j hj (.inl h1)]
  ·by_cases h2:j<o+c.size
   ·rw[j9,qP (by simp[yW];omega),qS (by simp[yW];omega)];have hl:((yW n f).toList.take o).length=o:=by simp[yW];omega
    rw[hl,jJ,e1 (j-o) zLS];congr 2
    omega
   ·rw[qP (by simp[yW];omega)];have hl:((yW n f).toList.take o++c.toList).length=o+c.size:=by simp[yW];omega
    rw[hl,jF,jJ,show o+c.size+(j-(o+c.size))=j by omega,wX hj,e2 j hj (.inr zLS)]
end
def dnA(l:List Ev):Nat→Bool:=fun k=>dn l (k:Int)
def scA(a:AS):Sc:=⟨fun i=>fwd (a.F i),a.hi,(a.msk:Int)⟩
def ptA(a:AS):Nat→Int:=fun j=>a.P.getD j 0
def vW(a:AS)(m g j:Nat):Value:=
 if j<16 then .int .u8 (a.v j:Int)else if j=16 then .int .i64 a.i else if j=17 then .int .i64 a.pc else
 if j<34 then .int .i64 (stF a.sk (j-18))else if j=34 then .int .i64 (a.sk.length:Int)else if j=35 then .pointer (some ⟨m,0,none⟩)else
 if j<550 then yZ (scA a) (j-36)else if j<566 then .bool (dnA a.ks (j-550))else if j=566 then .int .u8 (a.dl:Int)else if j=567 then .int .u8 (a.sd:Int)else
 if j<584 then .int .u8 (ptA a (j-568))else if j=584 then .int .u8 (a.pt:Int)else if j<601 then .int .u8 (a.fl (j-585))else .pointer (some ⟨g,0,none⟩)
def stC(a:AS)(m g:Nat):Array Value:=yW 602 (vW a m g)
theorem zJE:nI Tryz.prog 70 602:=⟨⟨_,Tryz.underlying70,rfl⟩,by kernel_rfl⟩
section
variable (a:AS) (m g:Nat)
theorem lG:(stC a m g).size=602:=vR
theorem mK{j:Nat}(hj:j<602):(stC a m g)[j]?=some (vW a m g j):=wX hj
theorem one_if{p:Prop}[Decidable p]{x y:Value}(hx:x.oneCell'=true)(hy:y.oneCell'=true):(if p then x else y).oneCell'=true:=by split<;>assumption
theorem zXS:nU (stC a m g):=by
 unfold nU stC yW;rw[qC];intro v hv;simp only[kK,jV,jM]at hv;obtain⟨j,_,rfl⟩:=hv;unfold vW yZ;repeat' (first|rfl|refine one_if ?_ ?_)
theorem tB{j:Nat}(h:j<16):vW a m g j=.int .u8 (a.v j:Int):=by unfold vW;rw[zN h]
theorem rJ:vW a m g 16=.int .i64 a.i:=rfl
theorem zJJ:vW a m g 17=.int .i64 a.pc:=rfl
theorem Z9:vW a m g 34=.int .i64 (a.sk.length:Int):=rfl
theorem bN:vW a m g 35=.pointer (some ⟨m,0,none⟩):=rfl
theorem YM:vW a m g 566=.int .u8 (a.dl:Int):=rfl
theorem zJZ:vW a m g 567=.int .u8 (a.sd:Int):=rfl
theorem iP:vW a m g 584=.int .u8 (a.pt:Int):=rfl
theorem CJ:vW a m g 601=.pointer (some ⟨g,0,none⟩):=rfl
theorem Z7{j:Nat}(h:j<16):vW a m g (18+j)=.int .i64 (stF a.sk j):=by
 unfold vW;rw[zL zLS,zL zLS,zL zLS,zN zLS,show 18+j-18=j by omega]
theorem sU{j:Nat}(h:j<514):vW a m g (36+j)=yZ (scA a) j:=by
 unfold vW;rw[zL zLS,zL zLS,zL zLS,zL zLS,zL zLS,zL zLS,zN zLS,show 36+j-36=j by omega]
theorem Z8{j:Nat}(h:j<16):vW a m g (550+j)=.bool (dnA a.ks j):=by
 unfold vW;rw[zL zLS,zL zLS,zL zLS,zL zLS,zL zLS,zL zLS,zL zLS,zN zLS,show 550+j-550=j by omega]
theorem sI{j:Nat}(h:j<16):vW a m g (568+j)=.int .u8 (ptA a j):=by
 unfold vW;rw[zL zLS,zL zLS,zL zLS,zL zLS,zL zLS,zL zLS,zL zLS,zL zLS,zL zLS,zL zLS,zN zLS,show 568+j-568=j by omega]
theorem YL{j:Nat}(h:j<16):vW a m g (585+j)=.int .u8 (a.fl j):=by
 unfold vW;rw[zL zLS,zL zLS,zL zLS,zL zLS,zL zLS,zL zLS,zL zLS,zL zLS,zL zLS,zL zLS,zL zLS,zL zLS,zN zLS,show 585+j-585=j by omega]
theorem zY6:(stC a m g).extract 0 (0+16)=rg a.v:=cK (vK _) zLS fun j hj=>by rw[dG _ hj,qY,tB a m g hj]
theorem fP:(stC a m g).extract 18 (18+17)=mL a.sk:=cK (lD _) zLS fun j hj=>by
 unfold mL;rw[vX _ _ _ hj];by_cases h:j<16
 ·rw[zN h,Z7 a m g h]
 ·rw[zL h,show 18+j=34 by omega,Z9]
theorem xT:(stC a m g).extract 36 (36+514)=kE (scA a):=cK (lQ _) zLS fun j hj=>by rw[mN _ _ hj,sU a m g hj]
theorem QO:(stC a m g).extract 550 (550+16)=kc (dnA a.ks):=cK (vQ _) zLS fun j hj=>by rw[dR _ _ hj,Z8 a m g hj]
theorem d8:(stC a m g).extract 566 (566+2)=#[.int .u8 (a.dl:Int),.int .u8 (a.sd:Int)]:=cK rfl zLS fun j hj=>by
 rcases(show j=0∨j=1 by omega)with rfl|rfl<;>rfl
theorem eQ:(stC a m g).extract 568 (568+17)=ac (ptA a) (a.pt:Int):=cK (nV _ _) zLS fun j hj=>by
 by_cases h:j<16
 ·rw[dP _ _ _ h,sI a m g h]
 ·obtain rfl:j=16:=by omega
  simp[ac,iP]
theorem UF:(stC a m g).extract 585 (585+16)=pc a.fl:=cK (nX _) zLS fun j hj=>by rw[yT _ _ hj,YL a m g hj]
end
theorem nH(a b:AS)(m g:Nat)(j:Nat)(hv:j<16→a.v j=b.v j)(hi:j=16→a.i=b.i)(hp:j=17→a.pc=b.pc)(hs:18≤j∧j≤34→a.sk=b.sk)(hc:36≤j∧j<550→scA a=scA b)(hk:550≤j∧j<566→dnA a.ks=dnA b.ks)(hd:j=566→a.dl=b.dl)(ht:j=567→a.sd=b.sd)
  (hP:568≤j∧j<584→ptA a=ptA b) (hq:j=584→a.pt=b.pt) (hf:585≤j∧j<601→a.fl=b.fl):vW a m g j=vW b m g j:=by
 unfold vW;by_cases h1:j<16
 ·rw[zN h1,zN h1,hv h1]
 rw[zL h1,zL h1];by_cases h2:j=16
 ·rw[zN h2,zN h2,hi h2]
 rw[zL h2,zL h2];by_cases h3:j=17
 ·rw[zN h3,zN h3,hp h3]
 rw[zL h3,zL h3];by_cases h4:j<34
 ·rw[zN h4,zN h4,hs zLS]
 rw[zL h4,zL h4];by_cases h5:j=34
 ·rw[zN h5,zN h5,hs zLS]
 rw[zL h5,zL h5];by_cases h6:j=35
 ·rw[zN h6,zN h6]
 rw[zL h6,zL h6];by_cases h7:j<550
 ·rw[zN h7,zN h7,hc zLS]
 rw[zL h7,zL h7];by_cases h8:j<566
 ·rw[zN h8,zN h8,hk zLS]
 rw[zL h8,zL h8];by_cases h9:j=566
 ·rw[zN h9,zN h9,hd h9]
 rw[zL h9,zL h9];by_cases h10:j=567
 ·rw[zN h10,zN h10,ht h10]
 rw[zL h10,zL h10];by_cases h11:j<584
 ·rw[zN h11,zN h11,hP zLS]
 rw[zL h11,zL h11];by_cases h12:j=584
 ·rw[zN h12,zN h12,hq h12]
 rw[zL h12,zL h12];by_cases h13:j<601
 ·rw[zN h13,zN h13,hf zLS]
 rw[zL h13,zL h13]
section
variable (a:AS) (m g:Nat)
theorem UG(v:Nat→Nat):lM (stC a m g) 0 (rg v)=stC {a with v:=v} m g:=nN (by rw[vK];omega) (fun j hj=>by rw[vK]at hj;rw[dG _ hj,qY,tB _ m g hj]) fun j hj h=>by
 rw[vK]at h;exact nH _ _ _ _ _ zLS (fun _=>rfl) (fun _=>rfl) (fun _=>rfl) (fun _=>rfl) (fun _=>rfl) (fun _=>rfl) (fun _=>rfl) (fun _=>rfl) (fun _=>rfl) (fun _=>rfl)
theorem rR(k r:Nat)(hk:k<16):(stC a m g).setIfInBounds k (.int .u8 (r:Int))=stC {a with v:=Cpu.upd a.v k r} m g:=wJ _ _ fun j hj=>by
 by_cases e:j=k
 ·subst e;rw[zN rfl,tB _ m g hk];unfold Cpu.upd;simp
 ·rw[zL e];exact nH _ _ _ _ _ (fun _=>by simp[Cpu.upd,e]) (fun _=>rfl) (fun _=>rfl) (fun _=>rfl) (fun _=>rfl) (fun _=>rfl) (fun _=>rfl) (fun _=>rfl) (fun _=>rfl) (fun _=>rfl) (fun _=>rfl)
theorem d9(i:Int):(stC a m g).setIfInBounds 16 (.int .i64 i)=stC {a with i:=i} m g:=wJ _ _ fun j hj=>by
 by_cases e:j=16
 ·subst e;rw[zN rfl,rJ]
 ·rw[zL e];exact nH _ _ _ _ _ (fun _=>rfl) (fun c=>absurd c e) (fun _=>rfl) (fun _=>rfl) (fun _=>rfl) (fun _=>rfl) (fun _=>rfl) (fun _=>rfl) (fun _=>rfl) (fun _=>rfl) (fun _=>rfl)
theorem EH(i:Int):(stC a m g).setIfInBounds 17 (.int .i64 i)=stC {a with pc:=i} m g:=wJ _ _ fun j hj=>by
 by_cases e:j=17
 ·subst e;rw[zN rfl,zJJ]
 ·rw[zL e];exact nH _ _ _ _ _ (fun _=>rfl) (fun _=>rfl) (fun c=>absurd c e) (fun _=>rfl) (fun _=>rfl) (fun _=>rfl) (fun _=>rfl) (fun _=>rfl) (fun _=>rfl) (fun _=>rfl) (fun _=>rfl)
theorem EG(d:Nat):(stC a m g).setIfInBounds 566 (.int .u8 (d:Int))=stC {a with dl:=d} m g:=wJ _ _ fun j hj=>by
 by_cases e:j=566
 ·subst e;rw[zN rfl,YM]
 ·rw[zL e];exact nH _ _ _ _ _ (fun _=>rfl) (fun _=>rfl) (fun _=>rfl) (fun _=>rfl) (fun _=>rfl) (fun _=>rfl) (fun c=>absurd c e) (fun _=>rfl) (fun _=>rfl) (fun _=>rfl) (fun _=>rfl)
theorem EL(d:Nat):(stC a m g).setIfInBounds 567 (.int .u8 (d:Int))=stC {a with sd:=d} m g:=wJ _ _ fun j hj=>by
 by_cases e:j=567
 ·subst e;rw[zN rfl,zJZ]
 ·rw[zL e];exact nH _ _ _ _ _ (fun _=>rfl) (fun _=>rfl) (fun _=>rfl) (fun _=>rfl) (fun _=>rfl) (fun _=>rfl) (fun _=>rfl) (fun c=>absurd c e) (fun _=>rfl) (fun _=>rfl) (fun _=>rfl)
theorem VM(d s:Nat):lM (stC a m g) 566 #[.int .u8 (d:Int),.int .u8 (s:Int)]=stC {a with dl:=d,sd:=s} m g:=nN (by show 566+2≤602;omega) (fun j hj=>by rcases(show j=0∨j=1 by simp at hj;omega)with rfl|rfl<;>rfl) fun j hj h=>by
 have h:j<566∨568≤j:=h;exact nH _ _ _ _ _ (fun _=>rfl) (fun _=>rfl) (fun _=>rfl) (fun _=>rfl) (fun _=>rfl) (fun _=>rfl) zLS zLS (fun _=>rfl) (fun _=>rfl) (fun _=>rfl)
theorem aG(L:List Int):lM (stC a m g) 18 (mL L)=stC {a with sk:=L} m g:=nN (by rw[lD];omega) (fun j hj=>by
  rw[lD]at hj;unfold mL;rw[vX _ _ _ hj];by_cases h:j<16
  ·rw[zN h,Z7 _ m g h]
  ·rw[zL h,show 18+j=34 by omega,Z9]) fun j hj h=>by
 rw[lD]at h;exact nH _ _ _ _ _ (fun _=>rfl) (fun _=>rfl) (fun _=>rfl) zLS (fun _=>rfl) (fun _=>rfl) (fun _=>rfl) (fun _=>rfl) (fun _=>rfl) (fun _=>rfl) (fun _=>rfl)
theorem cH(F:Nat→Nat→Bool)(hi:Bool)(msk:Nat){c:Array Value}(hc:c=kE ⟨fun i=>fwd (F i),hi,(msk:Int)⟩):lM (stC a m g) 36 c=stC {a with F:=F,hi:=hi,msk:=msk} m g:=by
 subst hc;exact nN zMV (fun j hj=>by
  rw[lQ]at hj;rw[mN _ _ hj,sU _ m g hj];rfl) fun j hj h=>by
  rw[lQ]at h;exact nH _ _ _ _ _ (fun _=>rfl) (fun _=>rfl) (fun _=>rfl) (fun _=>rfl) zLS (fun _=>rfl) (fun _=>rfl) (fun _=>rfl) (fun _=>rfl) (fun _=>rfl) (fun _=>rfl)
theorem VN(ks:List Ev){K:Nat→Bool}(hK:∀j,j<16→K j=dnA ks j):lM (stC a m g) 550 (kc K)=stC {a with ks:=ks} m g:=nN (by rw[vQ];omega) (fun j hj=>by
  rw[vQ]at hj;rw[dR _ _ hj,Z8 _ m g hj,hK j hj]) fun j hj h=>by
 rw[vQ]at h;exact nH _ _ _ _ _ (fun _=>rfl) (fun _=>rfl) (fun _=>rfl) (fun _=>rfl) (fun _=>rfl) zLS (fun _=>rfl) (fun _=>rfl) (fun _=>rfl) (fun _=>rfl) (fun _=>rfl)
theorem aB(P:List Int)(pt:Nat){Q:Nat→Int}(hQ:∀j,j<16→Q j=P.getD j 0):lM (stC a m g) 568 (ac Q (pt:Int))=stC {a with P:=P,pt:=pt} m g:=nN zMN (fun j hj=>by
  rw[nV]at hj;by_cases h:j<16
  ·rw[dP _ _ _ h,sI _ m g h,hQ j h];rfl
  ·obtain rfl:j=16:=by omega
   simp[ac,iP]) fun j hj h=>by
 rw[nV]at h;exact nH _ _ _ _ _ (fun _=>rfl) (fun _=>rfl) (fun _=>rfl) (fun _=>rfl) (fun _=>rfl) (fun _=>rfl) (fun _=>rfl) (fun _=>rfl) zLS zLS (fun _=>rfl)
theorem EY(f:Nat→Int):lM (stC a m g) 585 (pc f)=stC {a with fl:=f} m g:=nN zMT (fun j hj=>by
  rw[nX]at hj;rw[yT _ _ hj,YL _ m g hj]) fun j hj h=>by
 rw[nX]at h;exact nH _ _ _ _ _ (fun _=>rfl) (fun _=>rfl) (fun _=>rfl) (fun _=>rfl) (fun _=>rfl) (fun _=>rfl) (fun _=>rfl) (fun _=>rfl) (fun _=>rfl) (fun _=>rfl) zLS
end

theorem zKT{w:World}{base n c:Nat}{e:TypeId}{A:Option Addr}{xs:List Value}(h:w.ownsRow base e 1 (.slice A n c) n xs):n≤c:=by
 rcases h.2 with⟨e1,e2⟩|⟨g,cap,cur,e1,_,_,h1,_⟩
 ·injection e1 with _ _ e3
  omega
 ·injection e1 with _ _ e3
  omega
theorem fU(x y j:Nat)(hx:x≤15)(hy:y≤15)(hj:j<n8 x y):∃rn:Nat,rn<16∧(wK x y)[j]?=some (rn:Int):=by
 unfold n8 at hj;unfold wK;split at hj
 ·rename_i h
  rw[zN h];exact⟨x+j,by omega,by simp[upL,hj]⟩
 ·rename_i h
  rw[zL h];exact⟨x-j,by omega,by simp[dnL,hj];omega⟩
theorem GS{w:World}{base n c:Nat}{e:TypeId}{A:Option Addr}{xs:List Value}(h:w.ownsRow base e 1 (.slice A n c) n xs)(ad:Addr)(ha:A=some ad):base≤ad.block:=by
 subst ha;exact(h.lt _ rfl).1

theorem NU{L:List Int}(h:Bts L)(k:Nat):∃bn:Nat,nxt L k=(bn:Int)∧bn<256:=by
 unfold nxt;rw[qV];by_cases hk:k%L.length<L.length
 ·rw[zP hk];have:=h _ hk;exact⟨(L[k%L.length]).toNat,by simp;omega,by omega⟩
 ·rw[qW zLS];exact⟨0,rfl,by omega⟩
structure Ef where
 c:Int
 halt:Bool
 wait:Bool
 drew:Bool
def isMem(op:Int):Bool:=decide (op=32)||(decide (op=33)||(decide (op=34)||(decide (op=46)||(decide (op=47)||decide (op=50)))))
def stB(N:Nat)(a:AS)(op:Int)(x y n nn:Nat)(addr len:Int)(q:Pr):AS:=
 if dQ op=true then{a with v:=tO a.v ⟨op,x,y,n,nn,addr,len⟩ q}else if sW op=true then u9 a (skB a.v ⟨op,x,y,n,nn,addr,len⟩) q.lv else
 if op=24 then u9 a (dn a.ks ((a.v x%16:Nat):Int)) q.lv else if op=25 then u9 a (!dn a.ks ((a.v x%16:Nat):Int)) q.lv else
 if op=2 then{a with sk:=a.sk.dropLast,pc:=a.sk.getLastD 0}else if op=3 then{a with pc:=addr}else if op=4 then{a with sk:=a.sk++[a.pc],pc:=addr}else
 if op=21 then{a with pc:=(addr+(a.v (if q.jx=true then x else 0):Int))%65536}else if op=23∨op=41 then drawA N a op x y n q.cl else
 if isMem op=true then iL a op x y (spN a.msk op x y n) q.ki else X9 (bA a op n) op x nn addr
def caA(a:AS)(op:Int)(x y n:Nat)(q:Pr):Int:=caN a.sk.length a.i a.msk op x y n q.fa
def nxA(a:AS)(len:Int):AS:={a with pc:=(a.pc+len)%65536}
def stA(N:Nat)(a:AS)(op:Int)(x y n nn:Nat)(addr len:Int)(q:Pr):AS:=
 if caA a op x y n q=0 then(if op=38 then a else stB N (nxA a len) op x y n nn addr len q)else a
def efA(a:AS)(op:Int)(x y n:Nat)(q:Pr):Ef:=
 if caA a op x y n q=0 then(if op=38 then⟨0,true,false,false⟩else⟨0,false,op==27,(op==23||op==41)&&(q.dw&& !a.hi)⟩)else⟨caA a op x y n q,false,false,false⟩
def efc(e:Ef):Array Value:=#[.int .i64 e.c,.bool e.halt,.bool e.wait,.bool e.drew]
theorem eT(e:Ef):nU (efc e):=by unfold nU efc;simp[Value.oneCell']
section
variable {w w1 w2:World} {g:Nat} {s s':CS} {i:Ins} {q:Pr}
end
def zLD(N:Nat)(z:Sls)(a:AS)(f:Ef)(w:World)(e:Ending)(w':World):Prop:=∃z',e=.returned (.tuple #[.agg (cst (zW8 a z')),.agg (efc f)])∧RS N w' z' a∧Below w.heap.size w w'∧Fr w z z'
theorem zLD.mk{N:Nat}{z:Sls}{a a':AS}{f f':Ef}{w:World}{e:Ending}{w':World}(ea:a'=a)(ef:f'=f)(z':Sls)(h:e=.returned (.tuple #[.agg (cst (zW8 a' z')),.agg (efc f')]))(r:RS N w' z' a')(b:Below w.heap.size w w')(k:Fr w z z'):zLD N z a f w e w':=by
 subst ea ef;exact⟨z',h,r,b,k⟩
def NoPx(N g:Nat)(w:World):Prop:=∀A gs F,Px4 N A gs F w→(∀ad,A=some ad→ad.block≠g)∧∀i,i<4→gs.getD i 0≠g
theorem Px4.away{N:Nat}{A:Option Addr}{gs:List Nat}{F:Nat→Nat→Bool}{w w':World}{g:Nat}(h:Px4 N A gs F w)(np:NoPx N g w)(hs:w.heap.size≤w'.heap.size)(hk:∀k,k≠g→w'.heap[k]?=w.heap[k]?):Px4 N A gs F w':=by
 obtain⟨ha,hp⟩:=np _ _ _ h;refine⟨h.len,fun hne=>?_,fun i hi=>?_⟩
 ·obtain⟨b,o,hA,hlt,hc⟩:=h.row hne;have hb:=ha _ hA;exact⟨b,o,hA,by omega,fun j hj=>(Z6 (hk b hb) _).trans (hc j hj)⟩
 ·have P:=h.px i hi;have hb:=hp i hi;exact⟨by have:=P.lt;omega,fun j hj=>(Z6 (hk _ hb) _).trans (P.at_ j hj),fun j hj=>(XM (hk _ hb) _).trans (P.fz j hj)⟩
section
variable {N:Nat} {w0 wc w1 w2:World} {z z':Sls} {a0 a1:AS} {g:Nat}
end
theorem RS.skip{N:Nat}{w:World}{z:Sls}{a:AS}(h:RS N w z a)(b:Bool)(l:Int):RS N w z (u9 a b l):=by
 unfold u9;split
 ·exact h.nums _ _ _ _ _ _ _ _ _
 ·exact h
def uG(R L:List Int):AS:=⟨fun _=>0,0,512,[],uL R,fun _ _=>false,false,1,[],0,0,yL lO,64,lO,L,0⟩
structure US where
 rom:Sl
 lst:Sl
 v:Nat→Nat
 i:Nat
 pc:Nat
 stk:Sl
 keys:Sl
 dl:Nat
 sd:Nat
 hr:Bool
 msk:Nat
 fl:Sl
structure UR(w:World)(u:US)(R L:List Int)(S:List Nat)(ks:List Ev)(FL:List Int):Prop where
 rom:Rd w u.rom.A R∧R.length=u.rom.n
 lst:Rd w u.lst.A L∧L.length=u.lst.n
 stk:tQ w u.stk.A S∧S.length=u.stk.n
 keys:Evs w u.keys.A u.keys.n ks
 fl:Rd w u.fl.A FL∧FL.length=u.fl.n
 r1:R.length≤2000
 l1:L.length≤100
 s1:S.length≤16
 k1:ks.length≤20
 f1:FL.length≤16
 s2:∀x∈S,x≤65535
 sc:u.stk.n≤u.stk.c
 i:u.i≤65535
 pc:u.pc≤65535
 dl:u.dl<256
 sd:u.sd<256
 msk:u.msk<256
 v:OkV u.v
theorem UR.step{w w':World}{u:US}{R L:List Int}{S:List Nat}{ks:List Ev}{FL:List Int}(h:UR w u R L S ks FL)(b:Below w.heap.size w w'):UR w' u R L S ks FL:=
 ⟨⟨h.rom.1.below b,h.rom.2⟩,⟨h.lst.1.below b,h.lst.2⟩,⟨h.stk.1.below b,h.stk.2⟩,h.keys.step b,⟨h.fl.1.below b,h.fl.2⟩,h.r1,h.l1,h.s1,h.k1,h.f1,h.s2,h.sc,h.i,h.pc,h.dl,h.sd,h.msk,h.v⟩
def oW(B:Nat)(W:World):Type:={w':World//Below B W w'}
def oW.w{B:Nat}{W:World}(x:oW B W):World:=x.1
theorem oW.below{B:Nat}{W:World}(x:oW B W):Below B W x.w:=x.2
instance(B:Nat)(W:World):Nonempty (oW B W):=⟨⟨W,zB _ _⟩⟩
theorem oW.cell{B:Nat}{W:World}{b o:Nat}{v:Value}(h:W.cell? ⟨b,o,none⟩=some v)(hb:b<B)(x:oW B W):x.w.cell? ⟨b,o,none⟩=some v:=(x.below.cell (p:=⟨b,o,none⟩) hb).trans h
section
variable {w w2 w1 w3:World} {g s0:Nat} {u:US} {s s':CS}
end
end
section
namespace Dec
theorem decNo{b0 b1 b2 b3:Nat}{l:Int}(h:ok b0 b1 l=false):dec b0 b1 b2 b3 l=⟨0,0,0,0,0,0,skl b0 b1 l⟩:=by
 unfold dec;rw[h];rfl
theorem zZ4{b0 b1 b2 b3:Nat}{l:Int}(h:ok b0 b1 l=true){r:Rl}(hr:top (b0*256+b1)=r):dec b0 b1 b2 b3 l=⟨r.op,pX r.pk (dx b0:Nat),pY r.pk (b1/16:Nat),pN r.pk (dx b0:Nat) (b1%16:Nat),pNN r.pk (b1:Nat),pA r.pk (dx b0*256+b1:Nat) (b2*256+b3:Nat),skl b0 b1 l⟩:=by
 unfold dec;rw[h,hr];rfl
theorem zQN{b0 b1:Nat}{l:Int}(h:ok b0 b1 l=true):(top (b0*256+b1)).op≠0:=by
 unfold ok at h;intro e;rw[e]at h;cases h
theorem zQH{b0 b1:Nat}{l:Int}(h:ok b0 b1 l=true):((top (b0*256+b1)).level:Int)≤l∧l≤3:=by
 have k:=iG (b0*256+b1);have ho:=zQN h;unfold ok at h;generalize top (b0*256+b1)=r at*;obtain⟨_,_,_,_,_,_,_,hr,hf⟩:=k;rw[zC]at h;have h2:=h.2;unfold alw at h2;by_cases hc:r.op=43∨r.op=44
 ·rw[show(r.op==43||r.op==44)=true by simpa using hc]at h2;have h3:=qA (show TA l (dx b0:Nat)=true from h2);have:=(hf hc).2;omega
 ·rw[show(r.op==43||r.op==44)=false by simpa using hc]at h2;rw[show(bif false then TA l (dx b0:Nat)else(decide ((r.level:Int)≤l)&&decide (l≤3)))=(decide ((r.level:Int)≤l)&&decide (l≤3))from rfl,zC]at h2;exact⟨qA h2.1,qA h2.2⟩
theorem zKE{b0 b1:Nat}{l m:Int}(h:ok b0 b1 l=true)(hm:l≤m)(h3:m≤3):ok b0 b1 m=true:=by
 have k:=iG (b0*256+b1);have ho:=zQN h;unfold ok at h⊢;generalize top (b0*256+b1)=r at*;rw[zC]at h⊢;refine⟨h.1,?_⟩;have h2:=h.2;have hd:dx b0<16:=by unfold dx;omega
 unfold alw at h2⊢;by_cases hc:r.op=43∨r.op=44
 ·rw[show(r.op==43||r.op==44)=true by simpa using hc]at h2⊢;have h4:=qA (show TA l (dx b0:Nat)=true from h2);show TA m (dx b0:Nat)=true;unfold TA;exact qJ zLS
 ·rw[show(r.op==43||r.op==44)=false by simpa using hc]at h2⊢;rw[show(bif false then TA l (dx b0:Nat)else(decide ((r.level:Int)≤l)&&decide (l≤3)))=(decide ((r.level:Int)≤l)&&decide (l≤3))from rfl,zC]at h2;have h4:=qA h2.1;show(decide ((r.level:Int)≤m)&&decide (m≤3))=true;rw[qJ zLS,qJ h3];rfl
theorem ZI(b0 b1 b2 b3:Nat)(l:Int)(h0:b0<256)(h1:b1<256):(ok b0 b1 l=false∧dec b0 b1 b2 b3 l=⟨0,0,0,0,0,0,2⟩∧skl b0 b1 l=2)∨
  (ok b0 b1 l=true∧∃r:Rl,top (b0*256+b1)=r∧oV r∧r.op≠0∧skl b0 b1 l=(if r.op=48 then 4 else 2)∧dec b0 b1 b2 b3 l=⟨r.op,pX r.pk (dx b0:Nat),pY r.pk (b1/16:Nat),pN r.pk (dx b0:Nat) (b1%16:Nat),pNN r.pk (b1:Nat),pA r.pk (dx b0*256+b1:Nat) (b2*256+b3:Nat),if r.op=48 then 4 else 2⟩):=by
 cases hk:ok b0 b1 l
 ·left
  have s:=skl_no h0 h1 hk;exact⟨rfl,by rw[decNo hk,s],s⟩
 ·right
  have s:=UU h0 h1 hk;exact⟨rfl,_,rfl,iG _,zQN hk,s,by rw[zZ4 hk rfl,s]⟩
theorem AU(b0 b1 b2 b3:Nat)(l:Int)(h0:b0<256)(h1:b1<256)(h2:b2<256)(h3:b3<256){i:Ins}(hi:dec b0 b1 b2 b3 l=i):
  (0≤i.op∧i.op≤51)∧(0≤i.x∧i.x≤15)∧(0≤i.y∧i.y≤15)∧(0≤i.n∧i.n≤15)∧(0≤i.nn∧i.nn≤255)∧(0≤i.addr∧i.addr≤65535):=by
 subst hi;rcases ZI b0 b1 b2 b3 l h0 h1 with⟨k,e,s⟩|⟨k,r,hr,kr,ho,s,e⟩
 ·rw[e];simp only;omega
 ·rw[e];have hop:r.op≤51:=by
   obtain⟨_,_,_,_,_,_,_,hr,_⟩:=kr;rcases hr with hr|hr
   ·omega
   ·exact hr.2.2.2.1
  have hd:dx b0<16:=by unfold dx;omega
  simp only;generalize r.pk=p;refine⟨by omega,?_,?_,?_,?_,?_⟩
  all_goals (cases p<;>simp only[pX,pY,pN,pNN,pA]<;>omega)
theorem ZU(b0 b1 b2 b3:Nat)(l:Int)(h0:b0<256)(h1:b1<256)(hl:1≤l∧l≤3):
  (dec b0 b1 b2 b3 l=⟨0,0,0,0,0,0,2⟩)∨((dec b0 b1 b2 b3 l).op≠0∧(∀m:Int,l≤m→m≤3→dec b0 b1 b2 b3 m=dec b0 b1 b2 b3 l)∧1≤lv (dec b0 b1 b2 b3 l).op∧lv (dec b0 b1 b2 b3 l).op≤l∧(((dec b0 b1 b2 b3 l).op=48∧(dec b0 b1 b2 b3 l).len=4)∨(¬(dec b0 b1 b2 b3 l).op=48∧(dec b0 b1 b2 b3 l).len=2))):=by
 rcases ZI b0 b1 b2 b3 l h0 h1 with⟨k,e,s⟩|⟨k,r,hr,kr,ho,s,e⟩
 ·exact .inl e
 ·right
  have hlv:=zQH k;rw[hr]at hlv;have hrr:lv r.op=r.level∧1≤r.level:=by
   obtain⟨_,_,_,_,_,_,_,hr,_⟩:=kr;rcases hr with hr|hr
   ·omega
   ·exact⟨hr.2.2.2.2,hr.2.1⟩
  refine⟨by rw[e];simp only;omega,fun m hm h3=>?_,by rw[e];simp only;omega,by rw[e];simp only;omega,?_⟩
  ·have km:=zKE k hm h3;have sm:=UU h0 h1 km;rw[hr]at sm;rw[e,zZ4 km hr,sm]
  ·rw[e];by_cases h48:r.op=48
   ·left
    simp only;rw[zN h48];exact⟨by omega,rfl⟩
   ·right
    simp only;rw[zL h48];exact⟨by omega,rfl⟩
end Dec
end
section
open Go.RowKit Num Dec Cpu
def oF(i:Ins)(l:Int):Prop:=∃b0 b1 b2 b3:Nat,b0<256∧b1<256∧b2<256∧b3<256∧dec b0 b1 b2 b3 l=i
theorem oF.nat{i:Ins}{l:Int}(h:oF i l)(hl:1≤l∧l≤3):∃(op:Int) (x y n nn:Nat) (addr len:Int),i=⟨op,x,y,n,nn,addr,len⟩∧(0≤op∧op≤51)∧x<16∧y<16∧n<16∧nn<256∧(0≤addr∧addr≤65535)∧(0≤len∧len≤4):=by
 obtain⟨b0,b1,b2,b3,h0,h1,h2,h3,e⟩:=h;obtain⟨r1,r2,r3,r4,r5,r6⟩:=AU b0 b1 b2 b3 l h0 h1 h2 h3 e;have hlen:0≤i.len∧i.len≤4:=by
  rcases ZU b0 b1 b2 b3 l h0 h1 hl with c|⟨_,_,_,_,c⟩
  ·rw[e]at c;rw[c];decide
  ·rw[e]at c;omega
 obtain⟨op,x,y,n,nn,addr,len⟩:=i;simp only at r1 r2 r3 r4 r5 r6 hlen;obtain⟨X,rfl⟩:=jY r2.1;obtain⟨Y,rfl⟩:=jY r3.1;obtain⟨M,rfl⟩:=jY r4.1;obtain⟨K,rfl⟩:=jY r5.1;exact⟨op,X,Y,M,K,addr,len,rfl,r1,by omega,by omega,by omega,by omega,r6,hlen⟩
theorem oF.up{i:Ins}{l m:Int}(h:oF i l)(hl:1≤l∧l≤3)(hm:l≤m∧m≤3)(hi:i.op≠0):oF i m:=by
 obtain⟨b0,b1,b2,b3,h0,h1,h2,h3,e⟩:=h;refine⟨b0,b1,b2,b3,h0,h1,h2,h3,?_⟩;rcases ZU b0 b1 b2 b3 l h0 h1 hl with c|⟨_,c,_⟩
 ·rw[e]at c;rw[c]at hi;exact absurd rfl hi
 ·rw[c m hm.1 hm.2,e]
structure OkB(a:AS):Prop where
 o:OkA a
 s:∀x∈a.sk,0≤x∧x≤65535
theorem zYG{v:Nat→Nat}(hv:OkV v)(op:Int)(x y nn:Nat)(n addr len:Int)(q:Pr)(hx:x<16)(hy:y<16)(hn:nn<256):OkV (tO v ⟨op,x,y,n,nn,addr,len⟩ q):=by
 have hs:shX v ⟨op,x,y,n,nn,addr,len⟩ q<256:=by unfold shX;split;exact hv _ hy;exact hv _ hx
 have hR:tF op (v x) (v y) (shX v ⟨op,x,y,n,nn,addr,len⟩ q) nn<256:=zYB (hv x hx) (hv y hy) hs hn;unfold tO;simp only[Int.toNat_natCast];split
 ·split
  ·exact dV hv _ _ hR
  ·rename_i f hf
   have:=zYR hs hf;exact dV (dV hv _ _ hR) _ _ zLS
 ·exact hv
theorem JA{v:Nat→Nat}(hv:OkV v)(r:List Int)(B:Nat→Nat):∀k,(∀j,j<k→B j<256)→OkV (ldN v r B k)
 |0,_=>hv
 |k+1,hB=>dV (JA hv r B k fun j hj=>hB j zLS) _ _ (hB k zLS)
theorem WD{v:Nat→Nat}(hv:OkV v)(r:List Int)(B:Nat→Nat)(hB:∀j,B j<256)(k:Nat):OkV (ldN v r B k):=JA hv r B k fun j _=>hB j
theorem bH{M:List Int}:Bts M↔∀x∈M,0≤x∧x≤255:=by
 constructor
 ·intro h x hx;obtain⟨k,hk,rfl⟩:=List.getElem_of_mem hx;exact h k hk
 ·exact fun h k hk=>h _ (kX hk)
theorem eP:∀(b:List Int) (M:List Int) (a:Int),Bts M→(∀x∈b,0≤x∧x≤255)→Bts (put M a b)
 |[],M,a,h,_=>h
 |x::t,M,a,h,hb=>by
  refine eP t _ _ ?_ fun y hy=>hb y (by simp[hy]);rw[bH]at h⊢;intro y hy;rcases List.mem_or_eq_of_mem_set hy with c|c
  ·exact h y c
  ·rw[c];exact hb x zLO
theorem iJ{a:AS}(O:OkA a)(b:Bool)(l:Int):OkA (u9 a b l):=by
 unfold u9;split
 ·exact⟨O.v,O.i,(by simp only;omega),O.sk,O.M,O.B,O.msk,O.ks,O.dl,O.sd,O.P,O.pt,O.fl,O.L,O.LB,O.rd⟩
 ·exact O
theorem ZK{a:AS}(O:OkA a){v:Nat→Nat}(hv:OkV v):OkA {a with v:=v}:=⟨hv,O.i,O.pc,O.sk,O.M,O.B,O.msk,O.ks,O.dl,O.sd,O.P,O.pt,O.fl,O.L,O.LB,O.rd⟩
theorem NA{a:AS}(O:OkA a){i:Int}(hi:0≤i∧i≤65535):OkA {a with i:=i}:=⟨O.v,hi,O.pc,O.sk,O.M,O.B,O.msk,O.ks,O.dl,O.sd,O.P,O.pt,O.fl,O.L,O.LB,O.rd⟩
theorem WM{a:AS}(O:OkA a){i:Int}(hi:0≤i∧i≤65535):OkA {a with pc:=i}:=⟨O.v,O.i,hi,O.sk,O.M,O.B,O.msk,O.ks,O.dl,O.sd,O.P,O.pt,O.fl,O.L,O.LB,O.rd⟩
theorem GE{a:AS}(O:OkA a){b:List Int}{i:Int}(hb:∀x∈b,0≤x∧x≤255):OkA {a with M:=put a.M i b}:=⟨O.v,O.i,O.pc,O.sk,(by simp only;rw[cQ];exact O.M),eP b _ _ O.B hb,O.msk,O.ks,O.dl,O.sd,O.P,O.pt,O.fl,O.L,O.LB,O.rd⟩
theorem NC{a:AS}(O:OkA a)(op:Int)(x y n:Nat)(hx:x<16)(hy:y<16):OkA (oB a op x y (spN a.msk op x y n)):=by
 have hb:=fun j=>R9 O.B a.i j;unfold oB;split
 ·refine GE O fun c hc=>?_;have hv:=O.v x hx;unfold J8 at hc;simp only[List.mem_cons,qD,or_false]at hc;rcases hc with rfl|rfl|rfl<;>omega
 split
 ·refine GE O fun c hc=>?_;unfold nP at hc;simp only[jV,jM]at hc;obtain⟨j,hj,rfl⟩:=hc;have hk:spN a.msk op x y n=x+1:=by rename_i h1 h2;subst h2;rfl
  have:=O.v j zLS;omega
 split
 ·exact ZK O (WD O.v _ _ (fun j=>by have:=hb j;omega) _)
 split
 ·refine GE O fun c hc=>?_;simp only[jV]at hc;obtain⟨r,hr,rfl⟩:=hc;have h16:r.toNat<16:=by
   unfold wK at hr;split at hr
   ·unfold upL at hr;simp only[jV,jM]at hr;obtain⟨j,hj,rfl⟩:=hr;omega
   ·unfold dnL at hr;simp only[jV,jM]at hr;obtain⟨j,hj,rfl⟩:=hr;omega
  have:=O.v _ h16;omega
 split
 ·exact ZK O (WD O.v _ _ (fun j=>by have:=hb j;omega) _)
 split
 ·rename_i h
  have hk:spN a.msk op x y n=16:=by subst h;rfl
  exact⟨O.v,O.i,O.pc,O.sk,O.M,O.B,O.msk,O.ks,O.dl,O.sd,(by simp only;rw[vI,hk]),O.pt,O.fl,O.L,O.LB,O.rd⟩
 ·exact O
theorem zKI{a:AS}(O:OkA a)(op:Int)(x y n:Nat)(ki:Bool)(hx:x<16)(hy:y<16):OkA (iL a op x y (spN a.msk op x y n) ki):=by
 unfold iL;split
 ·exact NA (NC O op x y n hx hy) zLS
 ·exact NC O op x y n hx hy
theorem zKO{a:AS}(O:OkA a)(op:Int){n:Nat}(hn:n<16):OkA (bA a op n):=by
 unfold bA;repeat' split
 all_goals first|exact O|exact⟨O.v,O.i,O.pc,O.sk,O.M,O.B,O.msk,O.ks,O.dl,O.sd,O.P,O.pt,O.fl,O.L,O.LB,O.rd⟩|exact⟨O.v,O.i,O.pc,O.sk,O.M,O.B,(by simp only;omega),O.ks,O.dl,O.sd,O.P,O.pt,O.fl,O.L,O.LB,O.rd⟩
theorem wL{c:Prop}[Decidable c]{x y:AS}(hx:c→OkA x)(hy:¬c→OkA y):OkA (if c then x else y):=by
 by_cases h:c
 ·rw[zN h];exact hx h
 ·rw[zL h];exact hy h
theorem UI{c:Prop}[Decidable c]{x y:AS}{z:List Int}(hx:x.sk=z)(hy:y.sk=z):(if c then x else y).sk=z:=by
 by_cases h:c
 ·rw[zN h];exact hx
 ·rw[zL h];exact hy
theorem rd_if{c:Prop}[Decidable c]{x y:AS}{z:Nat}(hx:x.rd≤z)(hy:y.rd≤z):(if c then x else y).rd≤z:=by
 by_cases h:c
 ·rw[zN h];exact hx
 ·rw[zL h];exact hy
theorem OR{c:Prop}[Decidable c]{x y:AS}{z:Nat}(hx:x.rd=z)(hy:y.rd=z):(if c then x else y).rd=z:=by
 by_cases h:c
 ·rw[zN h];exact hx
 ·rw[zL h];exact hy
theorem zK0{a:AS}(O:OkA a)(hr:a.rd<1000000000)(op:Int)(x nn:Nat)(addr:Int)(hx:x<16)(hn:nn<256)(ha:0≤addr∧addr≤65535):OkA (X9 a op x nn addr):=by
 have vx:=O.v x hx;have h16:(a.v x%16:Nat)<16:=kB _ zLA;unfold X9;refine wL (fun hop=>?_) fun hop=>?_
 ·exact NA O ha
 refine wL (fun hop=>?_) fun hop=>?_
 ·obtain⟨bn,e,hb⟩:=NU O.LB a.rd;have hw:(nxt a.L a.rd).toNat&&&nn<256:=Nat.lt_of_le_of_lt Nat.and_le_right hn;exact⟨dV O.v _ _ hw,O.i,O.pc,O.sk,O.M,O.B,O.msk,O.ks,O.dl,O.sd,O.P,O.pt,O.fl,O.L,O.LB,by simp only;omega⟩
 refine wL (fun hop=>?_) fun hop=>?_
 ·exact ZK O (dV O.v _ _ O.dl)
 refine wL (fun hop=>?_) fun hop=>?_
 ·exact⟨O.v,O.i,O.pc,O.sk,O.M,O.B,O.msk,O.ks,vx,O.sd,O.P,O.pt,O.fl,O.L,O.LB,O.rd⟩
 refine wL (fun hop=>?_) fun hop=>?_
 ·exact⟨O.v,O.i,O.pc,O.sk,O.M,O.B,O.msk,O.ks,O.dl,vx,O.P,O.pt,O.fl,O.L,O.LB,O.rd⟩
 refine wL (fun hop=>?_) fun hop=>?_
 ·exact NA O zLS
 refine wL (fun hop=>?_) fun hop=>?_
 ·exact NA O zLS
 refine wL (fun hop=>?_) fun hop=>?_
 ·exact NA O zLS
 refine wL (fun hop=>?_) fun hop=>?_
 ·refine⟨O.v,O.i,O.pc,O.sk,O.M,O.B,O.msk,O.ks,O.dl,O.sd,O.P,O.pt,fun j hj=>?_,O.L,O.LB,O.rd⟩;simp only;by_cases hl:j<(nP a.v (x+1)).length
  ·rw[zY9 _ _ _ hl,show(nP a.v (x+1))[j]'hl=(a.v j:Int)from by simp[nP]];have:=O.v j hj;omega
  ·rw[zQW _ _ _ hl];exact O.fl j hj
 refine wL (fun hop=>?_) fun hop=>?_
 ·exact ZK O (JA O.v _ _ _ fun j hj=>by have:=O.fl j zLS;omega)
 refine wL (fun hop=>?_) fun hop=>?_
 ·exact⟨O.v,O.i,O.pc,O.sk,O.M,O.B,O.msk,O.ks,O.dl,O.sd,O.P,vx,O.fl,O.L,O.LB,O.rd⟩
 ·exact O
theorem zQR{a:AS}(O:OkA a){L:List Int}(hL:L.length≤16){pc:Int}(hp:0≤pc∧pc≤65535):OkA {a with sk:=L,pc:=pc}:=⟨O.v,O.i,hp,hL,O.M,O.B,O.msk,O.ks,O.dl,O.sd,O.P,O.pt,O.fl,O.L,O.LB,O.rd⟩
theorem tK{a b:AS}(O:OkB a)(h:OkA b)(e:b.sk=a.sk):OkB b:=⟨h,by rw[e];exact O.s⟩
theorem JQ(a:AS)(b:Bool)(l:Int):(u9 a b l).sk=a.sk:=by unfold u9;split<;>rfl
theorem sk_mem(a:AS)(op:Int)(x y k:Nat)(ki:Bool):(iL a op x y k ki).sk=a.sk:=by
 have h:(oB a op x y k).sk=a.sk:=by unfold oB;repeat' (first|rfl|refine UI ?_ ?_)
 unfold iL
 split
 ·exact h
 ·exact h
theorem sk_dsp(a:AS)(op:Int)(n:Nat):(bA a op n).sk=a.sk:=by
 unfold bA;repeat' (first|rfl|refine UI ?_ ?_)
theorem sk_dev(a:AS)(op:Int)(x nn:Nat)(addr:Int):(X9 a op x nn addr).sk=a.sk:=by
 unfold X9;repeat' (first|rfl|refine UI ?_ ?_)
theorem OT(a:AS)(op:Int)(n:Nat):(bA a op n).rd=a.rd:=by
 unfold bA;repeat' (first|rfl|refine OR ?_ ?_)
theorem zKA(N:Nat){a:AS}(O:OkB a)(hr:a.rd<1000000000)(op:Int)(x y n nn:Nat)(addr len:Int)(q:Pr)(hx:x<16)(hy:y<16)(hn:n<16)(hnn:nn<256)(ha:0≤addr∧addr≤65535)(hf:op=4→a.sk.length≠16):OkB (stB N a op x y n nn addr len q):=by
 have O':=O.o;unfold stB;split
 ·exact tK O (ZK O' (zYG O'.v op x y nn n addr len q hx hy hnn)) rfl
 split
 ·exact tK O (iJ O' _ _) (JQ _ _ _)
 split
 ·exact tK O (iJ O' _ _) (JQ _ _ _)
 split
 ·exact tK O (iJ O' _ _) (JQ _ _ _)
 split
 ·have hp:0≤a.sk.getLastD 0∧a.sk.getLastD 0≤65535:=by
   rcases List.eq_nil_or_concat a.sk with e|⟨L,b,e⟩
   ·rw[e];decide
   ·rw[e];have:=O.s b (by rw[e];simp);simpa using this
  refine⟨zQR O' (by rw[List.length_dropLast];have:=O'.sk;omega) hp,fun c hc=>O.s c (List.dropLast_subset _ hc)⟩
 split
 ·exact tK O (WM O' ha) rfl
 split
 ·rename_i h4
  refine⟨zQR O' (by have h1:=O'.sk;have h2:=hf h4;simp;omega) ha,fun c hc=>?_⟩;simp only[List.mem_append,List.mem_cons,qD,or_false]at hc;rcases hc with hc|rfl
  ·exact O.s c hc
  ·exact O'.pc
 split
 ·exact tK O (WM O' zLS) rfl
 split
 ·refine tK O ?_ rfl;have hv:OkV (Cpu.upd a.v 15 (if hiK (byC a.M a.i) a.F a.msk n (op==41) q.cl (a.v x) (a.v y) (rwN a.hi) (rhN a.hi) N 4=true then 1 else 0)):=dV O'.v _ _ (by split<;>decide);exact⟨hv,O'.i,O'.pc,O'.sk,O'.M,O'.B,O'.msk,O'.ks,O'.dl,O'.sd,O'.P,O'.pt,O'.fl,O'.L,O'.LB,O'.rd⟩
 split
 ·exact tK O (zKI O' op x y n q.ki hx hy) (sk_mem _ _ _ _ _ _)
 ·exact tK O (zK0 (zKO O' op hn) (by rw[OT];exact hr) op x nn addr hx hnn ha) ((sk_dev _ _ _ _ _).trans (sk_dsp _ _ _))
theorem okB_st(N:Nat){a:AS}(O:OkB a)(hr:a.rd<1000000000)(op:Int)(x y n nn:Nat)(addr len:Int)(q:Pr)(hx:x<16)(hy:y<16)(hn:n<16)(hnn:nn<256)(ha:0≤addr∧addr≤65535):OkB (stA N a op x y n nn addr len q):=by
 unfold stA;split
 ·rename_i hc
  split
  ·exact O
  ·have O1:OkB (nxA a len):=⟨WM O.o zLS,O.s⟩;refine zKA N O1 hr op x y n nn addr len q hx hy hn hnn ha fun h4 h16=>?_;unfold caA caN at hc;rw[zL zLS,zN ⟨h4,h16⟩]at hc;cases hc
 ·exact O
theorem rd_dev(a:AS)(op:Int)(x nn:Nat)(addr:Int):(X9 a op x nn addr).rd≤a.rd+1:=by
 unfold X9;repeat' (first|exact jW _|exact zH _|refine rd_if ?_ ?_)
theorem rd_st(N:Nat)(a:AS)(op:Int)(x y n nn:Nat)(addr len:Int)(q:Pr):(stA N a op x y n nn addr len q).rd≤a.rd+1:=by
 have hs:∀(b:AS) (t:Bool) (l:Int),(u9 b t l).rd=b.rd:=fun b t l=>by unfold u9;split<;>rfl
 have hm:∀(b:AS) (k:Nat),(iL b op x y k q.ki).rd=b.rd:=fun b k=>by
  have h:(oB b op x y k).rd=b.rd:=by unfold oB;repeat' (first|rfl|refine OR ?_ ?_)
  unfold iL
  split
  ·exact h
  ·exact h
 have h0:(nxA a len).rd=a.rd:=rfl
 unfold stA;split
 ·split
  ·omega
  ·unfold stB;repeat' split
   all_goals first|(rw[hs,h0];omega)|(rw[hm,h0];omega)|(have h:=rd_dev (bA (nxA a len) op n) op x nn addr;rw[OT,h0]at h;exact h)|(show(nxA a len).rd≤_;rw[h0];omega)
 ·omega
def n7(b m g:Nat)(v:Value)(k:Nat):Prop:=k=b∨k=m∨k=g∨v.ownBlock=some k
structure Lg where
 n:Nat
 Z:List Int
instance:HAdd Lg Nat Lg:=⟨fun l k=>⟨l.n+k,l.Z⟩⟩
instance:LE Lg:=⟨fun l k=>l.n≤k.n∧l.Z=k.Z⟩
theorem Lg.up(l:Lg)(k:Nat):l≤l+k:=⟨Nat.le_add_right _ _,rfl⟩
theorem Lg.more(l:Lg){j k:Nat}(h:j≤k):l+j≤l+k:=⟨Nat.add_le_add_left h _,rfl⟩
def spV(S:List (Int×Int)):List Value:=S.flatMap fun s=>[.int .i64 s.1,.int .i64 s.2]
def Lgd(Z M:List Int)(xs:List Value):Prop:=∃S:List (Int×Int),xs=spV S∧(∀s∈S,0≤s.1∧s.1≤65535∧0≤s.2∧s.2≤65536)∧∀j:Nat,j<65536→(∀s∈S,¬((j:Int)-s.1)%65536<s.2)→M[j]?=Z[j]?
theorem Lgd.nil(M:List Int):Lgd M M []:=⟨[],rfl,fun s hs=>absurd hs qD,fun _ _ _=>rfl⟩
theorem Lgd.snoc{Z M M':List Int}{xs:List Value}{y z:Int}(h:Lgd Z M xs)(hy:0≤y∧y≤65535∧0≤z∧z≤65536)(hj:∀j:Nat,j<65536→¬((j:Int)-y)%65536<z→M'[j]?=M[j]?):Lgd Z M' (xs++[.int .i64 y,.int .i64 z]):=by
 obtain⟨S,e,hs,hd⟩:=h;refine⟨S++[(y,z)],?_,?_,fun j h1 h2=>?_⟩
 ·rw[e];simp[spV]
 ·intro s h;rcases List.mem_append.1 h with h|h
  ·exact hs s h
  ·rw[List.mem_singleton.1 h];exact hy
 ·exact(hj j h1 (h2 (y,z) (List.mem_append.2 (.inr (List.mem_singleton.2 rfl))))).trans (hd j h1 fun s h=>h2 s (List.mem_append.2 (.inl h)))
def oK(base:Nat)(lg:Lg)(M:List Int)(v:Value)(w:World):Prop:=∃n xs,w.ownsRow base 144 2 v n xs∧n≤lg.n∧(n=0→v.ownBlock=none)∧(∀x∈xs,∃i,x=.int .i64 i)∧Lgd lg.Z M xs
structure RC(base:Nat)(lg:Lg)(b m g:Nat)(v:Value)(a:AS)(w:World):Prop where
 st:Blk b 70 (stC a m g) w
 mem:mP m a.M v w
 log:oK base lg a.M v w
 rnd:St base g a.L a.rd w
 res:∀i,i<4→xB (a.F i) (wid a.hi) (hei a.hi)
 bb:base≤b
 bm:base≤m
section
variable {base:Nat} {lg:Lg} {b m g:Nat} {v:Value} {a:AS} {w w':World}
theorem oK.below{M:List Int}(h:oK base lg M v w)(hb:Below w.heap.size w w'):oK base lg M v w':=let⟨n,xs,o,r⟩:=h;⟨n,xs,PN o hb,r⟩
theorem oK.lt{M:List Int}(h:oK base lg M v w){k:Nat}(e:v.ownBlock=some k):base≤k∧k<w.heap.size:=let⟨n,xs,o,_⟩:=h;o.lt k e
theorem oK.first{M:List Int}(h:oK base lg M v w){k:Nat}(e:v.ownBlock=some k):∃i,w.cell? ⟨k,0,none⟩=some (.int .i64 i):=by
 obtain⟨n,xs,o,_,h0,hi,_⟩:=h;have hn:0<n:=by
  rcases Nat.eq_zero_or_pos n with c|c
  ·rw[h0 c]at e;cases e
  ·exact c
 have hl:xs.length=n*2:=o.1;have hx:xs[0]?=some (xs[0]' zLS):=zP zLS;obtain⟨i,hi⟩:=hi _ (kX (by omega:0<xs.length));exact⟨i,by rw[←hi];exact o.cells e 0 _ hx⟩
theorem RC.lt(h:RC base lg b m g v a w):∀k,n7 b m g v k→base≤k∧k<w.heap.size:=by
 rintro k (rfl|rfl|rfl|e)
 ·exact⟨h.bb,h.st.lt⟩
 ·exact⟨h.bm,h.mem.lt⟩
 ·exact⟨h.rnd.low,h.rnd.lt⟩
 ·exact h.log.lt e
theorem RC.step(h:RC base lg b m g v a w)(hb:Below w.heap.size w w'):RC base lg b m g v a w':=
 ⟨h.st.step hb,(hb.block m h.mem.lt).trans h.mem,h.log.below hb,h.rnd.step hb,h.res,h.bb,h.bm⟩
theorem RC.tag(h:RC base lg b m g v a w):∀k,n7 b m g v k→∃cs T fr,w.heap[k]?=some (.cells cs T fr)∧(T=70∨T=150∨T=186∨T=144):=by
 rintro k (rfl|rfl|rfl|e)
 ·exact⟨_,_,_,h.st,.inl rfl⟩
 ·exact⟨_,_,_,h.mem,.inr (.inl rfl)⟩
 ·obtain⟨A,c,hb,_⟩:=h.rnd.held;exact⟨_,_,_,hb,.inr (.inr (.inl rfl))⟩
 ·obtain⟨n,xs,o,_⟩:=h.log;rcases o.2 with⟨e1,_⟩|⟨g',cap,cur,e1,_,hh,_⟩
  ·rw[e1]at e;cases e
  ·rw[e1]at e;cases e
   exact⟨_,_,_,hh,.inr (.inr (.inr rfl))⟩
theorem RC.ne(h:RC base lg b m g v a w):b≠m∧b≠g∧m≠g∧v.ownBlock≠some b∧v.ownBlock≠some m∧v.ownBlock≠some g:=by
 have hS:w.heap[b]?=some (.cells (stC a m g) 70 (0,0)):=h.st;have hM:w.heap[m]?=some (.cells (cells a.M v) 150 (0,0)):=h.mem;obtain⟨A,c,hG,_⟩:=h.rnd.held;have hG:w.heap[g]?=some (.cells _ 186 (0,0)):=hG;have hL:∀k,v.ownBlock=some k→∃cur,w.heap[k]?=some (.cells cur 144 (0,0)):=fun k e=>by
  obtain⟨n,xs,o,_⟩:=h.log;rcases o.2 with⟨e1,_⟩|⟨g',cap,cur,e1,_,hh,_⟩
  ·rw[e1]at e;cases e
  ·rw[e1]at e;cases e
   exact⟨cur,hh⟩
 refine⟨?_,?_,?_,?_,?_,?_⟩
 ·rintro rfl;rw[hM]at hS;injection hS with hS;injection hS with _ e;cases e
 ·rintro rfl;rw[hG]at hS;injection hS with hS;injection hS with _ e;cases e
 ·rintro rfl;rw[hG]at hM;injection hM with hM;injection hM with _ e;cases e
 ·intro e;obtain⟨cur,hh⟩:=hL _ e;rw[hS]at hh;injection hh with hh;injection hh with _ e;cases e
 ·intro e;obtain⟨cur,hh⟩:=hL _ e;rw[hM]at hh;injection hh with hh;injection hh with _ e;cases e
 ·intro e;obtain⟨cur,hh⟩:=hL _ e;rw[hG]at hh;injection hh with hh;injection hh with _ e;cases e
theorem RC.row_off(h:RC base lg b m g v a w){bs n size:Nat}{e:TypeId}{u:Value}{xs:List Value}(o:w.ownsRow bs e size u n xs)(he:e≠70∧e≠150∧e≠186∧e≠144):∀k,u.ownBlock=some k→¬n7 b m g v k:=fun k ek c=>by
 obtain⟨cs,T,fr,hh,hT⟩:=h.tag k c;rcases o.2 with⟨e1,_⟩|⟨g',cap,cur,e1,_,h2,_⟩
 ·rw[e1]at ek;cases ek
 ·rw[e1]at ek;cases ek
  rw[hh]at h2
  injection h2 with h2
  injection h2 with _ e3
  subst e3;rcases hT with e4|e4|e4|e4
  ·exact he.1 e4
  ·exact he.2.1 e4
  ·exact he.2.2.1 e4
  ·exact he.2.2.2 e4
theorem RC.other{base2:Nat}{lg2:Lg}{b2 m2 g2:Nat}{v2:Value}{a2:AS}(h:RC base lg b m g v a w)(h2:RC base2 lg2 b2 m2 g2 v2 a2 w)(k:lN (n7 b m g v) w w')(hd:∀j,n7 b2 m2 g2 v2 j→¬n7 b m g v j):RC base2 lg2 b2 m2 g2 v2 a2 w':=by
 have blk:∀j,n7 b2 m2 g2 v2 j→w'.heap[j]?=w.heap[j]?:=fun j hj=>k.block j (h2.lt j hj).2 (hd j hj);refine⟨(blk b2 (.inl rfl)).trans h2.st,(blk m2 (.inr (.inl rfl))).trans h2.mem,?_,?_,h2.res,h2.bb,h2.bm⟩
 ·obtain⟨n,xs,o,r⟩:=h2.log;exact⟨n,xs,cT o k fun j ej=>hd j (.inr (.inr (.inr ej))),r⟩
 ·obtain⟨A,c,hb,o⟩:=h2.rnd.held;exact⟨h2.rnd.low,A,c,(blk g2 (.inr (.inr (.inl rfl)))).trans hb,cT o k (h.row_off o ⟨by decide,by decide,by decide,by decide⟩)⟩
end
def oX(O:Nat→Prop)(s:Sl):Prop:=∀ad,s.A=some ad→0<s.n→¬O ad.block
structure YI(O:Nat→Prop)(z:Sls):Prop where
 sk:oX O z.sk
 M:oX O z.M
 G:oX O z.G
 K:oX O z.K
 P:oX O z.P
 fl:oX O z.fl
 L:oX O z.L
theorem YI.fr{O:Nat→Prop}{w:World}{z z':Sls}(h:YI O z)(f:Fr w z z')(ho:∀k,O k→k<w.heap.size)(hG:z.G.n=z'.G.n):YI O z':=by
 have new:∀s:Sl,FrS w s→oX O s:=fun s fs ad e _ c=>by have h1:=fs ad e;have h2:=ho _ c;omega
 refine⟨?_,f.M.elim (fun e=>e▸h.M) (new _),?_,f.K▸h.K,f.P.elim (fun e=>e▸h.P) (new _),f.fl.elim (fun e=>e▸h.fl) (new _),f.L▸h.L⟩
 ·rcases f.sk with⟨e,hn⟩|f
  ·intro ad ea hp;rw[e]at ea;exact h.sk ad ea zLS
  ·exact new _ f
 ·rcases f.G with e|f
  ·intro ad ea hp;rw[e]at ea;exact h.G ad ea zLS
  ·intro ad ea _ c;have h1:=f ad ea;have h2:=ho _ c;omega
section
variable {N base:Nat} {lg:Lg} {b m g:Nat} {v:Value} {a a2:AS} {w w':World} {z:Sls}
theorem aA{O:Nat→Prop}{A:Option Addr}{n:Nat}{L:List Int}(h:Rd w A L)(hl:L.length=n)(k:lN O w w')(ho:∀ad,A=some ad→0<n→¬O ad.block):Rd w' A L:=fun hne=>by
 obtain⟨ad,e,hb,hc⟩:=h hne;have hn:=ho ad e (by have:=List.length_pos_iff.2 hne;omega);exact⟨ad,e,zF hb k.size,fun j hj=>(qE (by rw[yV];exact k.block _ hb hn)).trans (hc j hj)⟩
theorem YI.grown{v':Value}(f:YI (n7 b m g v) z)(R:RS N w z a2)(hv:v'.ownBlock=v.ownBlock∨∃k,v'.ownBlock=some k∧w.heap.size≤k):YI (n7 b m g v') z:=by
 have key:∀s:Sl,oX (n7 b m g v) s→(∀ad,s.A=some ad→0<s.n→ad.block<w.heap.size)→oX (n7 b m g v') s:=fun s h1 h2 ad e hp c=>by
  rcases c with c|c|c|c
  ·exact h1 ad e hp (.inl c)
  ·exact h1 ad e hp (.inr (.inl c))
  ·exact h1 ad e hp (.inr (.inr (.inl c)))
  ·rcases hv with e1|⟨k,e1,hk⟩
   ·exact h1 ad e hp (.inr (.inr (.inr (e1▸c))))
   ·rw[e1]at c;cases c
    have:=h2 ad e hp
    omega
 have rdl:∀(A:Option Addr) (L:List Int) (n:Nat),Rd w A L→L.length=n→∀ad,A=some ad→0<n→ad.block<w.heap.size:=fun A L n h hl ad e hp=>by
  obtain⟨ad2,e2,hb,_⟩:=h (by intro c;rw[c]at hl;simp at hl;omega);rw[e]at e2;cases e2
  exact hb
 refine⟨key _ f.sk ?_,key _ f.M ?_,key _ f.G ?_,key _ f.K ?_,key _ f.P (rdl _ _ _ R.P.1 R.P.2),key _ f.fl (rdl _ _ _ R.fl.2 (by rw[mG];exact R.fl.1.symm)),key _ f.L (rdl _ _ _ R.L.1 R.L.2)⟩
 ·exact zNC
 ·intro ad e _;obtain⟨ad2,c,e2,r⟩:=R.M;rw[e2]at e;cases e
  exact r.1
 ·exact zND
 ·exact zHZ
end
structure xP(N:Nat):Prop where
 new_:∀(A:Option Addr) (n c:Nat) (R:List Int) (B:Option Addr) (k d:Nat) (L:List Int) (w:World),xX w→Rd w A R→R.length=n→n≤65024→Rd w B L→L.length=k→k≤100000→
  Calls Tryz.prog 28 #[.slice A n c,.slice B k d] w fun e w'=>∃b m g v,e=.returned (.tuple #[.pointer (some ⟨b,0,none⟩),.int .i64 0])∧RC w.heap.size ⟨0,(uG R L).M⟩ b m g v (uG R L) w'∧Below w.heap.size w w'
 long:∀(A:Option Addr) (n c:Nat) (B:Option Addr) (k d:Nat) (L:List Int) (w:World),xX w→65024<n→n≤1000000→Rd w B L→L.length=k→k≤100000→
  Calls Tryz.prog 28 #[.slice A n c,.slice B k d] w fun e w'=>e=.returned (.tuple #[.pointer none,.int .i64 7])∧Below w.heap.size w w'
 exec:∀(base:Nat) (lg:Lg) (b m g:Nat) (v:Value) (a:AS) (op:Int) (x y n nn:Nat) (addr len:Int) (q:Pr) (w:World),xX w→RC base lg b m g v a w→OkB a→lg.n≤900→oF ⟨op,x,y,n,nn,addr,len⟩ q.lv→(0≤op∧op≤51)→x<16→y<16→n<16→nn<256→(0≤addr∧addr≤65535)→(0≤len∧len≤4)→(1≤q.lv∧q.lv≤3)→base≤w.heap.size→
  Calls Tryz.prog 56 #[.pointer (some ⟨b,0,none⟩),.agg (lX ⟨op,x,y,n,nn,addr,len⟩),.agg (prc q)] w fun e w'=>e=.returned (.agg (efc (efA a op x y n q)))∧
   ∃v',RC base (lg+16) b m g v' (stA N a op x y n nn addr len q) w'∧lN (n7 b m g v) w w'∧(v'.ownBlock=v.ownBlock∨∃k,v'.ownBlock=some k∧w.heap.size≤k)
 none_:∀w:World,Calls Tryz.prog 38 #[.pointer none] w fun e w'=>e=.returned (.pointer none)∧Below w.heap.size w w'
 clone:∀(base:Nat) (lg:Lg) (b m g:Nat) (v:Value) (a:AS) (w:World),xX w→RC base lg b m g v a w→OkB a→
  Calls Tryz.prog 38 #[.pointer (some ⟨b,0,none⟩)] w fun e w'=>∃b2 m2 g2 v2,e=.returned (.pointer (some ⟨b2,0,none⟩))∧RC w.heap.size ⟨0,a.M⟩ b2 m2 g2 v2 a w'∧Below w.heap.size w w'
theorem pZ:nI Tryz.prog 108 4:=⟨⟨_,Tryz.underlying108,rfl⟩,by kernel_rfl⟩
theorem fS:nG Tryz.prog 108 (efc ⟨0,false,false,false⟩):=by unfold nG;kernel_rfl
end
end Go.Proofs.YthknmadinmigfaaGreatDoor
