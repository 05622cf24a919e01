/- CpuRef3, FontNum, MemNum, MemBlk, AddrNum, FontAdd, FontCat, FontTab, Mem, MemLog, MemWrite, MemNew, MemBytes, FontRef, Tail, MemPut, MemRef2, Opc, FlaAllow, Put1, PixNum, PopNum, PixMath, PlaneNum, PlaneFwd. -/
import Derived.Test.YtcjldabaekbdlaaGreatDoorRows
import Derived.Test.YtcjldabaekbdlaaGreatDoorMk0a
set_option maxRecDepth 400000
set_option maxHeartbeats 64000000
set_option linter.unusedVariables false
set_option linter.unusedSimpArgs false
namespace Go.Proofs.YtcjldabaekbdlaaGreatDoor
section
open Go.RowKit Num Dec Cpu
def spN(M:Nat)(op:Int)(x y n:Nat):Nat:=
 if op=23 then xJ M n false 4 else if op=41 then xJ M 0 true 4 else if op=32 then 3 else if op=33∨op=34 then x+1
 else if op=46∨op=47 then vD x y else if op=50 then 16 else 0
theorem sI(M:Nat)(op:Int){x y n:Nat}(hx:x<16)(hy:y<16)(hn:n<16):spN M op x y n≤128:=by
 have a:=JG M n false zBY 4;have b:=JG M 0 true zBY 4;unfold spN vD;repeat' split
 all_goals omega
structure D2(w:World)(g:Nat)(s:CS)(i:Ins)(w1:World):Prop where
 s:Blk g 43 (cst s) w1
 i:Blk (g+1) 47 (lI i) w1
 low:Below w.heap.size w w1
 at_:w.heap.size≤g
theorem D2.new(w:World)(s:CS)(i:Ins):D2 w w.heap.size s i ((w.alloc (.cells (cst s) 43)).alloc (.cells (lI i) 47)):=
 ⟨(Blk.new w _ _).alloc _,by have h:=Blk.new (w.alloc (.cells (cst s) 43)) 47 (lI i);rw[zR]at h;exact h,(mJ w _).alloc zBT _,zH _⟩
structure D3(w:World)(g:Nat)(s:CS)(i:Ins)(q:Pr)(w1:World):Prop where
 s:Blk g 43 (cst s) w1
 i:Blk (g+1) 47 (lI i) w1
 p:Blk (g+1+1) 31 (prc q) w1
 low:Below w.heap.size w w1
 at_:w.heap.size≤g
theorem D3.new(w:World)(s:CS)(i:Ins)(q:Pr):D3 w w.heap.size s i q (((w.alloc (.cells (cst s) 43)).alloc (.cells (lI i) 47)).alloc (.cells (prc q) 31)):=by
 have D:=D2.new w s i;refine⟨D.s.alloc _,D.i.alloc _,?_,D.low.alloc zBS _,zH _⟩;have h:=Blk.new ((w.alloc (.cells (cst s) 43)).alloc (.cells (lI i) 47)) 31 (prc q);rw[zR,zR]at h;exact h
theorem rZ(s:CS)(op:Int)(x y n M:Nat)(nn addr len:Int)(w:World)(hM:s.msk=(M:Int))(hm:M≤15)(hx:x<16)(hy:y<16)(hn:n<16):
  Calls Tryz.prog 147 #[.agg (cst s),.agg (lI ⟨op,x,y,n,nn,addr,len⟩)] w fun e w'=>e=.returned (.int .i64 (spN M op x y n:Nat))∧Below w.heap.size w w':=by
 have D0:=zW (D2.new w s ⟨op,x,y,n,nn,addr,len⟩);obtain⟨z,hz⟩:∃z,spN M op x y n=z:=⟨_,rfl⟩;rw[hz];have HZ:=zW hz;have HX:=zW (zY hx (zY hy (zY hn hm)));clear hz;go_enter Tryz.func147,Tryz.ntmps147;go_upto_region 0 with fail;refine zN ?_;refine mZ rfl _ (.tmp 0) rfl (cst s) rfl ?_;simp only[Act.put,zQ,zZ,zJ];refine mZ rfl _ (.tmp 1) rfl (lI ⟨op,x,y,n,nn,addr,len⟩) rfl ?_;simp only[Act.put,zQ,zZ,zJ,zR];obtain⟨g,hg⟩:∃g,w.heap.size=g:=⟨_,rfl⟩;rw[hg]at D0⊢;generalize World.alloc (World.alloc _ _) _=w1 at D0⊢;clear hg;have BE:=zW D0.out.low;have i0:w1.cell? ⟨g+1,0,none⟩=some (.int .i64 op):=(D0.out.i.cell 0).trans rfl;have i1:w1.cell? ⟨g+1,1,none⟩=some (.int .i64 (x:Int)):=(D0.out.i.cell 1).trans rfl;have i2:w1.cell? ⟨g+1,2,none⟩=some (.int .i64 (y:Int)):=(D0.out.i.cell 2).trans rfl;have i3:w1.cell? ⟨g+1,3,none⟩=some (.int .i64 (n:Int)):=(D0.out.i.cell 3).trans rfl;have c22:w1.cell? ⟨g,22,none⟩=some (.int .i64 (M:Int)):=((D0.out.s.cell 22).trans (nW s 6)).trans (by rw[←hM];rfl);clear D0 hM hx hy hn hm;by_cases h23:op=23
 ·subst h23;have SZ:=zW (show z=xJ M n false 4 from by rw[←HZ.out];unfold spN;simp);clear HZ;go_wp2_with fail;refine(GV M n false _ zRP zRP).mono ?_;rintro e w' ⟨rfl,rfl⟩;exact zDS
 by_cases h41:op=41
 ·subst h41;have SZ:=zW (show z=xJ M 0 true 4 from by rw[←HZ.out];unfold spN;simp);clear HZ;go_wp2_with fail;refine(GV M 0 true _ zRP zRP).mono ?_;rintro e w' ⟨rfl,rfl⟩;exact zDS
 by_cases h32:op=32
 ·subst h32;have SZ:=zW (show z=3 from by rw[←HZ.out];unfold spN;simp);clear HZ;exact zDS
 by_cases h33:op=33
 ·subst h33;exact zSG
 by_cases h34:op=34
 ·subst h34;exact zSG
 by_cases h46:op=46
 ·subst h46;exact zDW
 by_cases h47:op=47
 ·subst h47;exact zDW
 by_cases h50:op=50
 ·subst h50;have SZ:=zW (show z=16 from by rw[←HZ.out];unfold spN;simp);clear HZ;exact zDS
 have SZ:=zW (show z=0 from by rw[←HZ.out];unfold spN;simp[h23,h41,h32,h33,h34,h46,h47,h50]);have e23:(op==23)=false:=by simpa using h23
 have e41:(op==41)=false:=by simpa using h41
 have e32:(op==32)=false:=by simpa using h32
 have e33:(op==33)=false:=by simpa using h33
 have e34:(op==34)=false:=by simpa using h34
 have e46:(op==46)=false:=by simpa using h46
 have e47:(op==47)=false:=by simpa using h47
 have e50:(op==50)=false:=by simpa using h50
 clear HZ h23 h41 h32 h33 h34 h46 h47 h50;exact zDS
def caN(N:Nat)(i:Int)(M:Nat)(op:Int)(x y n:Nat)(fa:Bool):Int:=
 if op=0 then 1 else if op=4∧N=16 then 2 else if op=2∧N=0 then 3 else if fa=true∧i+(spN M op x y n:Int)>65536 then 4 else 0
theorem IH(s:CS)(op:Int)(x y n M:Nat)(nn addr len:Int)(q:Pr)(w:World)(hM:s.msk=(M:Int))(hm:M≤15)(hx:x<16)(hy:y<16)(hn:n<16)(hi:0≤s.i∧s.i≤65535):
  Calls Tryz.prog 62 #[.agg (cst s),.agg (lI ⟨op,x,y,n,nn,addr,len⟩),.agg (prc q)] w fun e w'=>e=.returned (.int .i64 (caN s.sk.n s.i M op x y n q.fa))∧Below w.heap.size w w':=by
 have SP:=zW fun w0=>rZ s op x y n M nn addr len w0 hM hm hx hy hn;have D0:=zW (D3.new w s ⟨op,x,y,n,nn,addr,len⟩ q);have SL:=sI M op hx hy hn;obtain⟨z,hz⟩:∃z,spN M op x y n=z:=⟨_,rfl⟩;have HC:=zW (show∀r:Int,(if op=0 then 1 else if op=4∧s.sk.n=16 then 2 else if op=2∧s.sk.n=0 then 3 else if q.fa=true∧s.i+(z:Int)>65536 then 4 else 0)=r→caN s.sk.n s.i M op x y n q.fa=r from fun r h=>by unfold caN;rw[hz];exact h);rw[hz]at SP SL;obtain⟨r,hr⟩:∃r,caN s.sk.n s.i M op x y n q.fa=r:=⟨_,rfl⟩;rw[hr];rw[hr]at HC;clear hz hr hM hm hx hy hn;go_enter Tryz.func62,Tryz.ntmps62;go_upto_region 0 with fail;refine zN ?_;refine mZ rfl _ (.tmp 0) rfl (cst s) rfl ?_;simp only[Act.put,zQ,zZ,zJ];refine mZ rfl _ (.tmp 1) rfl (lI ⟨op,x,y,n,nn,addr,len⟩) rfl ?_;simp only[Act.put,zQ,zZ,zJ,zR];refine mZ rfl _ (.tmp 2) rfl (prc q) rfl ?_;simp only[Act.put,zQ,zZ,zJ,zR];obtain⟨g,hg⟩:∃g,w.heap.size=g:=⟨_,rfl⟩;rw[hg]at D0⊢;generalize World.alloc (World.alloc (World.alloc _ _) _) _=w1 at D0⊢;clear hg;have i0:w1.cell? ⟨g+1,0,none⟩=some (.int .i64 op):=(D0.out.i.cell 0).trans rfl;have c18:w1.cell? ⟨g,18,none⟩=some (.slice s.sk.A s.sk.n s.sk.c):=(D0.out.s.cell 18).trans (nW s 2);have c16:w1.cell? ⟨g,16,none⟩=some (.int .i64 s.i):=(D0.out.s.cell 16).trans (nW s 0);have p7:w1.cell? ⟨g+1+1,7,none⟩=some (.bool q.fa):=(D0.out.p.cell 7).trans rfl;have k16:=mH.cell c16 D0.out.s.lt;have k7:=mH.cell p7 D0.out.p.lt;have FS:=zW (fun w' (hw:∃u:mH w1,w'=u.w)=>(show Blk g 43 (cst s) w' from by obtain⟨u,rfl⟩:=hw;exact D0.out.s.step u.below));have FI:=zW (fun w' (hw:∃u:mH w1,w'=u.w)=>(show Blk (g+1) 47 (lI ⟨op,x,y,n,nn,addr,len⟩) w' from by obtain⟨u,rfl⟩:=hw;exact D0.out.i.step u.below));have BE:=zW D0.out.low;clear D0;obtain⟨A,hA⟩:∃A,s.sk.A=A:=⟨_,rfl⟩;obtain⟨N,hN⟩:∃N,s.sk.n=N:=⟨_,rfl⟩;obtain⟨C,hC⟩:∃C,s.sk.c=C:=⟨_,rfl⟩;obtain⟨I,hI⟩:∃I,s.i=I:=⟨_,rfl⟩;rw[hA,hN,hC]at c18;rw[hN,hI]at HC;rw[hI]at c16 k16 hi;clear hA hN hC hI;by_cases h0:op=0
 ·subst h0;have RE:=zW (HC.out 1 zBT);exact zFD
 by_cases h4:op=4∧N=16
 ·obtain⟨rfl,rfl⟩:=h4;have RE:=zW (HC.out 2 zBT);exact zFD
 by_cases h2:op=2∧N=0
 ·obtain⟨rfl,rfl⟩:=h2;have RE:=zW (HC.out 3 zBT);exact zFD
 have HD:=zW (fun r (h:(if q.fa=true∧I+(z:Int)>65536 then(4:Int)else 0)=r)=>HC.out r (by rw[zL h0,zL h4,zL h2];exact h));clear HC;have e0:(op==0)=false:=by simpa using h0
 have AT:∀K:Prop,K→K:=fun _ h=>h;by_cases h44:op=4
 ·have n16:¬(N:Int)=16:=by have:=h4;omega
  subst h44;clear h0 h4 h2;exact zT1
 by_cases h22:op=2
 ·have n0:¬(N:Int)=0:=by have:=h2;omega
  subst h22;clear h0 h4 h2 h44;exact zT1
 have e4:(op==4)=false:=by simpa using h44
 have e2:(op==2)=false:=by simpa using h22
 clear h0 h4 h2 h44 h22;exact zT1
end
section
def vU:List Int:=[240,144,144,144,240,32,96,32,32,112,240,16,240,128,240,240,16,240,16,240,144,144,240,16,16,240,128,240,16,240,240,128,240,144,240,240,16,32,64,64,240,144,240,144,240,240,144,240,16,240,240,144,240,144,144,224,144,224,144,224,240,128,128,128,240,224,144,144,144,224,240,128,240,128,240,240,128,240,128,128]
def wI:List Int:=[60,126,231,195,195,195,195,231,126,60,24,56,88,24,24,24,24,24,24,60,62,127,195,6,12,24,48,96,255,255,60,126,195,3,14,14,3,195,126,60,6,14,30,54,102,198,255,255,6,6,255,255,192,192,252,254,3,195,126,60,62,124,224,192,252,254,195,195,126,60,255,255,3,6,12,24,48,96,96,96,60,126,195,195,126,126,195,195,126,60,60,126,195,195,127,63,3,3,62,124,126,255,195,195,195,255,255,195,195,195,252,252,195,195,252,252,195,195,252,252,60,255,195,192,192,192,192,195,255,60,252,254,195,195,195,195,195,195,254,252,255,255,192,192,255,255,192,192,255,255,255,255,192,192,255,255,192,192,192,192]
def sO(k:Nat):List Int:=(vU.drop (5*k)).take 5
def PH(k:Nat):List Int:=(wI.drop (10*k)).take 10
theorem xV:vU.length=80:=by decide+kernel
theorem yE:wI.length=160:=by decide+kernel
theorem AK{k:Nat}(h:k<16):(sO k).length=5:=by simp[sO,xV];omega
theorem zYB{k:Nat}(h:k<16):(PH k).length=10:=by simp[PH,yE];omega
theorem AZ(k:Nat):vU.take (5*(k+1))=vU.take (5*k)++sO k:=by rw[Nat.mul_add];exact List.take_add
theorem zYH(k:Nat):wI.take (10*(k+1))=wI.take (10*k)++PH k:=by rw[Nat.mul_add];exact List.take_add
theorem AY{k j:Nat}(hj:j<(sO k).length)(h:5*k+j<vU.length):(sO k)[j]=vU[5*k+j]:=by simp[sO]
theorem zYR{k j:Nat}(hj:j<(PH k).length)(h:10*k+j<wI.length):(PH k)[j]=wI[10*k+j]:=by simp[PH]
theorem five{L:List Int}(h:L.length=5):∃x0 x1 x2 x3 x4,L=[x0,x1,x2,x3,x4]:=by
 match L,h with
 |[x0,x1,x2,x3,x4],_=>exact⟨x0,x1,x2,x3,x4,rfl⟩
theorem ten{L:List Int}(h:L.length=10):∃x0 x1 x2 x3 x4 x5 x6 x7 x8 x9,L=[x0,x1,x2,x3,x4,x5,x6,x7,x8,x9]:=by
 match L,h with
 |[x0,x1,x2,x3,x4,x5,x6,x7,x8,x9],_=>exact⟨x0,x1,x2,x3,x4,x5,x6,x7,x8,x9,rfl⟩
def dig(c:Int):Int:=if 65≤c then c-55 else c-48
theorem XU{c:Int}(h0:0≤c)(h1:c≤255): -48≤dig c∧dig c≤200:=by unfold dig;split<;>omega
def chr(s:ByteArray)(j:Nat):Int:=if h:j<s.size then(s[j].toNat:Int)else 0
def hexB(s:ByteArray)(k:Nat):Int:=(16*dig (chr s (2*k))+dig (chr s (2*k+1)))%256
def oQ(s:ByteArray)(n:Nat):List Int:=(List.range n).map (hexB s)
theorem zJM(s:ByteArray)(n:Nat):(oQ s n).length=n:=by simp[oQ]
theorem zJV(s:ByteArray)(n:Nat):oQ s (n+1)=oQ s n++[hexB s n]:=by simp[oQ,List.range_succ]
def put(M:List Int)(a:Int):List Int→List Int
 |[]=>M
 |x::b=>put (M.set (a%65536).toNat x) (a+1) b
theorem JN(M:List Int)(a:Int):put M a []=M:=rfl
theorem pB(M:List Int)(a x:Int)(b:List Int):put M a (x::b)=put (M.set (a%65536).toNat x) (a+1) b:=rfl
theorem cE(b:List Int):∀(M:List Int) (a:Int),(put M a b).length=M.length:=by
 induction b with
 |nil=>intro M a;rfl
 |cons x b ih=>intro M a;rw[pB,ih,List.length_set]
theorem IR(b c:List Int):∀(M:List Int) (a:Int),put M a (b++c)=put (put M a b) (a+b.length) c:=by
 induction b with
 |nil=>intro M a;simp[JN]
 |cons x b ih=>
  intro M a
  rw[jF,pB,pB,ih]
  congr 1
  simp
  omega
theorem zVH(M:List Int)(a:Int)(b:List Int)(x:Int):put M a (b++[x])=(put M a b).set ((a+b.length)%65536).toNat x:=by
 rw[IR];rfl
theorem zQW(b:List Int):∀(M:List Int) (a:Int) (hb:b.length≤65536) (hM:M.length=65536) (j:Nat) (hj:j<65536),
  (put M a b)[j]?=if(((j:Int)-a)%65536).toNat<b.length then b[(((j:Int)-a)%65536).toNat]? else M[j]?:=by
 induction b with
 |nil=>intro M a hb hM j hj;simp[JN]
 |cons x b ih=>
  intro M a hb hM j hj
  simp only[jH]at hb⊢
  rw[pB,ih _ _ zBY (by rw[List.length_set];exact hM) j hj]
  by_cases h0:(((j:Int)-a)%65536).toNat=0
  ·have e:(a%65536).toNat=j:=zBY
   rw[zL zBY,zG zBY,h0,e,List.getElem?_set_self zBY]
   rfl
  ·obtain⟨k,hk⟩:∃k,(((j:Int)-a)%65536).toNat=k+1:=⟨_,(Nat.succ_pred h0).symm⟩
   have e1:(((j:Int)-(a+1))%65536).toNat=k:=zBY
   rw[hk,e1,zK,List.getElem?_set_ne zBY]
   by_cases h:k<b.length
   ·rw[zG h,zG zBY]
   ·rw[zL h,zL zBY]
theorem BN{M:List Int}(hM:M.length=65536){j:Nat}(h:¬j<65536):M[j]?=none:=qD zBY
theorem V7{M N:List Int}(hM:M.length=65536)(hN:N.length=65536)(h:∀j,j<65536→M[j]?=N[j]?):M=N:=by
 apply kT
 intro j
 by_cases hj:j<65536
 ·exact h j hj
 ·rw[BN hM hj,BN hN hj]
theorem aP(M b:List Int)(off:Nat)(hM:M.length=65536)(h:off+b.length≤65536):splice M off b=put M off b:=by
 refine V7 (by rw[wB _ _ _ zBY];exact hM) (by rw[cE];exact hM) fun j hj=>?_;rw[wR _ _ _ zBY,zQW b M off zBY hM j hj];by_cases h1:j<off
 ·rw[zG h1,zL zBY]
 ·rw[zL h1];by_cases h2:j<off+b.length
  ·rw[zG h2,zG zBY];congr 1
   omega
  ·rw[zL h2,zL zBY]
theorem YU(M b:List Int)(a:Int)(at_ d:Nat)(ha:(a%65536).toNat=at_)(hd:d=min b.length (65536-at_))(hM:M.length=65536)(hb:b.length≤65536):
  splice (splice M at_ (b.take d)) 0 (b.drop d)=put M a b:=by
 have l1:(b.take d).length=d:=by rw[qV];omega
 have l2:(b.drop d).length=b.length-d:=kK;have l3:(splice M at_ (b.take d)).length=65536:=by rw[wB _ _ _ zBY];exact hM
 refine V7 (by rw[wB _ _ _ zBY];exact l3) (by rw[cE];exact hM) fun j hj=>?_;rw[wR _ _ _ zBY,wR _ _ _ zBY,zQW b M a hb hM j hj,zL zBY,l1,l2];by_cases h1:j<b.length-d
 ·rw[zG zBY,zG zBY,kO];congr 1
  omega
 ·rw[zL zBY];by_cases h2:j<at_
  ·rw[zG h2,zL zBY]
  ·rw[zL h2];by_cases h3:j<at_+d
   ·rw[zG h3,zG zBY,List.getElem?_take,zG zBY];congr 1
    omega
   ·rw[zL h3,zL zBY]
theorem MC(M b:List Int)(a:Int)(k d:Nat)(ha:a%65536=k)(hd:d=min b.length (65536-k))(hM:M.length=65536)(hb:b.length≤65536):
  splice (splice M k (b.take (65536-k))) 0 ((b.drop d).take 65536)=put M a b:=by
 have e1:(b.drop d).take 65536=b.drop d:=qY (by rw[kK];omega);have e2:b.take (65536-k)=b.take d:=by
  by_cases h:b.length≤65536-k
  ·rw[qY h,qY zBY]
  ·have e:d=65536-k:=zBY;rw[e]
 rw[e1,e2];exact YU M b a k d zBY zBY hM hb
def seg(M:List Int)(a:Int)(n:Nat):List Int:=(List.range n).map fun i:Nat=>M.getD ((a+(i:Int))%65536).toNat 0
theorem xU(M:List Int)(a:Int)(n:Nat):(seg M a n).length=n:=by simp[seg]
theorem zKE(M:List Int)(a:Int)(n:Nat):seg M a (n+1)=seg M a n++[M.getD ((a+(n:Int))%65536).toNat 0]:=by simp[seg,List.range_succ]
theorem Y8(M:List Int)(a:Int)(n j:Nat)(hM:M.length=65536)(hj:j<n):(seg M a n)[j]?=M[((a+(j:Int))%65536).toNat]?:=by
 have h:((a+(j:Int))%65536).toNat<M.length:=zBY;simp[seg,hj,h]
theorem TZ(M Z:List Int)(a:Int)(at_ n d:Nat)(ha:(a%65536).toNat=at_)(hd:d=min (65536-at_) n)(hM:M.length=65536)(hn:n≤65536)(hZ:Z.length=n):
  splice (splice Z 0 ((M.drop at_).take d)) d (M.take (n-d))=seg M a n:=by
 have l1:((M.drop at_).take d).length=d:=by rw[qV,kK];omega
 have l2:(M.take (n-d)).length=n-d:=by rw[qV];omega
 have l3:(splice Z 0 ((M.drop at_).take d)).length=n:=by rw[wB _ _ _ zBY];exact hZ
 apply kT
 intro j
 by_cases hj:j<n
 ·rw[Y8 M a n j hM hj,wR _ _ _ zBY,wR _ _ _ zBY,l1,l2];by_cases h1:j<d
  ·rw[zG h1,zL zBY,zG zBY,List.getElem?_take,zG zBY,kO];congr 1
   omega
  ·rw[zL h1,zG zBY,List.getElem?_take,zG zBY];congr 1
   omega
 ·rw[qD (by rw[wB _ _ _ zBY];omega),qD (by rw[xU];omega)]
theorem YI(M Z:List Int)(a:Int)(k n d:Nat)(ha:a%65536=k)(hd:d=min (65536-k) n)(hM:M.length=65536)(hn:n≤65536)(hZ:Z.length=n):
  splice (splice Z 0 ((M.drop k).take n)) d (M.take (n-d))=seg M a n:=by
 have e:(M.drop k).take n=(M.drop k).take d:=by
  by_cases h:n≤65536-k
  ·have e:d=n:=zBY;rw[e]
  ·rw[qY (by rw[kK];omega),qY (by rw[kK];omega)]
 rw[e];exact TZ M Z a k n d zBY zBY hM hn hZ
theorem zL0(M:List Int)(hM:M.length=65536):seg M 0 65536=M:=by
 refine V7 (xU _ _ _) hM fun j hj=>?_;rw[Y8 M 0 _ j hM hj];congr 1
 omega
def xT:List Int:=List.replicate 65536 0
theorem xK:xT.length=65536:=List.length_replicate
def yJ(rom:List Int):List Int:=put (put (put xT 80 vU) 160 wI) 512 rom
theorem dK(rom:List Int):(yJ rom).length=65536:=by unfold yJ;rw[cE,cE,cE,xK]
end
section
open Go.RowKit Num
def z6:List Value:=[.int .u8 0,.int .u8 0,.int .u8 0,.int .u8 0,.int .u8 0,.int .u8 0,.int .u8 0,.int .u8 0,.int .u8 0,.int .u8 0,.int .u8 0,.int .u8 0,.int .u8 0,.int .u8 0,.int .u8 0,.int .u8 0,.int .u8 0,.int .u8 0,.int .u8 0,.int .u8 0,.int .u8 0,.int .u8 0,.int .u8 0,.int .u8 0,.int .u8 0,.int .u8 0,.int .u8 0,.int .u8 0,.int .u8 0,.int .u8 0,.int .u8 0,.int .u8 0,.int .u8 0,.int .u8 0,.int .u8 0,.int .u8 0,.int .u8 0,.int .u8 0,.int .u8 0,.int .u8 0,.int .u8 0,.int .u8 0,.int .u8 0,.int .u8 0,.int .u8 0,.int .u8 0,.int .u8 0,.int .u8 0,.int .u8 0,.int .u8 0,.int .u8 0,.int .u8 0,.int .u8 0,.int .u8 0,.int .u8 0,.int .u8 0,.int .u8 0,.int .u8 0,.int .u8 0,.int .u8 0,.int .u8 0,.int .u8 0,.int .u8 0,.int .u8 0]
def z7:List Value:=List.append z6 z6
def z8:List Value:=List.append z7 z7
def z9:List Value:=List.append z8 z8
def z10:List Value:=List.append z9 z9
def z11:List Value:=List.append z10 z10
def z12:List Value:=List.append z11 z11
def z13:List Value:=List.append z12 z12
def z14:List Value:=List.append z13 z13
def z15:List Value:=List.append z14 z14
theorem VM{L:List Value}{n:Nat}(h:L=List.replicate n (.int .u8 0)):List.append L L=List.replicate (n+n) (.int .u8 0):=by subst h;exact List.replicate_append_replicate
theorem zG2:z6=List.replicate 64 (.int .u8 0):=rfl
theorem zG1:z7=List.replicate 128 (.int .u8 0):=VM zG2
theorem zG0:z8=List.replicate 256 (.int .u8 0):=VM zG1
theorem zGO:z9=List.replicate 512 (.int .u8 0):=VM zG0
theorem zX0:z10=List.replicate 1024 (.int .u8 0):=VM zGO
theorem zXO:z11=List.replicate 2048 (.int .u8 0):=VM zX0
theorem zXI:z12=List.replicate 4096 (.int .u8 0):=VM zXO
theorem zXU:z13=List.replicate 8192 (.int .u8 0):=VM zXI
theorem zXA:z14=List.replicate 16384 (.int .u8 0):=VM zXU
theorem z15_eq:z15=List.replicate 32768 (.int .u8 0):=VM zXA
def zraw:List Value:=List.append z15 (List.append z14 (List.append z13 (List.append z12 (List.append z11 (List.append z10 (List.append z9 (List.append z8 (List.append z7 (List.append z6 (List.append [.int .u8 0,.int .u8 0,.int .u8 0,.int .u8 0,.int .u8 0,.int .u8 0,.int .u8 0,.int .u8 0,.int .u8 0,.int .u8 0,.int .u8 0,.int .u8 0,.int .u8 0,.int .u8 0,.int .u8 0,.int .u8 0,.int .u8 0,.int .u8 0,.int .u8 0,.int .u8 0,.int .u8 0,.int .u8 0,.int .u8 0,.int .u8 0,.int .u8 0,.int .u8 0,.int .u8 0,.int .u8 0,.int .u8 0,.int .u8 0,.int .u8 0,.int .u8 0] [.int .u8 0,.int .u8 0,.int .u8 0,.int .u8 0,.int .u8 0,.int .u8 0,.int .u8 0,.int .u8 0,.int .u8 0,.int .u8 0,.int .u8 0,.int .u8 0,.int .u8 0,.int .u8 0,.int .u8 0,.int .u8 0,.int .u8 0,.int .u8 0,.int .u8 0,.int .u8 0,.int .u8 0,.int .u8 0,.int .u8 0,.int .u8 0,.int .u8 0,.int .u8 0,.int .u8 0,.int .u8 0,.int .u8 0,.int .u8 0,.int .u8 0,.int .u8 0,.slice none 0 0]))))))))))
theorem rT{n m:Nat}{L R:List Value}(h:L=List.replicate n (.int .u8 0)){S:List Value}(hS:R=List.replicate m (.int .u8 0)++S):List.append L R=List.replicate (n+m) (.int .u8 0)++S:=by
 subst h;subst hS;show List.replicate n (Value.int .u8 0)++(List.replicate m (Value.int .u8 0)++S)=_;rw[←lH,List.replicate_append_replicate]
theorem zLX:zraw=List.replicate 65536 (.int .u8 0)++[.slice none 0 0]:=
 rT z15_eq (rT zXA (rT zXU (rT zXI (rT zXO (rT zX0 (rT zGO (rT zG0 (rT zG1 (rT zG2 (rT (n:=32) (m:=32) rfl rfl))))))))))
def cells(M:List Int)(v:Value):Array Value:=(M.map (Value.int .u8)++[v]).toArray
theorem WI:zraw.toArray=cells xT (.slice none 0 0):=by
 rw[zLX];unfold cells xT;rw[List.map_replicate]
theorem zQF:(Tryz.prog.info? 213).map (fun i=>(i.zero,i.size))=some (some (.agg (cells xT (.slice none 0 0))),65537):=by
 rw[←WI];kernel_rfl
theorem zLV(w:World):(zeroValue 213).run Tryz.prog w=.ok (.agg (cells xT (.slice none 0 0))) w:=(zero_of_info zQF).1 w
def vC(p:Nat)(M:List Int)(v:Value)(w:World):Prop:=w.heap[p]?=some (.cells (cells M v) 213 (0,0))
section
variable {p:Nat} {M:List Int} {v:Value} {w w':World}
theorem vC.lt(h:vC p M v w):p<w.heap.size:=(jZ.1 h).1
theorem vC.cell(h:vC p M v w)(hM:M.length=65536)(j:Nat)(hj:j<65536):w.cell? ⟨p,j,none⟩=some (.int .u8 (M[j]' zBY)):=by
 rw[j4 w p j _ _ _ h];unfold cells;rw[zX,qA zBS,jK,zP zBY];rfl
theorem vC.log(h:vC p M v w)(hM:M.length=65536):w.cell? ⟨p,65536,none⟩=some v:=by
 rw[j4 w p _ _ _ _ h];unfold cells;rw[zX,qP zBS];simp[hM]
theorem vC.frozen(h:vC p M v w)(j:Nat):w.frozen? ⟨p,j,none⟩=false:=frozen_of_row w p j _ _ h
theorem vC.keep(h:vC p M v w)(hk:w'.heap[p]?=w.heap[p]?):vC p M v w':=hk.trans h
theorem vC.new(w:World):vC w.heap.size xT (.slice none 0 0) (w.alloc (.cells (cells xT (.slice none 0 0)) 213)):=jN _ _
theorem vC.setLog(h:vC p M v w)(hM:M.length=65536)(v':Value):vC p M v' (w.setCell ⟨p,65536,none⟩ v'):=by
 unfold vC;rw[setCell_eq_setRow w p _ _ _ _ v' h,setRow_heap w p _ _ _ _ h];congr 2
 unfold cells
 apply Array.ext'
 simp[hM]
end
theorem YO(M b:List Int)(v:Value)(off:Nat)(hM:M.length=65536)(h:off+b.length≤65536):
  (splice (M.map (Value.int .u8)++[v]) off (b.map (Value.int .u8))).toArray=cells (splice M off b) v:=by
 unfold cells splice;congr 1
 have e1:(M.map (Value.int .u8)++[v]).take off=(M.take off).map (Value.int .u8):=by
  rw[List.take_append_of_le_length zBS,List.map_take]
 have e2:(M.map (Value.int .u8)++[v]).drop (off+(b.map (Value.int .u8)).length)=(M.drop (off+b.length)).map (Value.int .u8)++[v]:=by
  rw[List.drop_append_of_le_length zBS,List.map_drop,jQ]
 rw[e1,e2];simp
theorem rH{w:World}(ty:TypeId)(p off n c:Nat)(A:Option Addr)(m k d:Nat)(hd:d=min m n)
  (L:List Int) (hL:L.length=m) (hR:Rd w A L) (M:List Int) (v:Value) (hM:M.length=65536) (hp:vC p M v w) (hn:off+n=65536):
  ∃w',(Builtin.copy_ #[22,22] ty #[.slice (some ⟨p,off,none⟩) n c,.slice A m k]).run Tryz.prog w=.ok (.int .i64 (d:Int)) w'∧vC p (splice M off (L.take n)) v w'∧∀g,nC p g w w':=by
 have hll:(L.take n).length≤n:=by rw[qV];omega
 obtain⟨w',h0,h1,h2⟩:=uE ty p off n c _ (fun _=>rfl) A m k d hd L hL hR (M.map (Value.int .u8)++[v]) 213 hp (by simp[hM];omega);refine⟨w',h0,?_,h2⟩;unfold vC;rw[h1,YO M (L.take n) v off hM zBY]
end
section
namespace Num
open Go.RowKit
theorem PT(x:Int):bits .and .i64 x 65535=x%65536:=by
 have h:(BitVec.ofInt 64 x&&&BitVec.ofInt 64 65535).toNat=(x%18446744073709551616).toNat%65536:=by
  have e:(BitVec.ofInt 64 65535).toNat=2^16-1:=zBH;rw[BitVec.toNat_and,e,Nat.and_two_pow_sub_one_eq_mod,BitVec.toNat_ofInt];rfl
 show IntKind.i64.wrap (((BitVec.ofInt 64 x&&&BitVec.ofInt 64 65535).toNat:Nat):Int)=_;rw[h,zU];omega
def lst(a:Int)(n:Nat):List Int:=(List.range n).map fun(i:Nat)=>(a+(i:Int))%65536
end Num
end
section
open Go.RowKit Num
theorem add5(X:List Int)(hX:X.length=5)(v:Value)(n:Nat)(M:List Int)(base:Nat)(w:World)
  (hown:w.ownsRow base 5 1 v n (M.map (Value.int .u8))) (hbase:base≤w.heap.size) (hn:n≤1000):
  Calls Tryz.prog 246 #[v,.agg (arr X)] w fun e w'=>∃v',e=.returned v'∧w'.ownsRow base 5 1 v' (n+5) ((M++X).map (Value.int .u8))∧Below base w w':=by
 obtain⟨i0,hi,hz0,hz1,hz2⟩:=lW rS;have hown1:=hown.alloc (.cells (arr X) 300);have hbox:(w.alloc (.cells (arr X) 300)).heap[w.heap.size]?=some (.cells (arr X) 300 (0,0)):=jN _ _;have hb1:Below base w (w.alloc (.cells (arr X) 300)):=(zB _ _).alloc hbase _;go_enter Tryz.func246,Tryz.ntmps246;go_upto_region 1 with fail;refine zN ?_;refine lX rfl 300 (.tmp 3) rfl w.heap.size rfl 300 (arr X) (0,0) _ hbox Tryz.underlying300 rfl (by rw[MH,hX];kernel_rfl) ?_;generalize w.alloc (Obj.cells (arr X) 300)=w1 at*;clear hown;go_wp2;go_loopw [0,5,8] (fun o i c wr=>∃k:Nat,k≤5∧c=.int .i64 k∧wr.ownsRow base 5 1 o (n+k) ((M++X.take k).map (Value.int .u8))∧Below base w wr∧wr.heap[w.heap.size]?=some (.cells (arr X) 300 (0,0))) (fun _ _ c _=>5-(intOf c).toNat)
 case atStart=>exact⟨0,qE _,rfl,by simpa using hown1,hb1,hbox⟩
 case round=>
  obtain⟨k,hk,rfl,hown,hb,hbox2⟩:=hrel
  have hne:=dD hbox2 zBH hown
  clear hbox hown1 hb1
  by_cases hlt:k<5
  ·have hkX:k<X.length:=zBY
   have hc:wr.cell? ⟨w.heap.size,k,none⟩=some (.int .u8 X[k]):=(j4 wr _ k _ _ _ hbox2).trans (oM X k hkX)
   have ht:=dP hkX
   obtain⟨x,hx⟩:∃x,X[k]=x:=⟨_,rfl⟩
   rw[hx]at hc ht
   clear hx
   go_wp2_with ((at_builtin;refine lG _ rfl _ _ 22 rfl base 5 i0 (.int .u8 0) 1 1 Tryz.underlying22 hi hz0 hz1 hz2 rfl zBH _ _ _ rfl (hown.alloc _) ⟨_,0,none⟩ 1 1 [.int .u8 x] rfl rfl (cell_one_new _ _ _) zRK zB6 zBY zRH ?_;intro v' w2 hown' hgrow _))
   go_roundw
   case rel=>
    refine⟨k+1,by omega,by go_num,?_,(hb.alloc (zD hbase hb.size) _).grown hgrow zRH fun j ej=>(hown.lt j ej).1,iW _ hbox2 hgrow hne⟩
    rw[ht,←lH,jD]
    simpa [qS]using hown'
   case measure=>simp[intOf];omega
  ·have hkn:k=5:=zBY
   subst hkn
   rw[qY zBY]at hown
   go_wp2
   go_ret
   exact⟨_,rfl,hown,hb⟩
theorem add10(X:List Int)(hX:X.length=10)(v:Value)(n:Nat)(M:List Int)(base:Nat)(w:World)
  (hown:w.ownsRow base 5 1 v n (M.map (Value.int .u8))) (hbase:base≤w.heap.size) (hn:n≤1000):
  Calls Tryz.prog 247 #[v,.agg (arr X)] w fun e w'=>∃v',e=.returned v'∧w'.ownsRow base 5 1 v' (n+10) ((M++X).map (Value.int .u8))∧Below base w w':=by
 obtain⟨i0,hi,hz0,hz1,hz2⟩:=lW rS;have hown1:=hown.alloc (.cells (arr X) 303);have hbox:(w.alloc (.cells (arr X) 303)).heap[w.heap.size]?=some (.cells (arr X) 303 (0,0)):=jN _ _;have hb1:Below base w (w.alloc (.cells (arr X) 303)):=(zB _ _).alloc hbase _;go_enter Tryz.func247,Tryz.ntmps247;go_upto_region 1 with fail;refine zN ?_;refine lX rfl 303 (.tmp 3) rfl w.heap.size rfl 303 (arr X) (0,0) _ hbox Tryz.underlying303 rfl (by rw[MH,hX];kernel_rfl) ?_;generalize w.alloc (Obj.cells (arr X) 303)=w1 at*;clear hown;go_wp2;go_loopw [0,5,8] (fun o i c wr=>∃k:Nat,k≤10∧c=.int .i64 k∧wr.ownsRow base 5 1 o (n+k) ((M++X.take k).map (Value.int .u8))∧Below base w wr∧wr.heap[w.heap.size]?=some (.cells (arr X) 303 (0,0))) (fun _ _ c _=>10-(intOf c).toNat)
 case atStart=>exact⟨0,qE _,rfl,by simpa using hown1,hb1,hbox⟩
 case round=>
  obtain⟨k,hk,rfl,hown,hb,hbox2⟩:=hrel
  have hne:=dD hbox2 zBH hown
  clear hbox hown1 hb1
  by_cases hlt:k<10
  ·have hkX:k<X.length:=zBY
   have hc:wr.cell? ⟨w.heap.size,k,none⟩=some (.int .u8 X[k]):=(j4 wr _ k _ _ _ hbox2).trans (oM X k hkX)
   have ht:=dP hkX
   obtain⟨x,hx⟩:∃x,X[k]=x:=⟨_,rfl⟩
   rw[hx]at hc ht
   clear hx
   go_wp2_with ((at_builtin;refine lG _ rfl _ _ 22 rfl base 5 i0 (.int .u8 0) 1 1 Tryz.underlying22 hi hz0 hz1 hz2 rfl zBH _ _ _ rfl (hown.alloc _) ⟨_,0,none⟩ 1 1 [.int .u8 x] rfl rfl (cell_one_new _ _ _) zRK zB6 zBY zRH ?_;intro v' w2 hown' hgrow _))
   go_roundw
   case rel=>
    refine⟨k+1,by omega,by go_num,?_,(hb.alloc (zD hbase hb.size) _).grown hgrow zRH fun j ej=>(hown.lt j ej).1,iW _ hbox2 hgrow hne⟩
    rw[ht,←lH,jD]
    simpa [qS]using hown'
   case measure=>simp[intOf];omega
  ·have hkn:k=10:=zBY
   subst hkn
   rw[qY zBY]at hown
   go_wp2
   go_ret
   exact⟨_,rfl,hown,hb⟩
theorem index5(k:Nat)(h:k<16):∀w:World,(Instr.index 301 (.agg (arr vU)) (.int .i64 k)).run Tryz.prog w=.ok (.agg (arr (sO k))) w:=by
 exact zD5
theorem zHA(w:World):Calls Tryz.prog 220 #[.agg (arr vU)] w (wK 5 vU w):=by
 obtain⟨i0,hi,hz0,hz1,hz2⟩:=lW rS;have hbox:(w.alloc (.cells (arr vU) 301)).heap[w.heap.size]?=some (.cells (arr vU) 301 (0,0)):=jN _ _;have hb1:Below w.heap.size w (w.alloc (.cells (arr vU) 301)):=(zB _ _).alloc (zH _) _;go_enter Tryz.func220,Tryz.ntmps220;go_upto_region 2 with fail;refine zN ?_;refine lX rfl 301 (.tmp 1) rfl w.heap.size rfl 301 (arr vU) (0,0) _ hbox Tryz.underlying301 rfl zBM ?_;generalize w.alloc (Obj.cells (arr vU) 301)=w1 at*;go_wp2;go_loopw [3,7] (fun o c wr=>∃k:Nat,k≤16∧c=.int .i64 k∧wr.ownsRow w.heap.size 5 1 o (5*k) ((vU.take (5*k)).map (Value.int .u8))∧Below w.heap.size w wr) (fun _ c _=>16-(intOf c).toNat)
 case atStart=>exact⟨0,qE _,rfl,qO _ _ _ _,hb1⟩
 case round=>
  obtain⟨k,hk,rfl,hown,hb⟩:=hrel
  clear hb1 hbox
  by_cases hlt:k<16
  ·have ik:=index5 k hlt
   have ht:=AZ k
   obtain⟨x0,x1,x2,x3,x4,hx⟩:=five (AK hlt)
   rw[hx]at ik ht
   have ik':∀w:World,(Instr.index 301 (.agg (arr vU)) (.int .i64 k)).run Tryz.prog w=.ok (.agg #[.int .u8 x0,.int .u8 x1,.int .u8 x2,.int .u8 x3,.int .u8 x4]) w:=ik
   clear ik hx
   go_wp2_with fail
   refine(add5 [x0,x1,x2,x3,x4] rfl _ (5*k) (vU.take (5*k)) w.heap.size _ (hown.alloc _) zRH zBY).mono ?_
   rintro e w' ⟨v',rfl,hown',hb'⟩
   go_wp2
   go_roundw
   case rel=>exact⟨k+1,by omega,by go_num,by rw[ht];exact hown',(hb.alloc hb.size _).trans hb'⟩
   case measure=>simp[intOf];omega
  ·have hkn:k=16:=zBY
   subst hkn
   go_wp2
   go_ret
   rw[qY (by rw[xV];decide)]at hown
   exact⟨_,rfl,by rw[xV];exact hown,hb⟩
theorem zM6(k:Nat)(h:k<16):∀w:World,(Instr.index 304 (.agg (arr wI)) (.int .i64 k)).run Tryz.prog w=.ok (.agg (arr (PH k))) w:=by
 exact zD5
theorem zW8(w:World):Calls Tryz.prog 221 #[.agg (arr wI)] w (wK 5 wI w):=by
 obtain⟨i0,hi,hz0,hz1,hz2⟩:=lW rS;have hbox:(w.alloc (.cells (arr wI) 304)).heap[w.heap.size]?=some (.cells (arr wI) 304 (0,0)):=jN _ _;have hb1:Below w.heap.size w (w.alloc (.cells (arr wI) 304)):=(zB _ _).alloc (zH _) _;go_enter Tryz.func221,Tryz.ntmps221;go_upto_region 2 with fail;refine zN ?_;refine lX rfl 304 (.tmp 1) rfl w.heap.size rfl 304 (arr wI) (0,0) _ hbox Tryz.underlying304 rfl zBM ?_;generalize w.alloc (Obj.cells (arr wI) 304)=w1 at*;go_wp2;go_loopw [3,7] (fun o c wr=>∃k:Nat,k≤16∧c=.int .i64 k∧wr.ownsRow w.heap.size 5 1 o (10*k) ((wI.take (10*k)).map (Value.int .u8))∧Below w.heap.size w wr) (fun _ c _=>16-(intOf c).toNat)
 case atStart=>exact⟨0,qE _,rfl,qO _ _ _ _,hb1⟩
 case round=>
  obtain⟨k,hk,rfl,hown,hb⟩:=hrel
  clear hb1 hbox
  by_cases hlt:k<16
  ·have ik:=zM6 k hlt
   have ht:=zYH k
   obtain⟨x0,x1,x2,x3,x4,x5,x6,x7,x8,x9,hx⟩:=ten (zYB hlt)
   rw[hx]at ik ht
   have ik':∀w:World,(Instr.index 304 (.agg (arr wI)) (.int .i64 k)).run Tryz.prog w=.ok (.agg #[.int .u8 x0,.int .u8 x1,.int .u8 x2,.int .u8 x3,.int .u8 x4,.int .u8 x5,.int .u8 x6,.int .u8 x7,.int .u8 x8,.int .u8 x9]) w:=ik
   clear ik hx
   go_wp2_with fail
   refine(add10 [x0,x1,x2,x3,x4,x5,x6,x7,x8,x9] rfl _ (10*k) (wI.take (10*k)) w.heap.size _ (hown.alloc _) zRH zBY).mono ?_
   rintro e w' ⟨v',rfl,hown',hb'⟩
   go_wp2
   go_roundw
   case rel=>exact⟨k+1,by omega,by go_num,by rw[ht];exact hown',(hb.alloc hb.size _).trans hb'⟩
   case measure=>simp[intOf];omega
  ·have hkn:k=16:=zBY
   subst hkn
   go_wp2
   go_ret
   rw[qY (by rw[yE];decide)]at hown
   exact⟨_,rfl,by rw[yE];exact hown,hb⟩
structure uO(w:World):Prop where
 lt:1<w.heap.size
 big:∀j (h:j<wI.length),w.cell? ⟨1,j,none⟩=some (.int .u8 wI[j])
 small:∀j (h:j<vU.length),w.cell? ⟨0,j,none⟩=some (.int .u8 vU[j])
theorem uO.below{w w':World}{n:Nat}(h:uO w)(hb:Below n w w')(hn:1<n):uO w':=
 ⟨zS h.lt hb.size,fun j hj=>(hb.cell (p:=⟨1,j,none⟩) zBS).trans (h.big j hj),fun j hj=>(hb.cell (p:=⟨0,j,none⟩) zBS).trans (h.small j hj)⟩
theorem uO.step{w w':World}(h:uO w)(hb:Below w.heap.size w w'):uO w':=h.below hb h.lt
theorem WP(g o j:Nat):(⟨g,o,none⟩:Addr).add j=⟨g,o+j,none⟩:=by unfold Addr.add;split<;>simp_all
theorem zZX(w:World)(hL:uO w):Calls Tryz.prog 178 #[] w (wK 5 vU w):=by
 go_enter Tryz.func178,Tryz.ntmps178;go_upto_region 1 with fail;refine zN ?_;refine tQ rfl 301 (.global 0) rfl ⟨0,0,none⟩ rfl vU _ (fun j h=>by rw[WP,qB];exact hL.small j h) Tryz.underlying301 rfl (by rw[xV];kernel_rfl) ?_;go_wp2_with fail;refine(zHA _).mono ?_;rintro e w' ⟨v,rfl,hown,hb⟩;go_wp2;go_ret;exact⟨_,rfl,hown,hb⟩
theorem zH3(w:World)(hL:uO w):Calls Tryz.prog 179 #[] w (wK 5 wI w):=by
 go_enter Tryz.func179,Tryz.ntmps179;go_upto_region 1 with fail;refine zN ?_;refine tQ rfl 304 (.global 1) rfl ⟨1,0,none⟩ rfl wI _ (fun j h=>by rw[WP,qB];exact hL.big j h) Tryz.underlying304 rfl (by rw[yE];kernel_rfl) ?_;go_wp2_with fail;refine(zW8 _).mono ?_;rintro e w' ⟨v,rfl,hown,hb⟩;go_wp2;go_ret;exact⟨_,rfl,hown,hb⟩
theorem ZN(n:Int)(k:Nat)(w:World)(h:n%65536=k):Calls Tryz.prog 59 #[.int .i64 n] w fun e w'=>e=.returned (.int .i64 k)∧w'=w:=by
 have hb:=PT n;rw[h]at hb;clear h;go_enter Tryz.func59,Tryz.ntmps59;exact zDP
theorem GW(n:Int)(k:Nat)(w:World)(h:n%65536=k):Calls Tryz.prog 63 #[.int .i64 n] w fun e w'=>e=.returned (.int .i64 k)∧w'=w:=by
 have H:=zW h;clear h;by_cases hn:n.tmod 65536<0
 all_goals
  go_enter Tryz.func63,Tryz.ntmps63
  go_wp2
  go_ret
  exact⟨uA (by have:=mod16 n;have:=H.out;first|omega|(unfold wrap64;omega)),rfl⟩
def Reads(v:Value)(w:World)(e:Ending)(w':World):Prop:=e=.returned v∧∃n,w'=w.drewN n
theorem zJK:(Tryz.prog.info? 254).map (fun i=>(i.zero,i.size,i.bytes))=some (some (.agg #[.int .i64 0,.int .i64 0]),2,16):=by kernel_rfl
def zY7(p:Nat)(M:List Int)(base n:Nat)(xs:List Value)(v:Value)(w:World)(e:Ending)(w':World):Prop:=
 e=.returned (.tuple #[])∧∃v',vC p M v' w'∧w'.ownsRow base 254 2 v' n xs∧nC p v.ownBlock w w'∧(v'.ownBlock=v.ownBlock∨∃g,v'.ownBlock=some g∧w.heap.size≤g)
theorem zV3(w:World)(x y:Value)(t:TypeId):∀j u,[x,y][j]?=some u→(w.alloc (.cells #[x,y] t)).cell? ((⟨w.heap.size,0,none⟩:Addr).add j)=some u:=by
 intro j u hj;rw[yN,j4 _ _ _ _ _ _ (jN w _)];simpa using hj
theorem zJW{p:Nat}{M:List Int}{v:Value}{w1 w2:World}{base n:Nat}{xs:List Value}{o:Obj}(hp:vC p M v w1)(hv:w1.ownsRow base 254 2 v n xs)(hg:(w1.drew.alloc o).grownBy w2 v.ownBlock):vC p M v w2:=by
 have hlt:=hp.lt;have hne:=vY hv hp zBH;refine hp.keep ((hg.block p zBS (fun e=>hne e.symm)).trans ?_);exact heap_alloc_old w1.drew _ hlt
theorem zQ6{p:Nat}{M:List Int}{v:Value}{base n cap gg:Nat}{xs:List Value}{w w1 w2:World}{o:Obj}(hM:M.length=65536)(ha:nC p v.ownBlock w w1)(hs:w1.heap.size=w.heap.size+1)(q:vC p M v w2)
  (hown:w2.ownsRow base 254 2 (.slice (some ⟨gg,0,none⟩) (n+1) cap) (n+1) xs) (hg:(w1.alloc o).drew.grownBy w2 v.ownBlock) (hat:v.ownBlock=some gg∨gg=(w1.alloc o).drew.heap.size):
  zY7 p M base (n+1) xs v w (.returned (.tuple #[])) (w2.setCell ⟨p,65536,none⟩ (.slice (some ⟨gg,0,none⟩) (n+1) cap)):=by
 have hne:=vY hown q zBH;refine⟨rfl,_,q.setLog hM _,vG hown (p:=p) (g:=none) (nC.setCell _ _) hne (fun k hk=>by cases hk),?_,?_⟩
 ·have h1:nC p v.ownBlock w1 (w1.alloc o).drew:=(nC.of_below ((zB _ _).alloc (zH _) _)).drew;exact((ha.trans h1).trans (nC.of_grown hg)).trans (nC.setCell _ _)
 ·rcases hat with h|h
  ·exact .inl h.symm
  ·refine .inr ⟨gg,rfl,?_⟩;rw[h];show w.heap.size≤(w1.alloc o).heap.size;simp;omega
theorem zGR(p:Nat)(M:List Int)(v:Value)(n base:Nat)(xs:List Value)(x y:Int)(w:World)(hM:M.length=65536)(hp:vC p M v w)(hv:w.ownsRow base 254 2 v n xs)(hb:base≤w.heap.size)(hn:n≤1000):
  Calls Tryz.prog 264 #[.pointer (some ⟨p,65536,none⟩),.agg #[.int .i64 x,.int .i64 y]] w (zY7 p M base (n+1) (xs++[.int .i64 x,.int .i64 y]) v w):=by
 obtain⟨i0,hi,hz0,hz1,hz2⟩:=lW zJK;have hlt:=hp.lt;have cl:(w.alloc (.cells #[.int .i64 x,.int .i64 y] 254)).cell? ⟨p,65536,none⟩=some v:=by
  rw[qM (w:=w) (heap_alloc_old _ _ hlt)];exact hp.log hM
 have clf:(w.alloc (.cells #[.int .i64 x,.int .i64 y] 254)).frozen? ⟨p,65536,none⟩=false:=by
  rw[World.frozen?_of_block (w:=w) (heap_alloc_old _ _ hlt)];exact hp.frozen _
 have c0:(w.alloc (.cells #[.int .i64 x,.int .i64 y] 254)).cell? ⟨w.heap.size,0,none⟩=some (.int .i64 x):=by rw[j4 _ _ _ _ _ _ (jN w _)];rfl
 have c1:(w.alloc (.cells #[.int .i64 x,.int .i64 y] 254)).cell? ⟨w.heap.size,1,none⟩=some (.int .i64 y):=by rw[j4 _ _ _ _ _ _ (jN w _)];rfl
 have P:=zW (zY hp hv);clear hp hv;go_enter Tryz.func264,Tryz.ntmps264;go_wp2;obtain⟨w1,hw1⟩:∃w1,w1=w.alloc (.cells #[.int .i64 x,.int .i64 y] 254):=⟨_,rfl⟩;rw[←hw1]at cl clf c0 c1⊢;have hp1:vC p M v w1:=P.out.1.keep (by rw[hw1];exact heap_alloc_old _ _ hlt);have hv1:w1.ownsRow base 254 2 v n xs:=by rw[hw1];exact P.out.2.alloc _
 have hs1:w1.heap.size=w.heap.size+1:=by rw[hw1];simp
 have ha1:nC p v.ownBlock w w1:=by rw[hw1];exact nC.of_below ((zB _ _).alloc (zH _) _)
 have Q:=zW (zY hp1 (zY hv1 (zY ha1 hs1)));clear hw1 hp1 hv1 ha1 hs1;have g1:w.heap.size<w1.heap.size:=by have:=Q.out.2.2.2;omega
 have g2:p<w1.heap.size:=zBY;go_region_law ((refine step_append_lies _ zBB _ _ _ zBB base 254 i0 _ 2 16 Tryz.underlying195 hi hz0 hz1 hz2 rfl zBY v n xs zBB (World.ownsRow.alloc (w:=w1.drew) Q.out.2.1 _) ⟨w1.heap.size,0,none⟩ 1 1 [.int .i64 x,.int .i64 y] zBB zBB (zV3 w1.drew _ _ _) zRK zBY zB6 zBY zBS _ rfl ?_;intro gg cap w2 hown2 hgrow hat hlt2;have q2:=zJW Q.out.1 Q.out.2.1 hgrow;have ql:=q2.log hM;have qf:=q2.frozen 65536;have Q2:=zW (zY q2 (zY hown2 (zY hgrow hat)));clear q2 hown2 hgrow hat))
 all_goals
  go_wp2
  go_end0
  exact zQ6 hM Q.out.2.2.1 Q.out.2.2.2 Q2.out.1 Q2.out.2.1 Q2.out.2.2.1 Q2.out.2.2.2
theorem I3:Tryz.prog.arrayLen 209=65536:=by kernel_rfl
theorem oK(p k:Nat)(hk:k<65536)(w:World):(Instr.sliceAt 209 (.pointer (some ⟨p,0,none⟩)) (some (.int .i64 (k:Int))) none none).run Tryz.prog w=.ok (.slice (some ⟨p,k,none⟩) (65536-k) (65536-k)) w:=by
 have h:=run_sliceAt_array_l (P:=Tryz.prog) w 209 ⟨p,0,none⟩ Tryz.underlying209 .i64 k zBY (by rw[I3];omega);rw[h,I3];show Result.ok (slicedAt _ _ _ _ 1) w=_;unfold slicedAt;rw[zL zBS,yN];simp
theorem zQC(p N:Nat)(hN:N=65536)(w:World):(Instr.sliceAt 209 (.pointer (some ⟨p,0,none⟩)) none none none).run Tryz.prog w=.ok (.slice (some ⟨p,0,none⟩) N N) w:=by
 subst hN;have h:=run_sliceAt_array_all (P:=Tryz.prog) w 209 ⟨p,0,none⟩ Tryz.underlying209;rw[h,I3];show Result.ok (slicedAt _ _ _ _ 1) w=_;unfold slicedAt;rw[zL zBY,yN]
theorem zQ7(p:Nat)(M:List Int)(v:Value)(n base:Nat)(xs:List Value)(a:Int)(k:Nat)(A:Option Addr)(m c:Nat)(L:List Int)(w:World)(hM:M.length=65536)(hp:vC p M v w)
  (hv:w.ownsRow base 254 2 v n xs) (hb:base≤w.heap.size) (hn:n≤1000) (hk:a%65536=k) (hL:L.length=m) (m0:0<m) (m1:m≤65536) (hmc:m≤c) (hR:Rd w A L) (hA:∀ad,A=some ad→ad.block≠p):
  Calls Tryz.prog 228 #[.pointer (some ⟨p,0,none⟩),.int .i64 a,.slice A m c] w (zY7 p (put M a L) base (n+1) (xs++[.int .i64 k,.int .i64 m]) v w):=by
 have k0:0≤(k:Int):=zBY;have k1:(k:Int)<65536:=zBY;have k2:k<65536:=zBY;have ks:=oK p k k2;have k3:((m:Int)==0)=false:=by simp;omega
 have H:=zW (zY hk (zY hL (zY hM (zY hp (zY hv (zY hR hA))))));clear hk hL hM hp hv hR hA;go_enter Tryz.func228,Tryz.ntmps228;go_wp2_with fail;refine(ZN _ _ _ H.out.1).mono ?_;rintro e w0 ⟨rfl,h⟩;subst h;go_wp2_with fail;obtain⟨d,hd⟩:∃d,d=min m (65536-k):=⟨_,rfl⟩;obtain⟨w1,hrun,hp1,ha1⟩:=rH 3 p k (65536-k) (65536-k) A m c d hd L H.out.2.1 H.out.2.2.2.2.2.1 M v H.out.2.2.1 H.out.2.2.2.1 zBY;have D:=zW hd;have d0:0≤(d:Int):=zBY;have d1:(d:Int)≤(m:Int):=zBY;have d2:(d:Int)≤(c:Int):=zBY;have P1:=zW (zY hp1 ha1);clear hd hp1 ha1;rw[hrun];clear hrun ks;go_wp2_with fail;obtain⟨N,hN⟩:∃N,N=65536:=⟨_,rfl⟩;have kl:=zQC p N hN;have HN:=zW hN;clear hN;refine nR (C:=fun w'=>∃x:rU,w'=x.w) [([0,1,2,3,4,5,6],7)] [] zBM zBM (fun _ _ d _ _ h=>by cases d<;>exact h) (rU.any _) ?_;intro wd hwd;have P2:vC p (splice M k (L.take (65536-k))) v wd∧∀g,nC p g w0 wd:=by rw[hwd];exact⟨P1.out.1,fun g=>(P1.out.2 g).drew⟩
 have PD:=zW P2;clear hwd P2 P1;refine nD zBN zBB ?_;repeat(go_big_quiet_step (fail))
 refine zM ?_;refine nK zBB ?_;intro K hK;have hl1:(splice M k (L.take (65536-k))).length=65536:=by
  have h1:=H.out.2.1;have h2:=H.out.2.2.1;rw[wB _ _ _ zR8];exact h2
 have R1:Rd wd A L:=H.out.2.2.2.2.2.1.keep ((PD.out.2 none).size) fun ad e hlt=>(PD.out.2 none).block ad.block hlt (H.out.2.2.2.2.2.2 ad e) zBT;obtain⟨w2,hrun,hp2,ha2⟩:=rH 3 p 0 N N (if c=d then A else A.map (·.add d)) (m-d) (c-d) (m-d) (by have:=HN.out;omega) (L.drop d) (by rw[kK,H.out.2.1]) (R1.cut (by rw[H.out.2.1];exact hmc)) _ v hl1 PD.out.1 (by have:=HN.out;omega);refine yH (.tmp 27) (.tmp 30) rfl 3 rfl _ _ _ zBB zBB hrun 31 zBB ?_;simp only[zQ,zZ,zJ];refine hK _ _ (rU.any _) ?_;clear hK K hrun;generalize Value.slice (if c=d then A else A.map (·.add d)) (m-d) (c-d)=V1;generalize Value.int .i64 ((m-d:Nat):Int)=V2;refine cT zBN ?_;repeat(go_big_quiet_step (fail))
 refine zM ?_;have e2:splice (splice M k (L.take (65536-k))) 0 ((L.drop d).take N)=put M a L:=by
  rw[HN.out];have h1:=H.out.2.1;have h4:=D.out;exact MC M L a k d H.out.1 zBY H.out.2.2.1 zBY
 rw[e2]at hp2;have a02:∀g,nC p g w0 w2:=fun g=>(PD.out.2 g).trans (ha2 g);have P2:=zW (zY hp2 a02);clear e2 hl1 hp2 ha2 kl a02 R1;go_wp2_with fail;have hv2:w2.ownsRow base 254 2 v n xs:=vG (g:=none) H.out.2.2.2.2.1 (P2.out.2 none) (vY H.out.2.2.2.2.1 H.out.2.2.2.1 zBH) (fun k hk=>by cases hk);refine(zGR p (put M a L) v n base xs k m w2 (by rw[cE];exact H.out.2.2.1) P2.out.1 hv2 (zD hb (P2.out.2 none).size) hn).mono ?_;rintro e w3 ⟨rfl,h⟩;have H3:=zW h;clear h;go_wp2;go_end0
 obtain⟨v',h1,h2,h3,h4⟩:=H3.out;refine⟨rfl,v',h1,h2,(P2.out.2 _).trans h3,h4.imp id ?_⟩;rintro⟨g,e,h⟩;exact⟨g,e,zD (P2.out.2 none).size h⟩
def Made(L:List Int)(w:World)(e:Ending)(w':World):Prop:=
 ∃p,e=.returned (.tuple #[.pointer (some ⟨p,0,none⟩),.int .i64 0])∧w.heap.size≤p∧vC p (yJ L) (.slice none 0 0) w'∧Below w.heap.size w w'
theorem wK.slice{ty:TypeId}{L:List Int}{w w':World}{e:Ending}{n:Nat}(h:wK ty L w e w')(hn:L.length=n)(h0:0<n):
  ∃g c,e=.returned (.slice (some ⟨g,0,none⟩) n c)∧n≤c∧w.heap.size≤g∧Rd w' (some ⟨g,0,none⟩) L∧Below w.heap.size w w':=by
 obtain⟨v,rfl,hown,hb⟩:=h;rw[hn]at hown;obtain⟨g,c,rfl,hg,hlt⟩:=hown.form h0;refine⟨g,c,rfl,?_,hg,wE hown,hb⟩;rcases hown.2 with⟨h1,_⟩|⟨g',c',cur,h1,_,_,hc,_⟩
 ·cases h1
 ·injection h1 with _ _ h2
  omega
theorem new_no(A:Option Addr)(n c:Nat)(w:World)(hn:65024<n):
  Calls Tryz.prog 106 #[.slice A n c] w fun e w'=>e=.returned (.tuple #[.pointer none,.int .i64 7])∧w=w':=by
 have k1:(65024:Int)<(n:Int):=zBY;go_enter Tryz.func106,Tryz.ntmps106;go_wp2;go_ret2;exact⟨rfl,rfl⟩
theorem zMU(A:Option Addr)(n c:Nat)(L:List Int)(w:World)(hn:n≤65024)(hL:L.length=n)(hR:Rd w A L)(hF:uO w):
  Calls Tryz.prog 106 #[.slice A n c] w (Made L w):=by
 have k1:¬(65024:Int)<(n:Int):=zBY;have hz:=zLV;have H:=zW (zY hL (zY hR hF));clear hL hR hF;go_enter Tryz.func106,Tryz.ntmps106;go_wp2_with fail;clear hz;have B1:Below w.heap.size w (w.alloc (.cells (cells xT (.slice none 0 0)) 213)):=(zB _ _).alloc (zH _) _;have M1:=vC.new w;obtain⟨p,hp⟩:∃p,p=w.heap.size:=⟨_,rfl⟩;generalize w.alloc (.cells (cells xT (.slice none 0 0)) 213)=w1 at*;rw[←hp]at M1⊢;have P1:=zW (zY B1 (zY M1 hp));clear B1 M1 hp;have c80:∀w,(Instr.sliceAt 209 (.pointer (some ⟨p,0,none⟩)) (some (.int .i64 80)) none none).run Tryz.prog w=.ok (.slice (some ⟨p,80,none⟩) 65456 65456) w:=oK p 80 zBY;have c160:∀w,(Instr.sliceAt 209 (.pointer (some ⟨p,0,none⟩)) (some (.int .i64 160)) none none).run Tryz.prog w=.ok (.slice (some ⟨p,160,none⟩) 65376 65376) w:=oK p 160 zBY;have c512:∀w,(Instr.sliceAt 209 (.pointer (some ⟨p,0,none⟩)) (some (.int .i64 512)) none none).run Tryz.prog w=.ok (.slice (some ⟨p,512,none⟩) 65024 65024) w:=oK p 512 zBY;refine nR (C:=fun w'=>∃x:rU,w'=x.w) [([0,1,2,3],4),([],5)] [] zBM zBM (fun _ _ d _ _ h=>by cases d<;>exact h) (rU.any _) ?_;intro wd hwd;have P2:Below w.heap.size w wd∧vC p xT (.slice none 0 0) wd∧p=w.heap.size:=by rw[hwd];exact⟨P1.out.1.drew,P1.out.2⟩
 have PD:=zW P2;clear hwd P2 P1;refine nD zBN zBB ?_;repeat(go_big_quiet_step (fail))
 refine zM ?_;refine nK zBB ?_;intro K hK;go_wp2_with fail;refine(zZX _ (H.out.2.2.step PD.out.1)).mono ?_;rintro e w2 h;obtain⟨g,c2,rfl,_,_,R2,b2⟩:=h.slice xV zBY;have P2:Below w.heap.size w w2∧vC p xT (.slice none 0 0) w2∧p=w.heap.size:=⟨PD.out.1.trans (b2.mono PD.out.1.size),PD.out.2.1.keep (b2.block p PD.out.2.1.lt),PD.out.2.2⟩;obtain⟨v2,hrun,hm2,ha2⟩:=rH 3 p 80 65456 65456 (some ⟨g,0,none⟩) 80 c2 80 zBY vU xV R2 xT (.slice none 0 0) (by exact xK) P2.2.1 zBY;rw[qY (by rw[xV];omega),aP _ _ _ (by exact xK) (by rw[xV];omega)]at hm2;have Q2:=zW (zY (P2.1.trans ((ha2 none).below P2.1.size (by have:=P2.2.2;omega) (fun k hk=>by cases hk))) (zY hm2 P2.2.2));clear h PD R2 b2 P2 hm2 ha2;simp only[];refine hK _ _ (rU.any _) ?_;clear hK K;refine nD zBN zBB ?_;refine zM ?_;refine nK zBB ?_;intro K hK;refine yH (.tmp 12) (.tmp 13) rfl 3 rfl _ _ _ zBB zBB hrun 14 zBB ?_;simp only[zQ,zZ,zJ];refine hK _ _ (rU.any _) ?_;clear hK K hrun;refine cT zBN ?_;refine zM ?_;clear c80;go_wp2_with fail;refine nR (C:=fun w'=>∃x:rU,w'=x.w) [([0,1,2,3],4),([],5)] [] zBM zBM (fun _ _ d _ _ h=>by cases d<;>exact h) (rU.any _) ?_;intro wd hwd;have P2:Below w.heap.size w wd∧vC p (put xT 80 vU) (.slice none 0 0) wd∧p=w.heap.size:=by rw[hwd];exact⟨Q2.out.1.drew,Q2.out.2⟩
 have PD:=zW P2;clear hwd P2 Q2;refine nD zBN zBB ?_;repeat(go_big_quiet_step (fail))
 refine zM ?_;refine nK zBB ?_;intro K hK;go_wp2_with fail;refine(zH3 _ (H.out.2.2.step PD.out.1)).mono ?_;rintro e w3 h;obtain⟨g,c3,rfl,_,_,R3,b3⟩:=h.slice yE zBY;have P3:Below w.heap.size w w3∧vC p (put xT 80 vU) (.slice none 0 0) w3∧p=w.heap.size:=⟨PD.out.1.trans (b3.mono PD.out.1.size),PD.out.2.1.keep (b3.block p PD.out.2.1.lt),PD.out.2.2⟩;obtain⟨v3,hrun,hm3,ha3⟩:=rH 3 p 160 65376 65376 (some ⟨g,0,none⟩) 160 c3 160 zBY wI yE R3 (put xT 80 vU) (.slice none 0 0) (by rw[cE];exact xK) P3.2.1 zBY;rw[qY (by rw[yE];omega),aP _ _ _ (by rw[cE];exact xK) (by rw[yE];omega)]at hm3;have Q3:=zW (zY (P3.1.trans ((ha3 none).below P3.1.size (by have:=P3.2.2;omega) (fun k hk=>by cases hk))) (zY hm3 P3.2.2));clear h PD R3 b3 P3 hm3 ha3;simp only[];refine hK _ _ (rU.any _) ?_;clear hK K;refine nD zBN zBB ?_;refine zM ?_;refine nK zBB ?_;intro K hK;refine yH (.tmp 18) (.tmp 19) rfl 3 rfl _ _ _ zBB zBB hrun 20 zBB ?_;simp only[zQ,zZ,zJ];refine hK _ _ (rU.any _) ?_;clear hK K hrun;refine cT zBN ?_;refine zM ?_;clear c160;go_wp2_with fail;have R3:Rd v3 A L:=H.out.2.1.below Q3.out.1;obtain⟨w4,hrun,hm4,ha4⟩:=rH 3 p 512 65024 65024 A n c n zBY L H.out.1 R3 (put (put xT 80 vU) 160 wI) (.slice none 0 0) (by rw[cE,cE];exact xK) Q3.out.2.1 zBY;rw[qY (by rw[H.out.1];omega),aP _ _ _ (by rw[cE,cE];exact xK) (by rw[H.out.1];omega)]at hm4;have Q4:=zW (zY (Q3.out.1.trans ((ha4 none).below Q3.out.1.size (by have:=Q3.out.2.2;omega) (fun k hk=>by cases hk))) (zY hm4 Q3.out.2.2));clear R3 hm4 ha4 Q3 c512;rw[hrun];clear hrun;go_wp2;go_ret2;exact⟨p,rfl,by have:=Q4.out.2.2;omega,Q4.out.2.1,Q4.out.1⟩
def Gave(n:Nat)(L:List Int)(w:World)(e:Ending)(w':World):Prop:=
 ∃g,e=.returned (.slice (some ⟨g,0,none⟩) n n)∧w.heap.size≤g∧Rd w' (some ⟨g,0,none⟩) L∧Below w.heap.size w w'
theorem YK(p:Nat)(M:List Int)(v:Value)(a:Int)(k n:Nat)(w:World)(hM:M.length=65536)(hp:vC p M v w)(hk:a%65536=k)(hn:n≤65536):
  Calls Tryz.prog 77 #[.pointer (some ⟨p,0,none⟩),.int .i64 a,.int .i64 (n:Int)] w (Gave n (seg M a n) w):=by
 have m1:max (n:Int) 0=n:=zBY;have m2:min (n:Int) 65536=n:=zBY;have mk:=bH n n rfl zBY;have H:=zW (zY hM (zY hp hk));clear hM hp hk;go_enter Tryz.func77,Tryz.ntmps77;go_wp2_with fail;clear mk m1 m2;have B1:Below w.heap.size w (w.alloc (.cells (arr (List.replicate n 0)) 5)):=(zB _ _).alloc (zH _) _;have G1:(w.alloc (.cells (arr (List.replicate n 0)) 5)).heap[w.heap.size]?=some (.cells (arr (List.replicate n 0)) 5 (0,0)):=jN _ _;obtain⟨g,hg⟩:∃g,g=w.heap.size:=⟨_,rfl⟩;generalize w.alloc (.cells (arr (List.replicate n 0)) 5)=w1 at*;rw[←hg]at G1⊢;have P1:=zW (zY B1 (zY G1 hg));clear B1 G1 hg;have k2:k<65536:=by have:=H.out.2.2;omega
 have c1:=oK p k k2;obtain⟨N,hN⟩:∃N,N=65536:=⟨_,rfl⟩;have c2:=zQC p N hN;obtain⟨d,hd⟩:∃d,d=min (65536-k) n:=⟨_,rfl⟩;obtain⟨D,hD⟩:∃D,D=if n=d then some (⟨g,0,none⟩:Addr)else some ⟨g,d,none⟩:=⟨_,rfl⟩;have c3:=zHC g n d zBY D hD;have HD:=zW (zY hN (zY hd hD));clear hN hd hD;refine nR (C:=fun w'=>∃x:rU,w'=x.w) [([0,1,2,3,4],5),([6],7)] [8] zBM zBM (fun _ _ d _ _ h=>by cases d<;>exact h) (rU.any _) ?_;intro wd hwd;have P2:Below w.heap.size w wd∧wd.heap[g]?=some (.cells (arr (List.replicate n 0)) 5 (0,0))∧g=w.heap.size:=by rw[hwd];exact⟨P1.out.1.drew,P1.out.2⟩
 have PD:=zW P2;clear hwd P2 P1;refine nD zBN zBB ?_;repeat(go_big_quiet_step (fail))
 refine zM ?_;refine nK zBB ?_;intro K hK;go_wp2_with fail;refine(ZN _ k _ H.out.2.2).mono ?_;rintro e w' ⟨rfl,h⟩;replace h:=h.symm;subst h;simp only[];refine hK _ _ (rU.any _) ?_;clear hK K;refine nD zBN zBB ?_;repeat(go_big_quiet_step (fail))
 refine zM ?_;refine nK zBB ?_;intro K hK;have mp:vC p M v wd:=H.out.2.1.keep (PD.out.1.block p H.out.2.1.lt);have R1:Rd wd (some ⟨p,k,none⟩) (M.drop k):=fun _=>⟨_,rfl,mp.lt,fun j hj=>by
  have hM:=H.out.1;rw[kK]at hj;rw[yN,mp.cell hM (k+j) zBY,List.getElem_drop]⟩
 obtain⟨w2,hrun,hg2,ha2⟩:=pQ 3 g 0 n n (some ⟨g,0,none⟩) (fun _=>rfl) (some ⟨p,k,none⟩) (65536-k) (65536-k) d HD.out.2.1 (M.drop k) (by rw[kK,H.out.1]) R1 (List.replicate n 0) 5 PD.out.2.1 zBT;refine yH (.tmp 15) (.tmp 21) rfl 3 rfl _ _ _ zBB zBB hrun 22 zBB ?_;simp only[zQ,zZ,zJ];refine hK _ _ (rU.any _) ?_;have Q2:=zW (zY (PD.out.1.trans ((ha2 none).below PD.out.1.size (by have:=PD.out.2.2;omega) (fun k hk=>by cases hk))) (zY hg2 PD.out.2.2));clear hK K hrun hg2 ha2 mp R1 PD c1;refine cT zBN ?_;repeat(go_big_quiet_step (fail))
 refine zM ?_;go_wp2_with fail;refine nR (C:=fun w'=>∃x:rU,w'=x.w) [([0,1,2,3,4,5,6],7)] [] zBM zBM (fun _ _ d _ _ h=>by cases d<;>exact h) (rU.any _) ?_;intro wd hwd;have P2:Below w.heap.size w wd∧wd.heap[g]?=some (.cells (arr (splice (List.replicate n 0) 0 ((M.drop k).take n))) 5 (0,0))∧g=w.heap.size:=by rw[hwd];exact⟨Q2.out.1.drew,Q2.out.2⟩
 have PD:=zW P2;clear hwd P2 Q2;refine nD zBN zBB ?_;repeat(go_big_quiet_step (fail))
 refine zM ?_;refine nK zBB ?_;intro K hK;have mp:vC p M v wd:=H.out.2.1.keep (PD.out.1.block p H.out.2.1.lt);have R1:Rd wd (some ⟨p,0,none⟩) M:=fun _=>⟨_,rfl,mp.lt,fun j hj=>by
  have hM:=H.out.1;rw[yN,qB,mp.cell hM j zBY]⟩
 have hl2:(splice (List.replicate n (0:Int)) 0 ((M.drop k).take n)).length=n:=by
  rw[wB _ _ _ (by rw[qV,List.length_replicate];omega),List.length_replicate]
 have hdn:d≤n:=by have:=HD.out.2.1;omega
 obtain⟨w3,hrun,hg3,ha3⟩:=pQ 3 g d (n-d) (n-d) D (fun h=>by rw[HD.out.2.2,zL zBY]) (some ⟨p,0,none⟩) N N (n-d) (by have:=HD.out.1;omega) M (by rw[HD.out.1];exact H.out.1) R1 _ 5 PD.out.2.1 (by rw[hl2];omega);refine yH (.tmp 25) (.tmp 29) rfl 3 rfl _ _ _ zBB zBB hrun 30 zBB ?_;simp only[zQ,zZ,zJ];refine hK _ _ (rU.any _) ?_;rw[YI M (List.replicate n 0) a k n d H.out.2.2 HD.out.2.1 H.out.1 hn List.length_replicate]at hg3;have Q3:=zW (zY (PD.out.1.trans ((ha3 none).below PD.out.1.size (by have:=PD.out.2.2;omega) (fun k hk=>by cases hk))) (zY hg3 PD.out.2.2));clear hK K hrun hg3 ha3 mp R1 PD hl2 c2 c3;refine cT zBN ?_;refine zM ?_;go_wp2;go_ret;refine⟨g,rfl,by have:=Q3.out.2.2;omega,?_,Q3.out.1⟩;intro _;have hg:=Q3.out.2.1;refine⟨_,rfl,(jZ.1 hg).1,fun j hj=>?_⟩;rw[yN,qB,j4 _ _ _ _ _ _ hg];exact oM _ j hj
theorem zJD(c:Int)(w:World)(h0:0≤c)(h1:c≤255):Calls Tryz.prog 248 #[.int .u8 c] w fun e w'=>e=.returned (.int .i64 (dig c))∧w=w':=by
 by_cases h:65≤c
 all_goals
  go_enter Tryz.func248,Tryz.ntmps248
  go_wp2
  go_ret
  refine⟨uA ?_,rfl⟩
  unfold dig
  split<;>omega
theorem zYJ(s:ByteArray)(i:Int)(j:Nat)(e:i=j)(h:i.toNat<s.size):((s[i.toNat]'h).toNat:Int)=chr s j:=by
 have hj:i.toNat=j:=zBY;subst hj;unfold chr;rw[dif_pos h]
theorem zNQ(s:ByteArray)(i:Int)(k:Nat)(p0:i.toNat<s.size)(p1:(i+1).toNat<s.size)(e0:(((s[i.toNat]'p0).toNat:Nat):Int)=chr s (2*k))(e1:(((s[(i+1).toNat]'p1).toNat:Nat):Int)=chr s (2*k+1)):
  IntKind.u8.wrap (16*dig (((s[i.toNat]'p0).toNat:Nat):Int)+dig (((s[(i+1).toNat]'p1).toNat:Nat):Int))=hexB s k:=by
 rw[j9,e0,e1];rfl
theorem NY(s:ByteArray)(n:Nat)(w:World)(hs:s.size=2*n)(hn:n≤1000):
  Calls Tryz.prog 222 #[.string s] w (wK 5 (oQ s n) w):=by
 obtain⟨i0,hi,hz0,hz1,hz2⟩:=lW rS;have Hs:=zW hs;clear hs;go_enter Tryz.func222,Tryz.ntmps222;go_wp2;go_loopw [3,4] (fun o c wr=>∃(k:Nat) (i:Int),k≤n∧c=.int .i64 i∧i=2*k∧wr.ownsRow w.heap.size 5 1 o k ((oQ s k).map (Value.int .u8))∧Below w.heap.size w wr) (fun _ c _=>2*n-(intOf c).toNat)
 case atStart=>exact⟨0,0,qE _,rfl,rfl,qO _ _ _ _,zB _ _⟩
 case round=>
  obtain⟨k,i,hk,rfl,hik,hown,hb⟩:=hrel
  have hsz:=Hs.out
  by_cases hlt:k<n
  ·have hi0:0≤i:=zBY
   have hi1:i<(s.size:Int):=zBY
   have hi2:0≤i+1:=zBY
   have hi4:i+2≤2002:=zBY
   have hi3:i+1<(s.size:Int):=zBY
   have f3:=j5 (i+1) zBY
   have p0:i.toNat<s.size:=zBY
   have p1:(i+1).toNat<s.size:=zBY
   have e0:=zYJ s i (2*k) zBY p0
   have e1:=zYJ s (i+1) (2*k+1) zBY p1
   have E:=zW (zY hik (zY e0 e1))
   clear e0 e1 hsz hik
   have x0:0≤(((s[i.toNat]'p0).toNat:Nat):Int)∧(((s[i.toNat]'p0).toNat:Nat):Int)≤255:=by have:=(s[i.toNat]'p0).toNat_lt;omega
   have x1:0≤(((s[(i+1).toNat]'p1).toNat:Nat):Int)∧(((s[(i+1).toNat]'p1).toNat:Nat):Int)≤255:=by have:=(s[(i+1).toNat]'p1).toNat_lt;omega
   have r0:=XU x0.1 x0.2
   have r1:=XU x1.1 x1.2
   have f1:=j5 (16*dig (((s[i.toNat]'p0).toNat:Nat):Int)) zBY
   have f2:=j5 (16*dig (((s[i.toNat]'p0).toNat:Nat):Int)+dig (((s[(i+1).toNat]'p1).toNat:Nat):Int)) zBY
   clear r0 r1
   go_wp2
   have hsz2:=hb.size
   go_region_held3 (fun _=>True) (trivial)
    (first
     |(go_at_call 248;refine(zJD _ _ ?_ ?_).mono ?_;(omega);(omega);rintro e w' ⟨rfl,rfl⟩)
     |((refine step_append_lies _ zBB _ _ _ zBB w.heap.size 5 i0 _ 1 1 Tryz.underlying22 hi hz0 hz1 hz2 rfl zBY _ _ _ zBB ((hown.alloc _).drew) ⟨wr.heap.size,0,none⟩ 1 1 [.int .u8 (IntKind.u8.wrap (16*dig (((s[i.toNat]'p0).toNat:Nat):Int)+dig (((s[(i+1).toNat]'p1).toNat:Nat):Int)))] zBB zBB (World.news_of_block (cs:=#[.int .u8 (IntKind.u8.wrap (16*dig (((s[i.toNat]'p0).toNat:Nat):Int)+dig (((s[(i+1).toNat]'p1).toNat:Nat):Int)))]) (t:=5) (fr:=(0,0)) (jN wr _)) zRK zBY zB6 zBY zBS _ rfl ?_;intro gg cap w1 hown1 hgrow hat hlt)))
   all_goals
    clear f1 f2 f3
    go_wp2
    go_roundw
    case rel=>
     refine⟨k+1,i+2,by omega,by go_num,by have:=E.out.1;omega,?_,(hb.alloc hsz2 _).drew.grown hgrow zBS fun j ej=>(hown.lt j ej).1⟩
     rw[zJV,jD,←zNQ s i k p0 p1 E.out.2.1 E.out.2.2]
     exact hown1
    case measure=>have:=E.out.1;simp[intOf];omega
  ·have hkn:k=n:=zBY
   subst hkn
   have hge:¬i<(s.size:Int):=zBY
   clear hsz hik
   go_wp2
   go_ret
   exact⟨_,rfl,by rw[zJM];exact hown,hb⟩
theorem CY(w:World):Calls Tryz.prog 182 #[] w (wK 5 vU w):=by
 go_enter Tryz.func182,Tryz.ntmps182;go_wp2_with fail;refine(NY _ 80 _ zBM zBY).mono ?_;rintro e w' h;obtain⟨v,rfl,hown,hb⟩:=h;go_wp2;go_ret;exact⟨_,rfl,by rw[show oQ _ 80=vU by decide+kernel]at hown;exact hown,hb⟩
theorem zVK(w:World):Calls Tryz.prog 183 #[] w (wK 5 wI w):=by
 go_enter Tryz.func183,Tryz.ntmps183;go_wp2_with fail;refine(NY _ 160 _ zBM zBY).mono ?_;rintro e w' h;obtain⟨v,rfl,hown,hb⟩:=h;go_wp2;go_ret;exact⟨_,rfl,by rw[show oQ _ 160=wI by decide+kernel]at hown;exact hown,hb⟩
end
section
open Go.RowKit
theorem bO{P:Program}{id:Nat}{Q:Exit→Act→World→Prop}{a:Act}{w:World}{l:List Oper}(n:Nat)(hm:P.follows .mixedOrders=true)(hB:Region.lexTailB .any l.toArray n=true)
  (h:∀wd,wd=w.drew→wpStill P l.toArray wd (fun a'=>wpList P l.toArray Q (l.drop n) a' wd) (l.take n) a):(Code.region id l.toArray true).wp P Q a w:=
 wp_region_still_tail n hm hB (h w.drew rfl)
end
section
open Go.RowKit Num
theorem rB(ad:Addr)(N c:Nat)(M:List Int)(a:Int)(B:Option Addr)(m d:Nat)(L:List Int)(w:World)(hN:N=65536)(hM:M.length=N)(hR:ad.block<w.heap.size∧∀j (h:j<M.length),w.cell? (ad.add j)=some (.int .u8 M[j]))
  (a0: -2000000≤a) (a1:a≤2000000) (hL:L.length=m) (m1:m≤65536) (hB:Rd w B L):
  Calls Tryz.prog 153 #[.slice (some ad) N c,.int .i64 a,.slice B m d] w (wK 5 (put M a L) w):=by
 obtain⟨i0,hi,hz0,hz1,hz2⟩:=lW rS;have Hi:=zW (zY hi (zY hz0 (zY hz1 hz2)));have N0:0<N:=zBY;have N1:N≤65536:=zBY;have H:=zW (zY hN (zY hM (zY hL (zY hR hB))));clear hN hM hL hR hB hi hz0 hz1 hz2;have hown0:(w.alloc (.cells #[] 5)).ownsRow w.heap.size 5 1 (.slice (some ⟨w.heap.size,0,none⟩) 0 0) 0 []:=World.ownsRow_made w #[] 0 (zH _) zB6 rfl;have hb0:Below w.heap.size w (w.alloc (.cells #[] 5)):=(zB _ _).alloc (zH _) _;have hnews:∀j u,(M.map (Value.int .u8))[j]?=some u→(w.alloc (.cells #[] 5)).cell? (ad.add j)=some u:=
  T0 fun j h=>(hb0.cell (p:=ad.add j) (by rw[cP];exact H.out.2.2.2.1.1)).trans (H.out.2.2.2.1.2 j h)
 have Hn:=zW (zY hown0 (zY hb0 hnews));clear hown0 hb0 hnews;go_enter Tryz.func153,Tryz.ntmps153;go_wp2_with ((at_builtin;refine lG _ rfl _ _ 22 rfl w.heap.size 5 i0 (.int .u8 0) 1 1 Tryz.underlying22 Hi.out.1 Hi.out.2.1 Hi.out.2.2.1 Hi.out.2.2.2 rfl zBH _ 0 [] rfl Hn.out.1 ad N c (M.map (Value.int .u8)) rfl (by rw[jQ,Nat.mul_one];exact H.out.2.1) Hn.out.2.2 (XD M) zB6 zBY zBT ?_;intro v' w1 hown1 hgrow _));have hb1:Below w.heap.size w w1:=Hn.out.2.1.grown hgrow zBT fun j ej=>(Hn.out.1.lt j ej).1;rw[jP,qB]at hown1;obtain⟨g,cap,rfl,hg,hgl⟩:=hown1.form N0;have hNc:N≤cap:=by
  rcases hown1.2 with⟨h1,_⟩|⟨g',c',cur,h1,_,_,hc,_⟩
  ·cases h1
  ·injection h1 with _ _ h2
   omega
 have Q:=zW (zY hown1 hb1);clear hown1 hb1 hgrow Hn;go_loopw [8] (fun i wr=>∃k:Nat,k≤m∧i=.int .i64 k∧wr.ownsRow w.heap.size 5 1 (.slice (some ⟨g,0,none⟩) N cap) N ((put M a (L.take k)).map (Value.int .u8))∧Below w.heap.size w wr) (fun i _=>m-(intOf i).toNat)
 case atStart=>exact⟨0,qE _,rfl,by rw[lZ,JN];exact Q.out.1,Q.out.2⟩
 case round=>
  clear Q
  obtain⟨k,hk,rfl,hown,hb⟩:=hrel
  have P:=zW (zY hown hb)
  clear hown hb
  by_cases hlt:k<m
  ·obtain⟨adb,rfl,hlb,hcb⟩:=(H.out.2.2.2.2.below P.out.2).at_ (k:=k) (by rw[H.out.2.2.1];exact hlt)
   have hkL:k<L.length:=by rw[H.out.2.2.1];exact hlt
   have ht:=dP hkL
   obtain⟨x,hx⟩:∃x,L[k]=x:=⟨_,rfl⟩
   rw[hx]at ht hcb
   obtain⟨j,hj⟩:∃j:Nat,(a+(k:Int))%65536=j:=⟨((a+(k:Int))%65536).toNat,by omega⟩
   have j0:0≤(j:Int):=zBY
   have j1:(j:Int)<(N:Int):=by have:=H.out.1;omega
   have f1:=j5 (a+(k:Int)) zBY
   have k0:0≤(k:Int):=zBY
   have k1:(k:Int)<(m:Int):=zBY
   have HT:=zW (zY ht (zY hx hj))
   clear ht hx hj
   go_wp2
   refine bO 10 zBM zBM ?_
   intro wd hwd
   have PD:(wd.ownsRow w.heap.size 5 1 (.slice (some ⟨g,0,none⟩) N cap) N ((put M a (L.take k)).map (Value.int .u8))∧Below w.heap.size w wd)∧wd.cell? (adb.add k)=some (.int .u8 x):=by rw[hwd];exact⟨⟨P.out.1,P.out.2.drew⟩,hcb⟩
   have hcb:=PD.2
   obtain⟨y,cj⟩:∃y,wd.cell? ⟨g,j,none⟩=some y:=by
    have hl:((put M a (L.take k)).map (Value.int .u8)).length=N:=by rw[jQ,cE];exact H.out.2.1
    exact⟨_,(PD.1.1.cellAt j zBY).trans (zP zBY)⟩
   have fj:=PD.1.1.frozenAt j
   have PD:=zW PD.1
   clear hwd P
   simp only[List.take_succ_cons,lZ,List.drop_succ_cons,List.drop_zero]
   repeat still_step
   still_call (GW _ j _ HT.out.2.2)
   repeat still_step
   refine wpStill_nil ?_
   go_wp2
   go_roundw
   case rel=>
    refine⟨k+1,by omega,by go_num,?_,PD.out.2.setCell hg _⟩
    have hs:=(PD.out.1.stored j (.int .u8 x)).1
    have e:((a+((L.take k).length:Int))%65536).toNat=j:=by
     rw[qV,Nat.min_eq_left zBY];have:=HT.out.2.2;omega
    rw[HT.out.1,zVH,e,List.map_set]
    exact hs
   case measure=>simp[intOf];omega
  ·have hkn:k=m:=zBY
   subst hkn
   go_wp2
   go_ret
   have h:=P.out.1
   rw[qY (by rw[H.out.2.2.1];omega)]at h
   have hl:(put M a L).length=N:=by rw[cE];exact H.out.2.1
   exact⟨_,rfl,by rw[hl];exact h,P.out.2⟩
theorem dX(n:Int)(k:Nat)(w:World)(h:n%65536=k):Calls Tryz.prog 63 #[.int .i64 n] w fun e w'=>e=.returned (.int .i64 k)∧w=w':=
 (GW n k w h).mono fun _ _ ⟨he,hw⟩=>⟨he,hw.symm⟩
def GotO(n:Nat)(L:List Int)(w:World)(e:Ending)(w':World):Prop:=∃A c,e=.returned (.slice A n c)∧w'.ownsRow w.heap.size 5 1 (.slice A n c) n (L.map (Value.int .u8))∧Below w.heap.size w w'
def Got(n:Nat)(L:List Int)(w:World)(e:Ending)(w':World):Prop:=(∃A c,e=.returned (.slice A n c)∧Rd w' A L)∧Below w.heap.size w w'
theorem uN(ad:Addr)(N c:Nat)(M:List Int)(a:Int)(n:Nat)(w:World)(hN:N=65536)(hM:M.length=N)(hR:ad.block<w.heap.size∧∀j (h:j<M.length),w.cell? (ad.add j)=some (.int .u8 M[j]))
  (a0: -2000000≤a) (a1:a≤2000000) (n1:n≤1000):
  Calls Tryz.prog 100 #[.slice (some ad) N c,.int .i64 a,.int .i64 (n:Int)] w (GotO n (seg M a n) w):=by
 obtain⟨i0,hi,hz0,hz1,hz2⟩:=lW rS;have H:=zW (zY hN (zY hM hR));clear hN hM hR;go_enter Tryz.func100,Tryz.ntmps100;go_wp2;go_loopw [7,8] (fun o i wr=>∃k:Nat,k≤n∧i=.int .i64 k∧wr.ownsRow w.heap.size 5 1 o k ((seg M a k).map (Value.int .u8))∧Below w.heap.size w wr) (fun _ i _=>n-(intOf i).toNat)
 case atStart=>exact⟨0,qE _,rfl,qO _ _ _ _,zB _ _⟩
 case round=>
  obtain⟨k,hk,rfl,hown,hb⟩:=hrel
  by_cases hlt:k<n
  ·obtain⟨j,hj⟩:∃j:Nat,(a+(k:Int))%65536=j:=⟨((a+(k:Int))%65536).toNat,by omega⟩
   have j0:0≤(j:Int):=zBY
   have j1:(j:Int)<(N:Int):=by have:=H.out.1;omega
   have jM:j<M.length:=by have:=H.out.2.1;omega
   have hs:=zKE M a k
   have e:M.getD ((a+(k:Int))%65536).toNat 0=M[j]:=by
    rw[hj];simp[jM]
   have hc:wr.cell? (ad.add j)=some (.int .u8 M[j]):=(hb.cell (p:=ad.add j) (by rw[cP];exact H.out.2.2.1)).trans (H.out.2.2.2 j jM)
   rw[e]at hs
   clear e
   obtain⟨x,hx⟩:∃x,M[j]=x:=⟨_,rfl⟩
   rw[hx]at hc hs
   have HS:=zW (zY hs hj)
   clear hx hs hj
   go_wp2_with (first
    |(go_at_call 63;refine(dX _ j _ HS.out.2).mono ?_;rintro e w' ⟨rfl,rfl⟩)
    |(at_builtin;refine lG _ rfl _ _ 22 rfl w.heap.size 5 i0 (.int .u8 0) 1 1 Tryz.underlying22 hi hz0 hz1 hz2 rfl zBH _ _ _ rfl (hown.alloc _) ⟨_,0,none⟩ 1 1 [.int .u8 x] rfl rfl (cell_one_new _ _ _) zRK zB6 zBY zRH ?_;intro v' w1 hown' hgrow _))
   go_roundw
   case rel=>
    refine⟨k+1,by omega,by go_num,by rw[HS.out.1];simpa using hown',(hb.alloc hb.size _).grown hgrow zRH fun j ej=>?_⟩
    exact(hown.lt j ej).1
   case measure=>simp[intOf];omega
  ·have hkn:k=n:=zBY
   subst hkn
   go_wp2
   go_ret
   obtain⟨A,c,rfl⟩:=vQ hown
   exact⟨A,c,rfl,hown,hb⟩
theorem KT(ad:Addr)(N c:Nat)(M:List Int)(a:Int)(n:Nat)(w:World)(hN:N=65536)(hM:M.length=N)(hR:ad.block<w.heap.size∧∀j (h:j<M.length),w.cell? (ad.add j)=some (.int .u8 M[j]))
  (a0: -2000000≤a) (a1:a≤2000000) (n1:n≤1000):
  Calls Tryz.prog 100 #[.slice (some ad) N c,.int .i64 a,.int .i64 (n:Int)] w (Got n (seg M a n) w):=
 (uN ad N c M a n w hN hM hR a0 a1 n1).mono fun _ _ ⟨A,c,e,h,b⟩=>⟨⟨A,c,e,wE h⟩,b⟩
theorem wK.bytes{L:List Int}{w w':World}{e:Ending}{n:Nat}(h:wK 5 L w e w')(hn:L.length=n)(h0:0<n):
  ∃g c,e=.returned (.slice (some ⟨g,0,none⟩) n c)∧w.heap.size≤g∧g<w'.heap.size∧w'.ownsRow w.heap.size 5 1 (.slice (some ⟨g,0,none⟩) n c) n (L.map (Value.int .u8))∧Below w.heap.size w w':=by
 obtain⟨v,rfl,hown,hb⟩:=h;rw[hn]at hown;obtain⟨g,c,rfl,hg,hlt⟩:=hown.form h0;exact⟨g,c,rfl,hg,hlt,hown,hb⟩
theorem ZW{w:World}{base:Nat}{e:TypeId}{n c g:Nat}{L:List Int}(h:w.ownsRow base e 1 (.slice (some ⟨g,0,none⟩) n c) n (L.map (Value.int .u8))):∀j (hj:j<L.length),w.cell? ((⟨g,0,none⟩:Addr).add j)=some (.int .u8 L[j]):=fun j hj=>by
 have hl:=h.1;rw[jQ]at hl;rw[yN,qB,h.cellAt j zBY,jK,zP hj];rfl
theorem zK5(A:Option Addr)(n c:Nat)(L:List Int)(w:World)(hL:L.length=n)(hn:n≤65024)(hR:Rd w A L):
  Calls Tryz.prog 113 #[.slice A n c] w (wK 5 (yJ L) w):=by
 obtain⟨N,hN⟩:∃N,N=65536:=⟨_,rfl⟩;have mk:∀w:World,(Instr.makeSlice 22 (.int .i64 65536) (.int .i64 65536)).run Tryz.prog w=.ok (.slice (some ⟨w.heap.size,0,none⟩) N N) (w.alloc (.cells (arr xT) 5)):=by
  subst hN;exact bH 65536 65536 rfl zBY
 have N0:0<N:=zBY;have N1:N≤65536:=zBY;have H:=zW (zY hN (zY hL hR));clear hN hL hR;go_enter Tryz.func113,Tryz.ntmps113;go_wp2_with fail;clear mk;have B1:Below w.heap.size w (w.alloc (.cells (arr xT) 5)):=(zB _ _).alloc (zH _) _;have G1:(w.alloc (.cells (arr xT) 5)).heap[w.heap.size]?=some (.cells (arr xT) 5 (0,0)):=jN _ _;obtain⟨g,hg⟩:∃g,g=w.heap.size:=⟨_,rfl⟩;generalize w.alloc (.cells (arr xT) 5)=w1 at*;rw[←hg]at G1⊢;have P1:=zW (zY B1 G1);clear B1 G1 hg;refine(CY _).mono ?_;rintro e w2 h;obtain⟨g2,c2,rfl,_,_,o2,b2⟩:=h.bytes xV zBY;have P2:=zW (zY (P1.out.1.trans (b2.mono P1.out.1.size)) (zY ((b2.block g (jZ.1 P1.out.2).1).trans P1.out.2) (wE o2)));clear h o2 b2 P1;go_wp2_with fail;refine(rB ⟨g,0,none⟩ N N xT 80 (some ⟨g2,0,none⟩) 80 c2 vU _ H.out.1 (by rw[H.out.1];exact xK) ⟨(jZ.1 P2.out.2.1).1,fun j hj=>by rw[yN,qB,j4 _ _ _ _ _ _ P2.out.2.1];exact oM _ j hj⟩ zBY zBY xV zBY P2.out.2.2).mono ?_;rintro e w3 h;obtain⟨g3,c3,rfl,_,l3,o3,b3⟩:=h.bytes (n:=N) (by rw[cE,H.out.1];exact xK) N0;have P3:=zW (zY (P2.out.1.trans (b3.mono P2.out.1.size)) (zY l3 (ZW o3)));clear h o3 b3 l3 P2;go_wp2_with fail;refine(zVK _).mono ?_;rintro e w4 h;obtain⟨g4,c4,rfl,_,_,o4,b4⟩:=h.bytes yE zBY;have P4:=zW (zY (P3.out.1.trans (b4.mono P3.out.1.size)) (zY (zS P3.out.2.1 b4.size) (zY (fun j hj=>(b4.cell (p:=(⟨g3,0,none⟩:Addr).add j) (by rw[cP];exact P3.out.2.1)).trans (P3.out.2.2 j hj)) (wE o4))));clear h o4 b4 P3;go_wp2_with fail;refine(rB ⟨g3,0,none⟩ N c3 (put xT 80 vU) 160 (some ⟨g4,0,none⟩) 160 c4 wI _ H.out.1 (by rw[cE,H.out.1];exact xK) ⟨P4.out.2.1,P4.out.2.2.1⟩ zBY zBY yE zBY P4.out.2.2.2).mono ?_;rintro e w5 h;obtain⟨g5,c5,rfl,_,l5,o5,b5⟩:=h.bytes (n:=N) (by rw[cE,cE,H.out.1];exact xK) N0;have P5:=zW (zY (P4.out.1.trans (b5.mono P4.out.1.size)) (zY l5 (ZW o5)));clear h o5 b5 l5 P4;go_wp2_with fail;refine(rB ⟨g5,0,none⟩ N c5 (put (put xT 80 vU) 160 wI) 512 A n c L _ H.out.1 (by rw[cE,cE,H.out.1];exact xK) ⟨P5.out.2.1,P5.out.2.2⟩ zBY zBY H.out.2.1 zBY (H.out.2.2.below P5.out.1)).mono ?_;rintro e w6 h;obtain⟨v6,rfl,o6,b6⟩:=h;have P6:=zW (zY (P5.out.1.trans (b6.mono P5.out.1.size)) (cV o6 P5.out.1.size));clear o6 b6 P5;go_wp2;go_ret;exact⟨_,rfl,P6.out.2,P6.out.1⟩
theorem CW(h l:Int)(w:World)(h0:0≤h)(h1:h≤255)(l0:0≤l)(l1:l≤255):
  Calls Tryz.prog 81 #[.int .u8 h,.int .u8 l] w fun e w'=>
   e=.returned (.agg #[.int .i64 (h/16),.int .i64 (h%16),.int .i64 (l/16),.int .i64 (l%16),.int .i64 l,.int .i64 (h%16*256+l)])∧Below w.heap.size w w':=by
 go_enter Tryz.func81,Tryz.ntmps81;go_wp2;go_returns;exact zDU
end
section
open Go.RowKit Num Go.Maps
theorem bU{H:Type}{P:Program}(w:World){ops:Array Oper}{rest:List Oper}{o:Oper}{a:Act}{Q:Exit→Act→World→Prop}
  (hg:o.guard=none) (m x v:Operand) (t:TypeId) (hop:o.op=Op.insert t m x v)
  (k e:TypeId) (K:Keyed P k) (ht:P.underlying t=some (.map k e)) (R:Value→Option (DataW H×List MemPlace)) (b n:Nat) (D:DataW H)
  (hm:a.eval m=.map (some b)) (hown:w.ownsMap P k R b n D) (hn:n<maxLen) (key val:Value) (kl:Lit) (hx:a.eval x=key) (hv:a.eval v=val) (hkey:keyOf P k key=some kl)
  (d:DataW H) (ps:List MemPlace) (hval:R val=some (d,ps))
  (hK:∀w',w'.ownsMap P k R b (n+1) (D.put kl d)→w.grownBy w' (some b)→wpList P ops Q rest (a.put o.dst undef) w'):
  wpList P ops Q (o::rest) a w:=by
 refine qL hg fun K' hK'=>?_;obtain⟨w',hrun,r1,r2⟩:=hown.update K ht hn hkey hval;unfold Oper.wp;simp[execOp,hop,hm,hx,hv,hrun,Result.andThen];exact hK' _ _ (hK w' r1 r2)
def wX(l x:Int):Bool:=decide ((l=2∧0≤x∧x≤7)∨(l=3∧0≤x∧x≤15))
theorem iO:Keyed Tryz.prog 3:=int_keyed Tryz.underlying3
theorem JB(l:Int)(h:(Lit.int .i64 l).wf=true):keyOf Tryz.prog 3 (.int .i64 l)=some (.int .i64 l):=keyOf_int_mk Tryz.underlying3 h
theorem gR(l x:Int)(w:World):Calls Tryz.prog 84 #[.int .i64 l,.int .i64 x] w fun e w'=>e=.returned (.bool (wX l x))∧w=w':=by
 by_cases h2:l=2
 ·subst h2;by_cases h0:0≤x
  ·by_cases h7:x≤7
   ·have e:=zW (show wX 2 x=true by unfold wX;first|exact zO zBY|exact zC zBY);exact zDB
   ·have e:=zW (show wX 2 x=false by unfold wX;first|exact zO zBY|exact zC zBY);exact zDB
  ·have e:=zW (show wX 2 x=false by unfold wX;first|exact zO zBY|exact zC zBY);exact zDB
 ·by_cases h3:l=3
  ·subst h3;by_cases h0:0≤x
   ·by_cases h7:x≤15
    ·have e:=zW (show wX 3 x=true by unfold wX;first|exact zO zBY|exact zC zBY);exact zDB
    ·have e:=zW (show wX 3 x=false by unfold wX;first|exact zO zBY|exact zC zBY);exact zDB
   ·have e:=zW (show wX 3 x=false by unfold wX;first|exact zO zBY|exact zC zBY);exact zDB
  ·have e:=zW (show wX l x=false by unfold wX;first|exact zO zBY|exact zC zBY);exact zDB
end
section
open Go.RowKit
section
variable {P:Program} {b:Nat} {T:TypeId} {cs:Array Value} {w:World}
theorem zJ6{v:Value}(h:v.oneCell'=true):v.cells=#[v]:=by
 cases v<;>first|rfl|(simp[Value.oneCell']at h;done)
theorem zKI(H:Blk b T cs w)(o:Nat)(v:Value){ty:TypeId}(hi:(P.info? ty).map (·.size)=some 1)(h1:v.oneCell'=true)(ho:o<cs.size):
  (storeVar ty ⟨b,o,none⟩ v).run P w=.ok () (w.setCell ⟨b,o,none⟩ v):=by
 have hc:=H.cell o;rw[Array.getElem?_eq_getElem ho]at hc;have hf:=H.frozen o;cases hq:P.info? ty with
 |none=>simp[hq]at hi
 |some i=>
  have hs:i.size=1:=zRI
  have ha:(⟨b,o,none⟩:Addr).add 0=⟨b,o,none⟩:=by simp only[Addr.add,if_true]
  simp[storeVar,sizeOf,typeInfo,hq,zJ6 h1,hs,storeCells,qW,ha,run_store P w _ v _ h1,hc,hf]
theorem bA{op:Oper}{a:Act}{K:Act→World→Prop}{Q:Exit→Act→World→Prop}(H:Blk b T cs w)(o:Nat)(v:Value){ty:TypeId}(hi:(P.info? ty).map (·.size)=some 1)(h1:v.oneCell'=true)(ho:o<cs.size)
  (x y:Operand) (hop:op.op=.store ty x y) (hx:a.eval x=.pointer (some ⟨b,o,none⟩)) (hy:a.eval y=v)
  (h:K (a.put op.dst undef) (w.setCell ⟨b,o,none⟩ v)):op.wp P a w K Q:=by
 unfold Oper.wp execOp;simp only[hop,hx,hy,Instr.storeAt,Instr.sureAddr,qW,jW,qX,zKI H o v hi h1 ho];exact h
end
end
section
namespace Num
open Go.RowKit
def hi(r:BitVec 128):BitVec 64:=r.extractLsb' 64 64
def lo(r:BitVec 128):BitVec 64:=r.extractLsb' 0 64
theorem tM(h l:BitVec 64):hi (h++l)=h:=by
 apply BitVec.eq_of_getLsbD_eq
 intro i hi'
 simp only[hi,BitVec.getLsbD_extractLsb',BitVec.getLsbD_append];rw[zL zBY,show 64+i-64=i by omega];simp[hi']
theorem tL(h l:BitVec 64):lo (h++l)=l:=by
 apply BitVec.eq_of_getLsbD_eq
 intro i hi'
 simp only[lo,BitVec.getLsbD_extractLsb',BitVec.getLsbD_append];rw[zG zBY,show 0+i=i by omega];simp[hi']
theorem QP(r:BitVec 128):hi r++lo r=r:=by
 apply BitVec.eq_of_getLsbD_eq
 intro i hi'
 simp only[hi,lo,BitVec.getLsbD_extractLsb',BitVec.getLsbD_append];split
 ·rename_i h;simp[h]
 ·rename_i h
  rw[show 64+(i-64)=i by omega];simp;omega
theorem WB(h l h' l':BitVec 64):(h++l)&&&(h'++l')=(h&&&h')++(l&&&l'):=by
 apply lB
 intro i _
 simp only[BitVec.getMsbD_and,lL];split<;>rfl
theorem WG(h l h' l':BitVec 64):(h++l)^^^(h'++l')=(h^^^h')++(l^^^l'):=by
 apply lB
 intro i _
 simp only[BitVec.getMsbD_xor,lL];split<;>rfl
theorem zGZ{h l h' l':BitVec 64}:h++l=h'++l'↔h=h'∧l=l':=
 ⟨fun e=>⟨by rw[←tM h l,e,tM],by rw[←tL h l,e,tL]⟩,fun⟨a,b⟩=>by rw[a,b]⟩
def rv(r:BitVec 128):Value:=.agg #[.int .u64 ((hi r).toNat:Int),.int .u64 ((lo r).toNat:Int)]
theorem nL(h l:BitVec 64):rv (h++l)=.agg #[.int .u64 (h.toNat:Int),.int .u64 (l.toNat:Int)]:=by rw[rv,tM,tL]
theorem zKT(u:BitVec 64)(c:Int):(u.toNat:Int)*2^min c.toNat 64%18446744073709551616=((u<<<c.toNat).toNat:Int):=by
 rw[BitVec.toNat_shiftLeft,Nat.shiftLeft_eq];rcases kH c.toNat 64 with h|h
 ·rw[Nat.min_eq_left zBY];simp
 ·rw[Nat.min_eq_right zBY];have e1:u.toNat*2^c.toNat%2^64=0:=by
   rw[show c.toNat=(c.toNat-64)+64 by omega,Nat.pow_add,←Nat.mul_assoc];exact Nat.mul_mod_left _ _
  rw[e1];omega
theorem zG6(u:BitVec 64)(c:Int):(u.toNat:Int)/2^min c.toNat 64=((u>>>c.toNat).toNat:Int):=by
 rw[BitVec.toNat_ushiftRight,Nat.shiftRight_eq_div_pow];rcases kH c.toNat 64 with h|h
 ·rw[Nat.min_eq_left zBY];simp
 ·rw[Nat.min_eq_right zBY];have h2:u.toNat<2^c.toNat:=zS u.isLt (Nat.pow_le_pow_right zBH zBY);rw[Nat.div_eq_of_lt h2];have:=u.isLt;omega
theorem fF(u:BitVec 64):BitVec.ofInt 64 (u.toNat:Int)=u:=by
 apply BitVec.eq_of_toNat_eq
 rw[BitVec.toNat_ofInt]
 have:=u.isLt;omega
theorem YS(u:BitVec 64):IntKind.u64.wrap (u.toNat:Int)=(u.toNat:Int):=by
 rw[IntKind.wrap_u64];have:=u.isLt;omega
theorem zMB(u v:BitVec 64):bits .or .u64 (u.toNat:Int) (v.toNat:Int)=((u|||v).toNat:Int):=by
 show IntKind.u64.wrap (((BitVec.ofInt 64 (u.toNat:Int)|||BitVec.ofInt 64 (v.toNat:Int)).toNat:Nat):Int)=_;rw[fF,fF,YS]
theorem zBX(u v:BitVec 64):bits .and .u64 (u.toNat:Int) (v.toNat:Int)=((u&&&v).toNat:Int):=by
 show IntKind.u64.wrap (((BitVec.ofInt 64 (u.toNat:Int)&&&BitVec.ofInt 64 (v.toNat:Int)).toNat:Nat):Int)=_;rw[fF,fF,YS]
theorem zG3(u v:BitVec 64):bits .xor .u64 (u.toNat:Int) (v.toNat:Int)=((u^^^v).toNat:Int):=by
 show IntKind.u64.wrap (((BitVec.ofInt 64 (u.toNat:Int)^^^BitVec.ofInt 64 (v.toNat:Int)).toNat:Nat):Int)=_;rw[fF,fF,YS]
theorem sJ{n:Nat}(x:BitVec n)(i:Nat)(h:n≤i):x.getMsbD i=false:=by
 rw[BitVec.getMsbD_eq_getLsbD,zC zBY];rfl
theorem zK9(h l:BitVec 64)(k k1 k2:Nat)(e:(k≤64∧k1=64-k)∨(64<k∧64≤k1))(e2:(64≤k∧k2=k-64)∨(k<64∧64≤k2)):
  (h>>>k)++(l>>>k|||h<<<k1|||h>>>k2)=(h++l)>>>k:=by
 apply lB
 intro i hi'
 simp only[lL,BitVec.getMsbD_ushiftRight,BitVec.getMsbD_or,BitVec.getMsbD_shiftLeft];by_cases hlt:64≤i
 ·rw[zG hlt];rcases e with⟨a,b⟩|⟨a,b⟩
  ·rcases e2 with⟨c,d⟩|⟨c,d⟩
   ·have hk:k=64:=zBY;subst hk;subst b;subst d;rw[zL zBY];simp;rw[show decide (i-64<64)=true by simp;omega,show decide (i<128)=true by simp;omega,show decide (i<64)=false by simp;omega];simp
   ·rw[show decide (i-64<k2)=true by simp;omega,show decide (i-64<64)=true by simp;omega];subst b;by_cases hik:i-64<k
    ·rw[zL zBY,show i-64+(64-k)=i-k by omega,show decide (i-64<k)=true by simp;omega,show decide (i<k)=false by simp;omega];simp;omega
    ·rw[zG zBY,show decide (i-64<k)=false by simp;omega,show decide (i<k)=false by simp;omega,sJ h (i-64+(64-k)) zBY,show i-64-k=i-k-64 by omega];simp;omega
  ·rcases e2 with⟨c,d⟩|⟨c,d⟩
   ·rw[show decide (i-64<64)=true by simp;omega,show decide (i-64<k)=true by simp;omega,sJ h (i-64+k1) zBY];subst d;rw[zL zBY];by_cases hik:i<k
    ·rw[show decide (i-64<k-64)=true by simp;omega,show decide (i<k)=true by simp;omega];simp
    ·rw[show decide (i-64<k-64)=false by simp;omega,show decide (i<k)=false by simp;omega,show i-64-(k-64)=i-k by omega];simp;omega
   ·omega
 ·rw[zL hlt,zL zBY,show decide (i<64)=true by simp;omega,show decide (i<64+64)=true by simp;omega]
theorem zM1(h l:BitVec 64)(k k1 k2:Nat)(e:(k≤64∧k1=64-k)∨(64<k∧64≤k1))(e2:(64≤k∧k2=k-64)∨(k<64∧64≤k2)):
  (h<<<k|||l>>>k1|||l<<<k2)++(l<<<k)=(h++l)<<<k:=by
 apply lB
 intro i hi'
 simp only[lL,BitVec.getMsbD_ushiftRight,BitVec.getMsbD_or,BitVec.getMsbD_shiftLeft];by_cases hlt:64≤i
 ·rw[zG hlt,zG zBY,show i-64+k=i+k-64 by omega]
 ·rw[zL hlt,show decide (i<64)=true by simp;omega];rcases e with⟨a,b⟩|⟨a,b⟩
  ·subst b;rcases e2 with⟨c,d⟩|⟨c,d⟩
   ·have hk:k=64:=zBY;subst hk;subst d;rw[zG zBY,sJ h (i+64) zBY];simp
   ·rw[sJ l (i+k2) zBY];by_cases hik:i+k<64
    ·rw[zL zBY,show decide (i<64-k)=true by simp;omega];simp
    ·rw[zG zBY,sJ h (i+k) zBY,show decide (i<64-k)=false by simp;omega,show i-(64-k)=i+k-64 by omega];simp
  ·rcases e2 with⟨c,d⟩|⟨c,d⟩
   ·subst d;rw[zG zBY,sJ h (i+k) zBY,show decide (i<k1)=true by simp;omega,show i+(k-64)=i+k-64 by omega];simp
   ·omega
def mv(r:BitVec 128)(n:Int):BitVec 128:=if n<0 then r<<<(-n).toNat else r>>>n.toNat
def tH(n:Int):BitVec 128:=mv (BitVec.allOnes 128) (n-128)
def rO(r:BitVec 128)(n width:Int):BitVec 128:=mv r n&&&tH width
def px(r:BitVec 128)(x:Nat):Bool:=r.getMsbD x
theorem eI{r s:BitVec 128}(h:∀x,x<128→px r x=px s x):r=s:=lB h
theorem zVM(r:BitVec 128)(x:Nat)(h:128≤x):px r x=false:=sJ r x h
theorem zVN(r s:BitVec 128)(x:Nat):px (r&&&s) x=(px r x&&px s x):=BitVec.getMsbD_and
theorem zVY(r s:BitVec 128)(x:Nat):px (r^^^s) x=(px r x^^px s x):=BitVec.getMsbD_xor
theorem tT(x:Nat):px 0#128 x=false:=by simp[px]
def pxi(r:BitVec 128)(x:Int):Bool:=decide (0≤x)&&px r x.toNat
theorem zVL(r:BitVec 128)(n:Int)(x:Nat)(hx:x<128):px (mv r n) x=pxi r (x-n):=by
 unfold mv px pxi px;split
 ·rw[BitVec.getMsbD_shiftLeft,zO zBY,show((x:Int)-n).toNat=x+(-n).toNat by omega];rfl
 ·rw[BitVec.getMsbD_ushiftRight,zO hx];by_cases h:x<n.toNat
  ·rw[zO h,zC zBY];rfl
  ·rw[zC h,zO zBY,show((x:Int)-n).toNat=x-n.toNat by omega];rfl
theorem zZE(n:Int)(x:Nat)(hx:x<128)(hn:n≤128):px (tH n) x=decide ((x:Int)<n):=by
 unfold tH;rw[zVL _ _ _ hx,pxi,px,BitVec.getMsbD_allOnes,Bool.eq_iff_iff];simp;omega
theorem T5(r:BitVec 128)(n width:Int)(x:Nat)(hx:x<128)(hn:width≤128):px (rO r n width) x=(pxi r (x-n)&&decide ((x:Int)<width)):=by
 unfold rO;rw[zVN,zVL _ _ _ hx,zZE _ _ hx hn]
end Num
namespace Num
open Go.RowKit
def pcn(f:Nat→Bool):Nat→Nat
 |0=>0
 |k+1=>pcn f k+(f k).toNat
theorem zZA{f g:Nat→Bool}(k:Nat)(h:∀i,i<k→f i=g i):pcn f k=pcn g k:=by
 induction k with
 |zero=>rfl
 |succ k ih=>rw[pcn,pcn,ih fun i hi=>h i zBY,h k zBY]
theorem zML(f:Nat→Bool)(j k:Nat):pcn f (j+k)=pcn f j+pcn (fun i=>f (j+i)) k:=by
 induction k with
 |zero=>rfl
 |succ k ih=>rw[←qS,pcn,pcn,ih];omega
theorem zVR{f:Nat→Bool}{k:Nat}:pcn f k=0↔∀i,i<k→f i=false:=by
 induction k with
 |zero=>simp[pcn]
 |succ k ih=>
  rw[pcn]
  constructor
  ·intro h i hi
   rcases kH i k with hlt|hge
   ·exact ih.1 zBY i hlt
   ·have:i=k:=by omega
    subst this
    cases hf:f i
    ·rfl
    ·rw[hf]at h;simp at h
  ·intro h
   rw[ih.2 fun i hi=>h i zBY,h k zBY]
   rfl
def V:List Nat→Nat
 |[]=>0
 |d::ds=>256*V ds+d
def t1(d:Nat):Nat:=(d/2&&&85)+(d&&&85)
def t2(d:Nat):Nat:=(d/4&&&51)+(d&&&51)
def t3(d:Nat):Nat:=(d/16+d)&&&15
def zW9(r:BitVec 128):Nat:=pcn (px r) 128
theorem SQ(r:BitVec 128):zW9 r=0↔r=0#128:=by
 rw[zW9,zVR];constructor
 ·intro h;exact eI fun x hx=>by rw[h x hx,tT]
 ·rintro rfl x _;exact tT x
end Num
namespace Num
open Go.RowKit
def spF(b c x m:Nat)(clip:Bool)(k j:Nat):Bool:=
 (decide (x≤j∧j<x+c∧j<m∧c+x≤j+k)&&b.testBit (c-1-(j-x)))||(!clip&&(decide (j+m<x+c∧c+x≤j+m+k)&&b.testBit (c-1-(j+m-x))))
theorem zKL(b c x m:Nat)(clip:Bool)(j:Nat)(hc:0<c):spF b c x m clip 0 j=false:=by
 unfold spF;rw[zC zBY,zC zBY];cases clip<;>rfl
theorem zKM(b c x m:Nat)(clip:Bool)(k j:Nat)(hk:k<c)(hm:c≤m)(hx:x<m)(h:x+(c-1-k)<m):
  spF b c x m clip (k+1) j=if j=x+(c-1-k)then b.testBit k else spF b c x m clip k j:=by
 by_cases e:j=x+(c-1-k)
 ·rw[zG e];unfold spF;rw[zO zBY,zC (p:=j+m<x+c∧_) zBY,show c-1-(j-x)=k by omega];cases clip<;>simp
 ·exact zD1
theorem O5(b c x m:Nat)(k j:Nat)(hk:k<c)(hm:c≤m)(hx:x<m)(h:m≤x+(c-1-k)):
  spF b c x m false (k+1) j=if j=x+(c-1-k)-m then b.testBit k else spF b c x m false k j:=by
 by_cases e:j=x+(c-1-k)-m
 ·rw[zG e];unfold spF;rw[zC (p:=x≤j∧_) zBY,zO zBY,show c-1-(j+m-x)=k by omega];simp
 ·exact zD1
theorem TX(b c x m:Nat)(k j:Nat)(hk:k<c)(hm:c≤m)(hx:x<m)(h:m≤x+(c-1-k)):
  spF b c x m true (k+1) j=spF b c x m true k j:=by
 unfold spF;rw[show decide (x≤j∧j<x+c∧j<m∧c+x≤j+(k+1))=decide (x≤j∧j<x+c∧j<m∧c+x≤j+k) by congr 1;simp;omega];rfl
theorem zLA(b c x m:Nat)(clip:Bool)(k j:Nat)(hk:k<c)(hm:c≤m)(hx:x<m)(hb:b.testBit k=false):spF b c x m clip (k+1) j=spF b c x m clip k j:=by
 by_cases h:x+(c-1-k)<m
 ·rw[zKM b c x m clip k j hk hm hx h];split
  ·rename_i e
   rw[hb];unfold spF;rw[zC zBY,zC zBY];cases clip<;>rfl
  ·rfl
 ·cases clip
  ·rw[O5 b c x m k j hk hm hx zBY];split
   ·rename_i e
    rw[hb];unfold spF;rw[zC zBY,zC zBY];rfl
   ·rfl
  ·exact TX b c x m k j hk hm hx zBY
def sp0(b c:Nat):BitVec 128:=(BitVec.ofNat 64 b<<<(64-c))++0#64
def bX(b c x m:Nat)(clip:Bool):BitVec 128:=if clip then rO (sp0 b c) x m else rO (sp0 b c) x m^^^mv (sp0 b c) ((x:Int)-m)
theorem px_sp0(b c i:Nat)(c1:c≤16):px (sp0 b c) i=(decide (i<c)&&b.testBit (c-1-i)):=by
 unfold sp0 px;rw[lL];split
 ·rw[zC zBY];simp
 ·rw[BitVec.getMsbD_shiftLeft,BitVec.getMsbD_eq_getLsbD,BitVec.getLsbD_ofNat];by_cases h:i<c
  ·rw[zO zBY,zO zBY,zO h,show 64-1-(i+(64-c))=c-1-i by omega];simp
  ·rw[zC (p:=i+(64-c)<64) zBY,zC h];rfl
theorem zQK(b c:Nat)(i:Int)(c1:c≤16):pxi (sp0 b c) i=(decide (0≤i∧i<c)&&b.testBit (c-1-i.toNat)):=by
 unfold pxi;rw[px_sp0 b c _ c1];by_cases h:0≤i
 ·rw[zO h,show decide (i.toNat<c)=decide (0≤i∧i<c) by congr 1;simp;omega];rfl
 ·rw[zC h,zC (p:=0≤i∧i<(c:Int)) zBY];rfl
theorem ZK(b c x m:Nat)(clip:Bool)(c1:c≤16)(hm:16≤m)(m1:m≤128)(hx:x<m)(j:Nat)(hj:j<128):px (bX b c x m clip) j=spF b c x m clip c j:=by
 have e1:px (rO (sp0 b c) x m) j=(decide (x≤j∧j<x+c∧j<m∧c+x≤j+c)&&b.testBit (c-1-(j-x))):=by
  rw[T5 _ _ _ _ hj zBY,zQK _ _ _ c1,show((j:Int)-(x:Int)).toNat=j-x by omega];by_cases h:x≤j∧j<x+c∧j<m
  ·rw[zO (p:=0≤(j:Int)-x∧(j:Int)-x<c) zBY,zO (p:=(j:Int)<(m:Int)) zBY,zO zBY];simp
  ·rw[zC (p:=x≤j∧_) zBY];by_cases h2:(j:Int)<(m:Int)
   ·rw[zC (p:=0≤(j:Int)-x∧(j:Int)-x<c) zBY];rfl
   ·rw[zC h2];simp
 have e2:px (mv (sp0 b c) ((x:Int)-m)) j=(decide (j+m<x+c∧c+x≤j+m+c)&&b.testBit (c-1-(j+m-x))):=by
  rw[zVL _ _ _ hj,zQK _ _ _ c1,show((j:Int)-((x:Int)-(m:Int))).toNat=j+m-x by omega,
   show decide (0≤(j:Int)-((x:Int)-(m:Int))∧(j:Int)-((x:Int)-(m:Int))<c)=decide (j+m<x+c∧c+x≤j+m+c) by congr 1;simp;omega]
 unfold bX spF;cases clip
 ·rw[zL zBT,zVY,e1,e2];by_cases h:x≤j
  ·rw[zC (p:=j+m<x+c∧_) zBY];simp
  ·rw[zC (p:=x≤j∧_) zBY];simp
 ·rw[zG rfl,e1];simp
theorem zQV(r:BitVec 128)(i:Int)(h:i<0):pxi r i=false:=by
 rw[pxi,zC zBY,Bool.false_and]
theorem JM(r:BitVec 128)(i:Nat):pxi r (i:Int)=px r i:=by
 rw[pxi,zO zBY,Bool.true_and,jS]
def WA(r:BitVec 128)(m:Nat):Prop:=∀i:Int,m≤i→pxi r i=false
theorem zVW(i:Int):pxi 0#128 i=false:=by rw[pxi,tT,Bool.and_false]
theorem wW(r:BitVec 128):∃h l:BitVec 64,r=h++l:=⟨hi r,lo r,(QP r).symm⟩
end Num
namespace Num
open Go.RowKit
def sm(g:Nat→Nat):Nat→Nat
 |0=>0
 |k+1=>sm g k+g k
theorem TY{f g:Nat→Nat}(k:Nat)(h:∀i,i<k→f i=g i):sm f k=sm g k:=by
 induction k with
 |zero=>rfl
 |succ k ih=>rw[sm,sm,ih fun i hi=>h i zBY,h k zBY]
theorem O7{f:Nat→Nat}(k:Nat)(h:∀i,i<k→f i=0):sm f k=0:=by
 induction k with
 |zero=>rfl
 |succ k ih=>rw[sm,ih fun i hi=>h i zBY,h k zBY]
theorem TW{f:Nat→Nat}{k:Nat}:sm f k=0↔∀i,i<k→f i=0:=by
 refine⟨?_,O7 k⟩;induction k with
 |zero=>intro _ i hi;omega
 |succ k ih=>
  rw[sm]
  intro h i hi
  rcases kH i k with hlt|hge
  ·exact ih zBY i hlt
  ·obtain rfl:i=k:=by omega
   omega
theorem zVT(f:Nat→Bool)(n k:Nat):pcn f (n*k)=sm (fun y=>pcn (fun x=>f (n*y+x)) n) k:=by
 induction k with
 |zero=>rfl
 |succ k ih=>rw[Nat.mul_succ,zML,sm,ih]
abbrev Pl:=Nat→BitVec 128
def zBV(P:Pl)(m h:Nat):Prop:=(∀y,WA (P y) m)∧∀y,h≤y→P y=0#128
def pcount(P:Pl):Nat:=sm (fun y=>zW9 (P y)) 64
def vK(P:Pl)(dx dy:Int)(m h:Nat):Pl:=fun y=>if(0≤(y:Int)-dy∧(y:Int)-dy<h)∧y<h then rO (P ((y:Int)-dy).toNat) dx m else 0#128
def spr(bits:Nat→Nat)(len c x y m h:Nat)(clip:Bool):Pl:=fun j=>
 if y≤j∧j<y+len∧j<h then bX (bits (j-y)) c x m clip else if clip=false∧j+h<y+len then bX (bits (j+h-y)) c x m clip else 0#128
def bT(A B:Pl):Pl:=fun y=>A y^^^B y
theorem FQ(m:Nat):WA 0#128 m:=fun i _=>zVW i
theorem RU(bits:Nat→Nat)(c x y m h:Nat)(clip:Bool)(hy:y<h)(j:Nat):spr bits 0 c x y m h clip j=0#128:=by
 unfold spr;rw[zL zBY];by_cases hc:clip=false∧j+h<y+0
 ·omega
 ·rw[zL hc]
theorem zKW(bits:Nat→Nat)(i c x y m h:Nat)(clip:Bool)(hi:i<h)(hy:y<h)(hin:y+i<h)(j:Nat):
  spr bits (i+1) c x y m h clip j=if j=y+i then bX (bits i) c x m clip else spr bits i c x y m h clip j:=by
 unfold spr;by_cases e:j=y+i
 ·rw[zG e,zG zBY,show j-y=i by omega]
 ·rw[zL e];by_cases h1:y≤j∧j<y+i∧j<h
  ·rw[zG h1,zG zBY]
  ·rw[zL h1,zL zBY];by_cases h2:clip=false∧j+h<y+i
   ·omega
   ·rw[zL h2,zL zBY]
theorem OI(bits:Nat→Nat)(i c x y m h:Nat)(hi:i<h)(hy:y<h)(hout:h≤y+i)(j:Nat):
  spr bits (i+1) c x y m h false j=if j=y+i-h then bX (bits i) c x m false else spr bits i c x y m h false j:=by
 unfold spr;by_cases e:j=y+i-h
 ·rw[zG e,zL zBY,zG ⟨rfl,by omega⟩,show j+h-y=i by omega]
 ·rw[zL e];by_cases h1:y≤j∧j<y+i∧j<h
  ·rw[zG h1,zG zBY]
  ·rw[zL h1,zL zBY];by_cases h2:j+h<y+i
   ·rw[zG (show false=false∧j+h<y+(i+1)from⟨rfl,by omega⟩),zG (show false=false∧j+h<y+i from⟨rfl,h2⟩)]
   ·rw[zL zBY,zL zBY]
theorem TQ(bits:Nat→Nat)(i c x y m h:Nat)(hout:h≤y+i)(j:Nat):spr bits (i+1) c x y m h true j=spr bits i c x y m h true j:=by
 unfold spr;by_cases h1:y≤j∧j<y+i∧j<h
 ·rw[zG h1,zG zBY]
 ·rw[zL h1,zL zBY,zL zBT,zL zBT]
theorem iD(b c x m:Nat)(clip:Bool)(c1:c≤16)(hm:16≤m)(m1:m≤128)(hx:x<m):WA (bX b c x m clip) m:=fun i hi=>by
 obtain⟨k,rfl⟩:=qR (show 0≤i by omega);rw[JM];by_cases hk:k<128
 ·rw[ZK b c x m clip c1 hm m1 hx k hk];unfold spF;rw[zC (p:=x≤k∧_) zBY,zC (p:=k+m<x+c∧_) zBY];simp
 ·exact zVM _ _ zBY
theorem zLC(bits:Nat→Nat)(len c x y m h:Nat)(clip:Bool)(c1:c≤16)(hm:16≤m)(m1:m≤128)(hx:x<m)(hl:len≤h)(hy:y<h):zBV (spr bits len c x y m h clip) m h:=by
 refine⟨fun j=>?_,fun j hj=>?_⟩
 ·unfold spr;split
  ·exact iD _ _ _ _ _ c1 hm m1 hx
  ·split
   ·exact iD _ _ _ _ _ c1 hm m1 hx
   ·exact FQ m
 ·unfold spr;rw[zL zBY,zL zBY]
end Num
namespace Num
open Go.RowKit
def acc(g:Nat→Bool):Nat→Nat
 |0=>0
 |k+1=>2*acc g k+(g k).toNat
theorem zY4(g:Nat→Bool)(k:Nat):acc g k<2^k:=by
 induction k with
 |zero=>simp[acc]
 |succ k ih=>
  rw[acc,Nat.pow_succ]
  have:=Bool.toNat_le (g k)
  omega
theorem zGD(g:Nat→Bool)(k j:Nat):(acc g k).testBit j=(decide (j<k)&&g (k-1-j)):=by
 induction k generalizing j with
 |zero=>simp[acc]
 |succ k ih=>
  rw[acc]
  cases j with
  |zero=>
   rw[Nat.testBit_zero]
   cases hg:g k<;>simp[hg]<;>omega
  |succ j=>
   rw[Nat.testBit_succ,show(2*acc g k+(g k).toNat)/2=acc g k by have:=Bool.toNat_le (g k);omega,ih j,show k+1-1-(j+1)=k-1-j by omega,
    show decide (j<k)=decide (j+1<k+1) by congr 1;simp]
def wd(g:Nat→Bool):BitVec 64:=BitVec.ofNat 64 (acc g 64)
theorem FO(g:Nat→Bool):(wd g).toNat=acc g 64:=by
 have:=zY4 g 64;rw[wd,BitVec.toNat_ofNat,kW this]
theorem zX3(g:Nat→Bool)(i:Nat)(hi:i<64):(wd g).getMsbD i=g i:=by
 rw[BitVec.getMsbD_eq_getLsbD,←BitVec.testBit_toNat,FO,zGD,zO hi,zO zBY,show 64-1-(64-1-i)=i by omega,Bool.true_and,Bool.true_and]
def fwd(f:Nat→Bool):Pl:=fun y=>wd (fun i=>f (128*y+i))++wd (fun i=>f (128*y+(64+i)))
theorem wP(f:Nat→Bool)(y x:Nat)(hx:x<128):px (fwd f y) x=f (128*y+x):=by
 unfold fwd px;rw[lL];split
 ·rw[zX3 _ _ zBY,show 64+(x-64)=x by omega]
 ·rw[zX3 _ _ zBY]
def uD(f:Nat→Bool)(m h:Nat):Prop:=∀i,f i=true→i%128<m∧i/128<h
theorem zNX{f:Nat→Bool}{m h:Nat}(hf:uD f m h):zBV (fwd f) m h:=by
 refine⟨fun y i hi=>?_,fun y hy=>eI fun x hx=>?_⟩
 ·by_cases h0:0≤i
  ·obtain⟨k,rfl⟩:=qR h0;rw[JM];by_cases hk:k<128
   ·rw[wP _ _ _ hk];cases hg:f (128*y+k)
    ·rfl
    ·have:=(hf _ hg).1;omega
   ·exact zVM _ _ zBY
  ·exact zQV _ _ zBY
 ·rw[wP _ _ _ hx,tT];cases hg:f (128*y+x)
  ·rfl
  ·have:=(hf _ hg).2;omega
theorem IT(f:Nat→Bool):pcount (fwd f)=pcn f (128*64):=by
 rw[zVT];exact TY 64 fun y hy=>zZA 128 fun x hx=>wP f y x hx
def rW(f:Nat→Bool)(dx dy:Int)(m h:Nat)(i:Nat):Bool:=
 decide ((i/128<h∧i%128<m)∧(0≤((i%128:Nat):Int)-dx∧((i%128:Nat):Int)-dx<m)∧(0≤((i/128:Nat):Int)-dy∧((i/128:Nat):Int)-dy<h))&&f (128*(((i/128:Nat):Int)-dy)+(((i%128:Nat):Int)-dx)).toNat
theorem UX(f:Nat→Bool)(dx dy:Int)(m h:Nat)(hm:m≤128)(hf:uD f m h)(y:Nat):fwd (rW f dx dy m h) y=vK (fwd f) dx dy m h y:=eI fun x hx=>by
 rw[wP _ _ _ hx];unfold rW vK;rw[show(128*y+x)/128=y by omega,show(128*y+x)%128=x by omega];by_cases h1:(0≤(y:Int)-dy∧(y:Int)-dy<h)∧y<h
 ·rw[zG h1,T5 _ _ _ _ hx zBY];obtain⟨d,hd⟩:∃d:Nat,(y:Int)-dy=(d:Int):=⟨((y:Int)-dy).toNat,by omega⟩;rw[hd,jS];by_cases h2:x<m
  ·rw[zO (p:=(x:Int)<(m:Int)) zBY,Bool.and_true];by_cases h3:0≤(x:Int)-dx∧(x:Int)-dx<m
   ·obtain⟨e,he⟩:∃e:Nat,(x:Int)-dx=(e:Int):=⟨((x:Int)-dx).toNat,by omega⟩;rw[he,JM,wP _ _ _ zBY,zO zBY,Bool.true_and,show(128*(d:Int)+(e:Int)).toNat=128*d+e by omega]
   ·rw[zC zBY,Bool.false_and];rcases Int.lt_or_le ((x:Int)-dx) 0 with h0|h0
    ·rw[zQV _ _ h0]
    ·rw[(zNX hf).1 d _ zBY]
  ·rw[zC zBY,zC (p:=(x:Int)<(m:Int)) zBY,Bool.false_and,Bool.and_false]
 ·rw[zL h1,tT,zC zBY,Bool.false_and]
def gZ(bits:Nat→Nat)(len c x y m h:Nat)(clip:Bool)(i:Nat):Bool:=px (spr bits len c x y m h clip (i/128)) (i%128)
theorem UJ(bits:Nat→Nat)(len c x y m h:Nat)(clip:Bool)(j:Nat):fwd (gZ bits len c x y m h clip) j=spr bits len c x y m h clip j:=eI fun k hk=>by
 rw[wP _ _ _ hk,gZ,show(128*j+k)/128=j by omega,show(128*j+k)%128=k by omega]
theorem zJL(f g:Nat→Bool)(y:Nat):fwd (fun i=>f i^^g i) y=bT (fwd f) (fwd g) y:=eI fun x hx=>by
 show _=px (fwd f y^^^fwd g y) x;rw[wP _ _ _ hx,zVY,wP _ _ _ hx,wP _ _ _ hx]
theorem zNK(f g:Nat→Bool)(y:Nat):fwd (fun i=>f i&&g i) y=fwd f y&&&fwd g y:=eI fun x hx=>by
 rw[wP _ _ _ hx,zVN,wP _ _ _ hx,wP _ _ _ hx]
theorem WJ(f g:Nat→Bool):pcn (fun i=>f i&&g i) (128*64)=sm (fun y=>zW9 (fwd f y&&&fwd g y)) 64:=by
 rw[←IT];exact TY 64 fun y _=>by rw[zNK]
def sG(A B:Pl):Bool:=decide (sm (fun y=>zW9 (A y&&&B y)) 64≠0)
theorem zVB(A B:Pl):sG A B=true↔∃y,y<64∧A y&&&B y≠0#128:=by
 unfold sG;rw[jG];constructor
 ·intro h;rcases Classical.em (∃y,y<64∧A y&&&B y≠0#128)with h2|h2
  ·exact h2
  ·refine absurd (O7 64 fun y hy=>(SQ _).2 ?_) h;rcases Classical.em (A y&&&B y=0#128)with h3|h3
   ·exact h3
   ·exact absurd ⟨y,hy,h3⟩ h2
 ·rintro⟨y,hy,h⟩ h2;exact h ((SQ _).1 (TW.1 h2 y hy))
theorem UQ(f g:Nat→Bool):sG (fwd f) (fwd g)=decide (0<pcn (fun i=>f i&&g i) (128*64)):=by
 rw[WJ];unfold sG;rw[Bool.eq_iff_iff,jG,jG];omega
theorem zQ2(g:Nat→Bool)(k:Nat)(h:g k=true):acc g (k+1)=2*acc g k+1:=by rw[acc,h];rfl
theorem YH(g:Nat→Bool)(k:Nat)(h:g k=false):acc g (k+1)=2*acc g k:=by rw[acc,h];rfl
theorem pE(m h:Nat):uD (fun _=>false) m h:=fun i hi=>by cases hi
theorem zL2(f:Nat→Bool)(dx dy:Int)(m h:Nat):uD (rW f dx dy m h) m h:=fun i hi=>by
 unfold rW at hi;have:=qZ (Bool.and_eq_true_iff.1 hi).1;exact⟨this.1.2,this.1.1⟩
end Num
end
end Go.Proofs.YtcjldabaekbdlaaGreatDoor
