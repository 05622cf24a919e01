/- SptFn. -/
import Derived.Test.YtbpniahcjbagmaaGreatDoorMk6a
set_option maxRecDepth 400000
set_option maxHeartbeats 64000000
set_option linter.unusedVariables false
set_option linter.unusedSimpArgs false
namespace Go.Proofs.YtbpniahcjbagmaaGreatDoor
section
open Go.RowKit Go.Shelf Num Dec Cpu
theorem tL:vZ Tryz.prog 55 14:=⟨⟨_,Tryz.underlying55,rfl⟩,by kernel_rfl⟩
def QO:Sp:=⟨none,0,0,none,0,0,⟨0,false,false,false,false,false,false,false⟩,0,false,none,0,0,none,0,0⟩
theorem LZ:nH Tryz.prog 57 (spC QO):=by
 unfold nH spC QO;kernel_rfl
theorem TC:nH Tryz.prog 55 (spC QO):=by
 unfold nH spC QO;kernel_rfl
theorem gZ(s:Sp):n8 (spC s):=by unfold n8 spC;simp[Value.oneCell']
theorem zVU(s:Sp):Tryz.prog.built 57 [(0,.slice s.A s.n s.c),(1,.slice s.B s.k s.d),(2,.agg (prc s.q)),(3,.int .i64 s.cy),(4,.bool s.ca),(5,.slice s.FA s.fn s.fc),(6,.slice s.G s.gn s.gc)]=some (spC s):=by
 unfold prc spC;kernel_rfl
structure SpE(s:Sp)(C:Array Value):Prop where
 z:C.size=14
 e:spC s=C
 c0:C[0]?=some (.slice s.A s.n s.c)
 c1:C[1]?=some (.slice s.B s.k s.d)
 q:C.extract 2 (2+8)=prc s.q
 c10:C[10]?=some (.int .i64 s.cy)
 c11:C[11]?=some (.bool s.ca)
 c12:C[12]?=some (.slice s.FA s.fn s.fc)
 c13:C[13]?=some (.slice s.G s.gn s.gc)
theorem spE(s:Sp):SpE s (spC s):=⟨rfl,rfl,rfl,rfl,rfl,rfl,rfl,rfl,rfl⟩
theorem y8(s:Sp)(w:World):Calls Tryz.prog 17 #[.agg (spC s)] w fun e w'=>e=.returned (.agg (spC s))∧Below w.heap.size w w':=by
 obtain⟨C,hC⟩:∃C,spC s=C:=⟨_,rfl⟩;have CE:=zW (show SpE s C from hC▸spE s);have C1:=zW (show n8 C from hC▸gZ s);rw[hC];clear hC;go_enter Tryz.func17,Tryz.ntmps17;go_upto_region 0 with fail;refine zH ?_;refine lE rfl _ (.tmp 0) rfl C rfl ?_;simp only[Act.put,zQ,zZ,zJ];have K1:=zW (Blk.new w 55 C);have BB:=zW (lV w (.cells C 55));obtain⟨g1,hg1⟩:∃g,w.heap.size=g:=⟨_,rfl⟩;have A1:=zW (show w.heap.size≤g1 by omega);rw[hg1]at K1⊢;clear hg1;generalize World.alloc w _=w1 at K1 BB⊢;refine qZ rfl fun K hK=>nJ LZ rfl (hK _ _ ?_);clear hK K;simp only[Act.put,zQ,zZ,zJ];have R2:=zW (Blk.new w1 57 (spC QO));have ba:=lV w1 (.cells (spC QO) 57);have A2:=zW (show w.heap.size≤w1.heap.size from BB.out.size);have K1:=zW (K1.out.step ba);have BB:=zW (BB.out.trans (ba.mono BB.out.size));clear ba;generalize w1.heap.size=g2 at R2 A2⊢;generalize World.alloc w1 _=w2 at K1 R2 BB⊢;have c0:=(K1.out.cell 0).trans CE.out.c0;have c1:=(K1.out.cell 1).trans CE.out.c1;have c10:=(K1.out.cell 10).trans CE.out.c10;have c11:=(K1.out.cell 11).trans CE.out.c11;have c12:=(K1.out.cell 12).trans CE.out.c12;have c13:=(K1.out.cell 13).trans CE.out.c13;go_upto_region 1 with fail;refine zH ?_;iterate 15 go_step
 refine m6 (o:=2) tM K1.out (by rw[CE.out.z];decide) rfl (.tmp 7) rfl rfl ?_;rw[CE.out.q];simp only[Act.put,zQ,zZ,zJ];iterate 24 go_step
 refine lC (cs:=spC s) rfl rfl (by simp[Act.eval];exact zVU s) ?_;rw[CE.out.e];simp only[Act.put,zQ,zZ,zJ];refine lM (ds:=C) eN R2.out rfl CE.out.z C1.out rfl (.tmp 2) (.tmp 17) rfl rfl rfl ?_;simp only[Act.put,zQ,zZ,zJ];have RW:=zW (R2.out.store C);have BW:=zW (lU BB.out A2.out C);generalize World.setRow _ _ _=wz at RW BW⊢;clear c0 c1 c10 c11 c12 c13;go_wp2_with fail;iterate 4 (try go_step)
 exact zP (zE rfl _ _ g2 _ _ _ _ rfl RW.out Tryz.underlying57 rfl (by rw[eN.i,CE.out.z])) rfl ⟨rfl,BW.out⟩
def okE(l:List Fv):Bool:=l.all fun f=>decide (f.n≤20)
def gG(s:Sp)(l:List Fv):Bool:=okE (l.take 9)&&(decide (s.n≤2000)&&decide (s.k≤100)&&decide (s.fn≤100)&&decide (s.gn≤8)&&decide (s.cy≤60))
def xO(s:Sp):Bool:=decide (1≤s.q.lv∧s.q.lv≤3)&&(decide (0≤s.cy)&&decide (s.cy≤65535))
theorem zXI(l:List Fv)(j:Nat)(h:j<l.length):okE (l.take (j+1))=(okE (l.take j)&&decide (l[j].n≤20)):=by
 unfold okE;rw[List.take_add_one,zS h];simp only[Option.toList_some,List.all_append,List.all_cons,List.all_nil,Bool.and_true]
theorem okE_no(l:List Fv)(j:Nat)(h:j<l.length)(h8:j≤8)(hn:¬l[j].n≤20):okE (l.take 9)=false:=by
 unfold okE;rw[List.all_eq_false];refine⟨l[j],?_,by simpa using hn⟩;rw[List.mem_take_iff_getElem];exact⟨j,by omega,rfl⟩
theorem pW{s:Sp}{l:List Fv}{w:World}(H:sY w s.G s.gn s.gc l)(h:gG s l=true):s.n≤2000∧s.k≤100∧s.fn≤100∧s.gn≤8∧s.cy≤60∧(∀i (h:i<l.length),l[i].n≤20):=by
 unfold gG at h;simp only[zC,qK]at h;obtain⟨h0,⟨⟨⟨h1,h2⟩,h3⟩,h4⟩,h5⟩:=h;refine⟨h1,h2,h3,h4,h5,fun i hi=>?_⟩;have hl:=H.len;rw[qV zGX]at h0;unfold okE at h0;rw[jJ]at h0;exact qA (h0 _ (j4 hi))
theorem fG(s:Sp){R L F:List Int}(l:List Fv)(w:World)(H:wW s w R L F l):Calls Tryz.prog 16 #[.agg (spC s)] w fun e w'=>e=.returned (.bool (gG s l))∧Below w.heap.size w w':=by
 obtain⟨C,hC⟩:∃C,spC s=C:=⟨_,rfl⟩;have CE:=zW (show SpE s C from hC▸spE s);have n1:(s.n:Int)≤9223372036854775807:=by have h1:=H.a.cap;have h2:=H.a.max;unfold maxLen at h2;omega
 have k1:(s.k:Int)≤9223372036854775807:=by have h1:=H.b.cap;have h2:=H.b.max;unfold maxLen at h2;omega
 have f1:(s.fn:Int)≤9223372036854775807:=by have h1:=H.f.cap;have h2:=H.f.max;unfold maxLen at h2;omega
 have m1:(s.gn:Int)≤9223372036854775807:=by have h1:=H.g.cap;have h2:=H.g.max;unfold maxLen at h2;omega
 have HH:=zW H.g;obtain⟨r,hr⟩:∃r,gG s l=r:=⟨_,rfl⟩;have HR:=zW hr;rw[hC,hr];clear hC hr H;go_enter Tryz.func16,Tryz.ntmps16;go_upto_region 0 with fail;refine zH ?_;refine lE rfl _ (.tmp 0) rfl C rfl ?_;simp only[Act.put,zQ,zZ,zJ];have K1:=zW (Blk.new w 55 C);have BB:=zW (lV w (.cells C 55));obtain⟨g1,hg1⟩:∃g,w.heap.size=g:=⟨_,rfl⟩;rw[hg1]at K1⊢;clear hg1;generalize World.alloc w _=w1 at K1 BB⊢;have c13:=(K1.out.cell 13).trans CE.out.c13;go_wp2_with fail;go_loopw [3] (fun i wr=>∃j:Nat,j≤s.gn∧j≤9∧i=.int .i64 (j:Int)∧okE (l.take j)=true∧wr=w1) (fun i _=>9-(intOf i).toNat)
 case atStart=>exact⟨0,qW _,by decide,rfl,rfl,rfl⟩
 case round=>
  obtain⟨j,hj,hj9,rfl,ho,rfl⟩:=hrel
  have OO:=zW ho
  clear ho
  by_cases hlt:j<s.gn∧j≤8
  ·have il:j<l.length:=by rw[HH.out.len];exact hlt.1
   have FRM:=zW ((HH.out.step BB.out).at_ j il)
   have E2:=zW (zXI l j il)
   have E3:=zW (okE_no l j il hlt.2)
   obtain⟨b,o,hG,lt,c1,ok⟩:=FRM.out
   have EV:=zW (zR ok.cap ok.max)
   clear FRM ok
   obtain⟨f,hf⟩:∃f,l[j]=f:=⟨_,rfl⟩
   rw[hf]at c1 E2 E3 EV
   clear hf
   obtain⟨fA,fn,fc,fe⟩:=f
   rw[hG]at c13
   simp only at c1
   have j1:(j:Int)<(s.gn:Int):=zGX
   have j8:(j:Int)≤8:=zGX
   have JX:=zW hlt
   have f2:(fn:Int)≤9223372036854775807:=by have:=EV.out;unfold maxLen at this;simp only at this;omega
   rcases(show(20:Int)<(fn:Int)∨¬(20:Int)<(fn:Int) by omega)with h20|h20
   ·obtain rfl:r=false:=by rw[←HR.out];unfold gG;rw[E3.out (by show¬fn≤20;omega)];rfl
    go_wp2
    go_returns
    exact⟨rfl,BB.out⟩
   ·go_wp2
    go_roundw
    case rel=>exact⟨j+1,JX.out.1,by have:=JX.out.2;omega,by go_num,by rw[E2.out,OO.out];simp;omega,by trivial⟩
    case measure=>have:=JX.out.2;simp[intOf];omega
  ·have TT:=zW (show l.take 9=l.take j by
    rcases(show j=s.gn∨j=9 by omega)with h|h
    ·rw[qV (by rw[HH.out.len];omega),qV (by rw[HH.out.len];omega)]
    ·rw[h])
   have c0:=(K1.out.cell 0).trans CE.out.c0
   have c1:=(K1.out.cell 1).trans CE.out.c1
   have c10:=(K1.out.cell 10).trans CE.out.c10
   have c12:=(K1.out.cell 12).trans CE.out.c12
   have RR:=zW (show(decide (s.n≤2000)&&decide (s.k≤100)&&decide (s.fn≤100)&&decide (s.gn≤8)&&decide (s.cy≤60))=r by rw[←HR.out];unfold gG;rw[TT.out,OO.out];rfl)
   obtain⟨cy,hcy⟩:∃cy,s.cy=cy:=⟨_,rfl⟩
   rw[hcy]at c10 RR
   clear hcy
   have hcase:(¬(j:Int)<(s.gn:Int))∨((j:Int)<(s.gn:Int)∧¬(j:Int)≤8):=zGX
   have kcase:((s.n:Int)≤2000∧(s.k:Int)≤100∧(s.fn:Int)≤100∧(s.gn:Int)≤8∧cy≤60)∨((s.n:Int)≤2000∧(s.k:Int)≤100∧(s.fn:Int)≤100∧(s.gn:Int)≤8∧¬cy≤60)∨((s.n:Int)≤2000∧(s.k:Int)≤100∧(s.fn:Int)≤100∧¬(s.gn:Int)≤8)∨((s.n:Int)≤2000∧(s.k:Int)≤100∧¬(s.fn:Int)≤100)∨((s.n:Int)≤2000∧¬(s.k:Int)≤100)∨¬(s.n:Int)≤2000:=zGX
   clear hlt hj hj9
   rcases hcase with j1|⟨j1,j8⟩<;>rcases kcase with⟨h1,h2,h3,h4,h5⟩|⟨h1,h2,h3,h4,h5⟩|⟨h1,h2,h3,h4⟩|⟨h1,h2,h3⟩|⟨h1,h2⟩|h1
   all_goals
    first
     |(exfalso;omega)
     |(obtain rfl:=RR.out;go_wp2;go_returns;refine⟨?_,BB.out⟩;congr 2;simp;omega)
theorem aZ(s:Sp)(w:World):Calls Tryz.prog 19 #[.agg (spC s)] w fun e w'=>e=.returned (.bool (xO s))∧Below w.heap.size w w':=by
 obtain⟨C,hC⟩:∃C,spC s=C:=⟨_,rfl⟩;have CE:=zW (show SpE s C from hC▸spE s);obtain⟨z,hz⟩:∃z,decide (1≤s.q.lv∧s.q.lv≤3)=z:=⟨_,rfl⟩;have VA:=zW (fun u=>hz▸zW3 s.q u);obtain⟨cy,hcy⟩:∃cy,s.cy=cy:=⟨_,rfl⟩;have HCY:=zW hcy;unfold xO;rw[hC,hz,hcy];clear hC hz hcy;go_enter Tryz.func19,Tryz.ntmps19;go_upto_region 0 with fail;refine zH ?_;refine lE rfl _ (.tmp 0) rfl C rfl ?_;simp only[Act.put,zQ,zZ,zJ];have K1:=zW (Blk.new w 55 C);have BB:=zW (lV w (.cells C 55));obtain⟨g1,hg1⟩:∃g,w.heap.size=g:=⟨_,rfl⟩;rw[hg1]at K1⊢;clear hg1;generalize World.alloc w _=w1 at K1 BB⊢;go_upto_region 1 with fail;refine zH ?_;iterate 3 go_step
 refine m6 (o:=2) tM K1.out (by rw[CE.out.z];decide) rfl (.tmp 3) rfl rfl ?_;rw[CE.out.q];simp only[Act.put,zQ,zZ,zJ];go_wp2_with fail;refine(VA.out _).mono ?_;rintro e w2 ⟨rfl,b2⟩;have BB:=zW (BB.out.trans (b2.mono BB.out.size));have c10:=((K1.out.step b2).cell 10).trans CE.out.c10;clear b2;rw[HCY.out]at c10;have hcase:(cy<0)∨(¬cy<0∧(65535:Int)<cy)∨(¬cy<0∧¬(65535:Int)<cy):=zGX;cases z<;>rcases hcase with h1|⟨h1,h2⟩|⟨h1,h2⟩
 all_goals
  go_wp2
  go_returns
  refine⟨?_,BB.out⟩
  first|(congr 2;done)|(congr 2;simp;done)|(congr 2;simp;omega)
theorem DH(b:Bool)(A:Option Addr)(n c:Nat)(h0:n=0)(w:World):Calls Tryz.prog 29 #[.agg (rsK b (.slice A n c))] w fun e w'=>e=.returned (.tuple #[.agg (nQ vM),.bool false])∧Below w.heap.size w w':=by
 go_enter Tryz.func29,Tryz.ntmps29;go_upto_region 0 with fail;refine zH ?_;refine lE rfl _ (.tmp 0) rfl (rsK b (.slice A n c)) rfl ?_;simp only[Act.put,zQ,zZ,zJ];have K1:=zW (Blk.new w 61 (rsK b (.slice A n c)));have BB:=zW (lV w (.cells (rsK b (.slice A n c)) 61));obtain⟨g1,hg1⟩:∃g,w.heap.size=g:=⟨_,rfl⟩;have A1:=zW (show w.heap.size≤g1 by omega);rw[hg1]at K1⊢;clear hg1;generalize World.alloc w _=w1 at K1 BB⊢;refine qZ rfl fun K hK=>nJ wL rfl (hK _ _ ?_);clear hK K;simp only[Act.put,zQ,zZ,zJ];have R2:=zW (Blk.new w1 45 (nQ vM));have ba:=lV w1 (.cells (nQ vM) 45);have A2:=zW (show w.heap.size≤w1.heap.size from BB.out.size);have K1:=zW (K1.out.step ba);have BB:=zW (BB.out.trans (ba.mono BB.out.size));clear ba;generalize w1.heap.size=g2 at R2 A2⊢;generalize World.alloc w1 _=w2 at K1 R2 BB⊢;have c1:w2.cell? ⟨g1,1,none⟩=some (.slice A n c):=(K1.out.cell 1).trans rfl;subst h0;go_upto_region 2 with fail;refine zH ?_;refine lC (cs:=nQ vM) rfl rfl (by simp;exact SY) ?_;simp only[Act.put,zQ,zZ,zJ];refine lM (ds:=nQ vM) vF R2.out (mU _) (mU _) (uW _) rfl (.tmp 2) (.tmp 8) rfl rfl rfl ?_;simp only[Act.put,zQ,zZ,zJ];have RW:=zW (R2.out.store (nQ vM));have BW:=zW (lU BB.out A2.out (nQ vM));clear c1;generalize World.setRow _ _ _=wz at RW BW⊢;go_wp2_with fail;iterate 6 (try go_step)
 exact zP (mL rfl _ _ g2 _ _ _ (.bool false) rfl rfl RW.out vF (mU _)) rfl ⟨rfl,BW.out⟩
theorem DG(b:Bool)(g n c:Nat)(l:List cE)(w:World)(H:Rcs g l w)(hn:l.length=n)(h1:0<n)(h2:n≤1000)(r:cE)(hr:l[n-1]?=some r):Calls Tryz.prog 29 #[.agg (rsK b (.slice (some ⟨g,0,none⟩) n c))] w fun e w'=>e=.returned (.tuple #[.agg (nQ r),.bool true])∧Below w.heap.size w w':=by
 have AT:=zW (show w.rangeAt g ((n-1)*535) (nQ r).toList from by
  obtain⟨hi,he⟩:=jP.1 hr;rw[←he];exact H.at_ _ hi)
 have GL:=zW H.lt;clear H hr hn;obtain⟨C,hC⟩:∃C,nQ r=C:=⟨_,rfl⟩;have CE:=zW (show C.size=535∧n8 C from by rw[←hC];exact⟨mU _,uW _⟩);rw[hC]at AT;rw[hC];clear hC;obtain⟨A,hA⟩:∃A:Option Addr,some ⟨g,0,none⟩=A:=⟨_,rfl⟩;have HA:=zW hA;rw[hA];clear hA;go_enter Tryz.func29,Tryz.ntmps29;go_upto_region 0 with fail;refine zH ?_;refine lE rfl _ (.tmp 0) rfl (rsK b (.slice A n c)) rfl ?_;simp only[Act.put,zQ,zZ,zJ];have K1:=zW (Blk.new w 61 (rsK b (.slice A n c)));have BB:=zW (lV w (.cells (rsK b (.slice A n c)) 61));obtain⟨g1,hg1⟩:∃g,w.heap.size=g:=⟨_,rfl⟩;have A1:=zW (show w.heap.size≤g1 by omega);rw[hg1]at K1⊢;clear hg1;generalize World.alloc w _=w1 at K1 BB⊢;refine qZ rfl fun K hK=>nJ wL rfl (hK _ _ ?_);clear hK K;simp only[Act.put,zQ,zZ,zJ];have R2:=zW (Blk.new w1 45 (nQ vM));have ba:=lV w1 (.cells (nQ vM) 45);have A2:=zW (show w.heap.size≤w1.heap.size from BB.out.size);have K1:=zW (K1.out.step ba);have BB:=zW (BB.out.trans (ba.mono BB.out.size));clear ba;generalize w1.heap.size=g2 at R2 A2⊢;generalize World.alloc w1 _=w2 at K1 R2 BB⊢;have AT:=zW (show w2.rangeAt g ((n-1)*535) C.toList from fun j v hv=>(BB.out.cell (p:=⟨g,(n-1)*535+j,none⟩) GL.out).trans (AT.out j v hv));have c1:w2.cell? ⟨g1,1,none⟩=some (.slice (some ⟨g,0,none⟩) n c):=(K1.out.cell 1).trans (by rw[HA.out];rfl);have h0:¬n=0:=zGX;have wu:IntKind.i64.wrap ((n:Int)-1)=((n-1:Nat):Int):=by rw[zU];omega
 have lt1:((n-1:Nat):Int)<(n:Int):=zGX;have lt2:n-1<n:=zGX;go_upto_region 3 with fail;refine zH ?_;iterate 21 go_step
 refine pZ (o:=(n-1)*535) vF AT.out CE.out.1 rfl (.tmp 15) rfl zGK ?_;simp only[Act.put,zQ,zZ,zJ];refine lM (ds:=C) vF R2.out (mU _) CE.out.1 CE.out.2 rfl (.tmp 2) (.tmp 16) rfl rfl rfl ?_;simp only[Act.put,zQ,zZ,zJ];have RW:=zW (R2.out.store C);have BW:=zW (lU BB.out A2.out C);clear c1;generalize World.setRow _ _ _=wz at RW BW⊢;go_wp2_with fail;iterate 6 (try go_step)
 exact zP (mL rfl _ _ g2 _ _ _ (.bool true) rfl rfl RW.out vF CE.out.1) rfl ⟨rfl,BW.out⟩
def isE(r:cE):Bool:=decide (r.k=2)||decide (r.k=3)
def zVK(l:List cE)(v:Int):Prop:=(v= -1∧∀r∈l,isE r=false)∨∃i r,v=((i:Nat):Int)∧l[i]?=some r∧isE r=true∧∀q∈l.take i,isE q=false
theorem fR(b:Bool)(A:Option Addr)(n c:Nat)(l:List cE)(w:World)(H:l≠[]→∃g,A=some ⟨g,0,none⟩∧Rcs g l w)(hn:l.length=n)(h2:n≤1000):Calls Tryz.prog 20 #[.agg (rsK b (.slice A n c))] w fun e w'=>∃v,e=.returned (.int .i64 v)∧zVK l v∧Below w.heap.size w w':=by
 have HH:=zW H;have HN:=zW hn;clear H hn;go_enter Tryz.func20,Tryz.ntmps20;go_upto_region 0 with fail;refine zH ?_;refine lE rfl _ (.tmp 0) rfl (rsK b (.slice A n c)) rfl ?_;simp only[Act.put,zQ,zZ,zJ];have K1:=zW (Blk.new w 61 (rsK b (.slice A n c)));have BB:=zW (lV w (.cells (rsK b (.slice A n c)) 61));obtain⟨g1,hg1⟩:∃g,w.heap.size=g:=⟨_,rfl⟩;rw[hg1]at K1⊢;clear hg1;generalize World.alloc w _=w1 at K1 BB⊢;have c1:w1.cell? ⟨g1,1,none⟩=some (.slice A n c):=(K1.out.cell 1).trans rfl;go_wp2_with fail;go_loopw [8] (fun i wr=>∃j:Nat,j≤n∧i=.int .i64 (j:Int)∧(∀q∈l.take j,isE q=false)∧wr=w1) (fun i _=>n-(intOf i).toNat)
 case atStart=>exact⟨0,qW _,rfl,(fun q h=>by cases h),rfl⟩
 case round=>
  obtain⟨j,hj,rfl,ho,rfl⟩:=hrel
  have OO:=zW ho
  clear ho
  by_cases hlt:j<n
  ·have il:j<l.length:=by rw[HN.out];exact hlt
   obtain⟨g,hA,hr⟩:=HH.out (by rintro rfl;simp at il)
   have ck:wr.cell? ⟨g,j*535+531,none⟩=some (.int .i64 (l[j]).k):=(BB.out.cell (p:=⟨g,j*535+531,none⟩) hr.lt).trans (hr.at_ j il 531 _ (by rw[qO,bG _ zGL];rfl))
   have EJ:=zW (show l[j]?=some l[j]from zS il)
   obtain⟨r,hrr⟩:∃r,l[j]=r:=⟨_,rfl⟩
   rw[hrr]at ck EJ
   rw[hA]at c1
   clear hr hrr hA il
   have ji:(j:Int)<(n:Int):=zGX
   have JX:=zW hlt
   have j1:(j:Int)≤1000:=zGX
   have RK:=zW (show isE r=(decide (r.k=2)||decide (r.k=3))from rfl)
   obtain⟨k,hk⟩:∃k,r.k=k:=⟨_,rfl⟩
   rw[hk]at ck RK
   clear hk
   have hcase:(k=2)∨(¬k=2∧k=3)∨(¬k=2∧¬k=3):=zGX
   rcases hcase with rfl|⟨h1,rfl⟩|⟨h1,h3⟩
   ·go_wp2
    go_returns
    exact⟨_,rfl,.inr ⟨j,r,rfl,EJ.out,RK.out,OO.out⟩,BB.out⟩
   ·go_wp2
    go_returns
    exact⟨_,rfl,.inr ⟨j,r,rfl,EJ.out,RK.out,OO.out⟩,BB.out⟩
   ·have RF:=zW (show isE r=false from by rw[RK.out,zO h1,zO h3];rfl)
    have e1:(k==2)=false:=by simpa using h1
    have e3:(k==3)=false:=by simpa using h3
    go_wp2
    refine⟨⟨j+1,JX.out,by go_num,fun q hq=>?_,by trivial⟩,by have:=JX.out;simp[intOf];omega⟩
    rw[sH EJ.out]at hq
    rcases List.mem_append.1 hq with h|h
    ·exact OO.out q h
    ·rw[List.mem_singleton.1 h];exact RF.out
  ·have ji:¬(j:Int)<(n:Int):=zGX
   have TK:=zW (show l.take j=l from qV (by rw[HN.out];omega))
   go_wp2
   go_returns
   exact⟨_,rfl,.inl ⟨rfl,by have:=OO.out;rwa [TK.out]at this⟩,BB.out⟩
end
end Go.Proofs.YtbpniahcjbagmaaGreatDoor
