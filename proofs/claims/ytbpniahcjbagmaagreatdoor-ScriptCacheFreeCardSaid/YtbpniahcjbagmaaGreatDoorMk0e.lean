/- StkBox, AudBox, CalmBlk, Stk, Right, Addr, AddrRef, StkList, Same, KeyApp, AluDo, AluSk, ForkN, AudRef, DecLaw, Kept, Fla, AluFn, AluLk. -/
import Derived.Test.YtbpniahcjbagmaaGreatDoorRows
import Derived.Test.YtbpniahcjbagmaaGreatDoorMk0d
set_option maxRecDepth 400000
set_option maxHeartbeats 64000000
set_option linter.unusedVariables false
set_option linter.unusedSimpArgs false
namespace Go.Proofs.YtbpniahcjbagmaaGreatDoor
section
open Go.RowKit Num
def d9(F:Nat→Int)(d:Int):Array Value:=((List.range 17).map fun j=>Value.int .i64 (if j<16 then F j else d)).toArray
theorem xA(F:Nat→Int)(d:Int):(d9 F d).size=17:=by simp[d9]
theorem vP(F:Nat→Int)(d:Int)(j:Nat)(hj:j<17):(d9 F d)[j]?=some (.int .i64 (if j<16 then F j else d)):=by simp[d9,hj]
theorem YM(F:Nat→Int)(d:Int)(j:Nat)(hj:j<16):(d9 F d)[j]?=some (.int .i64 (F j)):=by rw[vP _ _ _ zGX,zN hj]
theorem JK(F:Nat→Int)(d:Int):(d9 F d)[16]?=some (.int .i64 d):=by simp[d9]
theorem zZ9(F:Nat→Int)(d:Int):n8 (d9 F d):=by
 unfold n8;rw[qC];intro v hv;simp only[d9,kV,jG,jD]at hv;obtain⟨j,_,rfl⟩:=hv;rfl
theorem i3{F G:Nat→Int}{d e:Int}(h:∀j,j<16→F j=G j)(he:d=e):d9 F d=d9 G e:=by
 subst he;apply qH
 intro j
 by_cases hj:j<17
 ·rw[vP _ _ _ hj,vP _ _ _ hj];by_cases h2:j<16
  ·rw[zN h2,zN h2,h j h2]
  ·rw[zL h2,zL h2]
 ·rw[zF zBV,zF zBV]
theorem YN(F:Nat→Int)(d e:Int):(d9 F d).setIfInBounds 16 (.int .i64 e)=d9 F e:=by
 apply qH
 intro j
 rw[qB,xA];by_cases h1:16=j
 ·subst h1;rw[zN rfl,zN zGX,JK]
 ·rw[zL h1];by_cases h2:j<17
  ·rw[vP _ _ _ h2,vP _ _ _ h2,zN zGX,zN zGX]
  ·rw[zF zBV,zF zBV]
theorem YL(F:Nat→Int)(d:Int)(k:Nat)(hk:k<16)(v:Int):(d9 F d).setIfInBounds k (.int .i64 v)=d9 (fun j=>if j=k then v else F j) d:=by
 apply qH
 intro j
 rw[qB,xA];by_cases h1:k=j
 ·subst h1;rw[zN rfl,zN zGX,YM _ _ _ hk,zN rfl]
 ·rw[zL h1];by_cases h2:j<17
  ·rw[vP _ _ _ h2,vP _ _ _ h2];by_cases h3:j<16
   ·rw[zN h3,zN h3,zL (fun e:j=k=>h1 e.symm)]
   ·rw[zL h3,zL h3]
  ·rw[zF zBV,zF zBV]
def stF(L:List Int)(j:Nat):Int:=L.getD j 0
def mE(L:List Int):Array Value:=d9 (stF L) L.length
theorem i7(L:List Int)(j:Nat)(h:j<L.length):stF L j=L[j]:=by simp[stF,h]
theorem sG(L:List Int)(j:Nat)(h:L.length≤j):stF L j=0:=by simp[stF,h]
theorem mX(L:List Int):(mE L).size=17:=xA _ _
theorem yJ(L:List Int):n8 (mE L):=zZ9 _ _
theorem zZ8(L:List Int)(a:Int)(h:L.length<16):((mE L).setIfInBounds L.length (.int .i64 a)).setIfInBounds 16 (.int .i64 ((L.length:Int)+1))=mE (L++[a]):=by
 unfold mE;rw[YL _ _ _ h,YN];refine i3 (fun j hj=>?_) zGN;by_cases h1:j=L.length
 ·subst h1;simp[stF]
 ·rw[zL h1];by_cases h2:j<L.length
  ·rw[i7 _ _ h2,i7 _ _ zGH,List.getElem_append_left h2]
  ·rw[sG L _ zGX,sG _ _ zGH]
theorem zYJ(L:List Int)(a:Int)(h:L.length<16):((mE (L++[a])).setIfInBounds L.length (.int .i64 0)).setIfInBounds 16 (.int .i64 (L.length:Int))=mE L:=by
 unfold mE;rw[YL _ _ _ h,YN];refine i3 (fun j hj=>?_) rfl;have hl:(L++[a]).length=L.length+1:=zGN;by_cases h1:j=L.length
 ·subst h1;rw[zN rfl,sG _ _ (zG _)]
 ·rw[zL h1];by_cases h2:j<L.length
  ·rw[i7 _ _ h2,i7 _ _ zGX,List.getElem_append_left h2]
  ·rw[sG L _ zGX,sG _ _ zGX]
theorem yQ:vZ Tryz.prog 77 17:=⟨⟨_,Tryz.underlying77,rfl⟩,by kernel_rfl⟩
theorem zWF:nH Tryz.prog 77 (mE []):=by
 unfold nH;rw[mX];kernel_rfl
theorem sL(w:World):(zeroValue 77).run Tryz.prog w=.ok (.agg (mE [])) w:=uO zWF
theorem xJ(w:World)(o:Obj):Below w.heap.size w (w.alloc o):=(zB _ _).alloc (zG _) _
def TB8(b:Nat)(L:List Int)(w:World):Prop:=Blk b 77 (mE L) w
section
variable {b:Nat} {L:List Int} {w w':World}
theorem TB8.lt(H:TB8 b L w):b<w.heap.size:=Blk.lt H
theorem TB8.step(H:TB8 b L w)(hb:Below w.heap.size w w'):TB8 b L w':=Blk.step H hb
theorem TB8.new(w:World)(L:List Int):TB8 w.heap.size L (w.alloc (.cells (mE L) 77)):=Blk.new _ _ _
theorem TB8.alloc(H:TB8 b L w)(o:Obj):TB8 b L (w.alloc o):=Blk.alloc H o
theorem TB8.other(H:TB8 b L w){g:Nat}(hg:b≠g)(o:Nat)(v:Value):TB8 b L (w.setCell ⟨g,o,none⟩ v):=Blk.other H hg o v
theorem TB8.otherRow(H:TB8 b L w){g:Nat}(hg:b≠g)(ds:Array Value):TB8 b L (w.setRow g ds):=Blk.otherRow H hg ds
theorem TB8.cell(H:TB8 b L w){j:Nat}(hj:j<16):w.cell? ⟨b,j,none⟩=some (.int .i64 (stF L j)):=(Blk.cell H j).trans (YM _ _ _ hj)
theorem TB8.depth(H:TB8 b L w):w.cell? ⟨b,16,none⟩=some (.int .i64 (L.length:Int)):=(Blk.cell H 16).trans (JK _ _)
theorem TB8.fz(H:TB8 b L w)(j:Nat):w.frozen? ⟨b,j,none⟩=false:=Blk.frozen H j
theorem TB8.store(H:TB8 b L w)(M:List Int):TB8 b M (w.setRow b (mE M)):=Blk.store H _
theorem TB8.push(H:TB8 b L w)(h:L.length<16)(a:Int):TB8 b (L++[a]) ((w.setCell ⟨b,L.length,none⟩ (.int .i64 a)).setCell ⟨b,16,none⟩ (.int .i64 ((L.length:Int)+1))):=
 ((Blk.put H L.length (.int .i64 a)).put 16 _).eq (zZ8 L a h)
theorem TB8.pop{a:Int}(H:TB8 b (L++[a]) w)(h:L.length<16):TB8 b L ((w.setCell ⟨b,L.length,none⟩ (.int .i64 0)).setCell ⟨b,16,none⟩ (.int .i64 (L.length:Int))):=
 ((Blk.put H L.length (.int .i64 0)).put 16 _).eq (zYJ L a h)
theorem TB8.row(H:TB8 b L w)(h:L.length≤16):Row (Value.int .i64) w (some ⟨b,0,none⟩) L:=fun _=>⟨b,0,rfl,H.lt,fun j hj=>by
 rw[qL,H.cell zGX,i7 _ _ hj]⟩
end
theorem dU{B:Nat}{a w:World}(h:Below B a w){g:Nat}(hg:B≤g)(cs:Array Value):Below B a (w.setRow g cs):=lU h hg cs
section
variable {ops:Array Oper} {C:World→Prop} {L:List Int}
end
def ac(P:Nat→Int)(p:Int):Array Value:=((List.range 17).map fun j=>Value.int .u8 (if j<16 then P j else p)).toArray
theorem nP(P:Nat→Int)(p:Int):(ac P p).size=17:=by simp[ac]
theorem sV(P:Nat→Int)(p:Int)(j:Nat)(hj:j<16):(ac P p)[j]?=some (.int .u8 (P j)):=by
 have h:j<17:=zGX;simp[ac,h,hj]
theorem XU(P:Nat→Int)(p:Int):(ac P p)[16]?=some (.int .u8 p):=by simp[ac]
theorem rS(P:Nat→Int)(p:Int)(j:Nat)(hj:j<17):(ac P p)[j]?=some (.int .u8 (if j<16 then P j else p)):=by simp[ac,hj]
theorem QQ(P:Nat→Int)(p:Int):n8 (ac P p):=by
 unfold n8;rw[qC];intro v hv;simp only[ac,kV,jG,jD]at hv;obtain⟨j,_,rfl⟩:=hv;rfl
theorem zWL(P:Nat→Int)(p q:Int):(ac P p).setIfInBounds 16 (.int .u8 q)=ac P q:=by
 apply qH
 intro j
 rw[qB,nP];by_cases h1:16=j
 ·subst h1;rw[zN rfl,zN zGX,XU]
 ·rw[zL h1];by_cases h2:j<17
  ·rw[rS _ _ _ h2,rS _ _ _ h2,zN zGX,zN zGX]
  ·rw[zF zG9,zF zG9]
theorem zZH(P Q:Nat→Int)(p:Int):lP (ac P p) 0 (pc Q)=ac Q p:=by
 apply qH
 intro j
 unfold lP;rw[List.take_zero,List.nil_append,qL,nF,zX];by_cases h2:j<16
 ·rw[qF (by simp[nF];omega),sV _ _ _ h2,qO,uL _ _ h2]
 ·rw[qE (by simp[nF];omega),j5];simp only[Array.length_toList,nF];rw[show 16+(j-16)=j by omega,qO];by_cases h3:j<17
  ·rw[rS _ _ _ h3,rS _ _ _ h3,zL h2,zL h2]
  ·rw[zF zG9,zF zG9]
theorem IM(P:Nat→Int)(p:Int):ac P p=((xB P++[p]).map (Value.int .u8)).toArray:=by
 apply qH
 intro j
 have e:((xB P++[p]).map (Value.int .u8)).toArray[j]?=((xB P++[p])[j]?).map (Value.int .u8):=by rw[←jX];exact zX
 rw[e];by_cases h2:j<16
 ·rw[sV _ _ _ h2,qF zGE,zS zGE,wT _ _ h2];rfl
 ·by_cases h3:j<17
  ·obtain rfl:j=16:=by omega
   rw[XU,qE zGE,m5];rfl
  ·rw[zF zG9,qR (by simp[m5];omega)];rfl
theorem zHL(L:List Int)(p:Int):(splice ((xB mM++[p]).map (Value.int .u8)) 0 ((L.take 16).map (Value.int .u8))).toArray=ac (pad L) p:=by
 rw[eP,IM];congr 2
 apply kN
 intro j
 have ll:(L.take 16).length≤16:=by rw[qX];omega
 rw[yT _ _ _ (by simp[m5];omega),zL zGX,qL];by_cases h1:j<(L.take 16).length
 ·have h2:j<L.length:=by rw[qX]at h1;omega
  rw[zN h1,Nat.sub_zero,qF zGE,zS h1,jB,zS zGE,wT _ _ zGX,zXR _ _ h2]
 ·rw[zL h1];by_cases h2:j<16
  ·rw[qF zGE,qF zGE,zS zGE,zS zGE,wT _ _ h2,wT _ _ h2,
    zY8 _ _ (by rw[qX]at h1;omega)]
   rfl
  ·rw[qE zGE,qE zGE,m5,m5]
theorem dX:vZ Tryz.prog 84 17:=⟨⟨_,Tryz.underlying84,rfl⟩,by kernel_rfl⟩
theorem zWO:nH Tryz.prog 84 (ac mM 0):=by
 unfold nH;rw[nP];kernel_rfl
theorem zZT(w:World):(zeroValue 84).run Tryz.prog w=.ok (.agg (ac mM 0)) w:=uO zWO
theorem zQ4:Tryz.prog.built 84 [(1,.int .u8 64)]=some (ac mM 64):=by kernel_rfl
def AB(b:Nat)(P:Nat→Int)(p:Int)(w:World):Prop:=Blk b 84 (ac P p) w
section
variable {b:Nat} {P Q:Nat→Int} {p q:Int} {w w':World}
theorem AB.lt(H:AB b P p w):b<w.heap.size:=Blk.lt H
theorem AB.below(H:AB b P p w){n:Nat}(hb:Below n w w')(hn:b<n):AB b P p w':=Blk.below H hb hn
theorem AB.step(H:AB b P p w)(hb:Below w.heap.size w w'):AB b P p w':=Blk.step H hb
theorem AB.new(w:World)(P:Nat→Int)(p:Int):AB w.heap.size P p (w.alloc (.cells (ac P p) 84)):=Blk.new _ _ _
theorem AB.alloc(H:AB b P p w)(o:Obj):AB b P p (w.alloc o):=Blk.alloc H o
theorem AB.drew(H:AB b P p w):AB b P p w.drew:=H
theorem AB.otherRow(H:AB b P p w){g:Nat}(hg:b≠g)(ds:Array Value):AB b P p (w.setRow g ds):=Blk.otherRow H hg ds
theorem AB.other(H:AB b P p w){g:Nat}(hg:b≠g)(o:Nat)(v:Value):AB b P p (w.setCell ⟨g,o,none⟩ v):=Blk.other H hg o v
theorem AB.cell(H:AB b P p w){j:Nat}(hj:j<16):w.cell? ⟨b,j,none⟩=some (.int .u8 (P j)):=by rw[Blk.cell H,sV _ _ _ hj]
theorem AB.pitch(H:AB b P p w):w.cell? ⟨b,16,none⟩=some (.int .u8 p):=by rw[Blk.cell H,XU]
theorem AB.fz(H:AB b P p w)(j:Nat):w.frozen? ⟨b,j,none⟩=false:=Blk.frozen H j
theorem AB.store(H:AB b P p w)(Q:Nat→Int)(q:Int):AB b Q q (w.setRow b (ac Q q)):=Blk.store H _
theorem AB.tune(H:AB b P p w)(q:Int):AB b P q (w.setCell ⟨b,16,none⟩ (.int .u8 q)):=(Blk.put H 16 _).eq (zWL P p q)
theorem AB.rd(H:AB b P p w):Rd w (some ⟨b,0,none⟩) (xB P):=fun _=>by
 exact zRI
end
theorem dI{B:Nat}{a w:World}(h:Below B a w){g:Nat}(hg:B≤g)(cs:Array Value):Below B a (w.setRow g cs):=lU h hg cs
end
section
open Go.RowKit
theorem lD{b:Nat}{T:TypeId}{cs:Array Value}{W:World}(H:Blk b T cs W):∀w',(∃u:lA W,w'=u.w)→Blk b T cs w':=fun w' hw=>by obtain⟨u,rfl⟩:=hw;exact H.step u.below
end
section
open Go.RowKit Num
theorem wI{P:Program}{fn:Func}{p q r:Tmp}{ty:TypeId}(h:fn.results=#[.cell p ty,.tmp q,.tmp r])(tmps:Array Value)(w:World)(g:Nat)(t:TypeId)(cs:Array Value)(fr:Nat×Nat)(v u:Value)
  (hp:tmps.getD p undef=.pointer (some ⟨g,0,none⟩)) (hq:tmps.getD q undef=v) (hr:tmps.getD r undef=u) (hg:w.heap[g]?=some (.cells cs t fr)) {n:Nat} (A:vZ P ty n) (hn:cs.size=n):
  (results fn tmps).run P w=.ok (.tuple #[.agg cs,v,u]) w:=by
 obtain⟨⟨d,hu,hd⟩,hi⟩:=A;have hp':tmps[p]?.getD undef=.pointer (some ⟨g,0,none⟩):=by simpa using hp
 have hq':tmps[q]?.getD undef=v:=by simpa using hq
 have hr':tmps[r]?.getD undef=u:=by simpa using hr
 have hl:=run_loadVar_row w g t ty cs fr d hg hu (by cases d<;>simp_all [TypeDesc.isRow]) (by rw[hi,hn]);simp[results,h,hp',hq',hr',asAddr,hl]
theorem dS(L:List Int)(hl:L.length≤16)(w:World):
  Calls Tryz.prog 166 #[.agg (mE L)] w fun e w'=>e=.returned (.int .i64 (L.length:Int))∧Below w.heap.size w w':=by
 have hI:(L.length:Int)≤16:=zGX;have h0:(0:Int)≤(L.length:Int):=zGX;have m1:max (L.length:Int) 0=(L.length:Int):=zGX;have m2:min (L.length:Int) 16=(L.length:Int):=zGX;clear hl;go_enter Tryz.func166,Tryz.ntmps166;go_upto_region 1 with fail;have T:=zW (TB8.new w L);have B:=zW (xJ w (.cells (mE L) 77));generalize w.alloc (.cells (mE L) 77)=w1 at*;obtain⟨r,hr⟩:∃r,w.heap.size=r:=⟨_,rfl⟩;have HR:=zW hr;rw[hr]at T B⊢;clear hr;have c0:=T.out.depth;go_wp2;go_ret;exact⟨rfl,by rw[HR.out];exact B.out⟩
theorem tV(l e:Int)(w:World):
  Calls Tryz.prog 167 #[.int .i64 l,.int .i64 e] w fun x w'=>x=.returned (.func (.func 196) #[] #[.pointer (some ⟨w.heap.size,0,none⟩),.pointer (some ⟨w.heap.size+1,0,none⟩)])∧w'=(w.alloc (.cells #[.int .i64 l] 3)).alloc (.cells #[.int .i64 e] 32):=by
 go_enter Tryz.func167,Tryz.ntmps167;go_wp2;go_returns;exact⟨rfl,rfl⟩
def wX(d l e:Int):Int:=if d=l then e else 0
theorem gR(d l e:Int)(g h:Nat)(w:World)(c0:w.cell? ⟨g,0,none⟩=some (.int .i64 l))(c1:w.cell? ⟨h,0,none⟩=some (.int .i64 e)):
  Calls Tryz.prog 196 #[.int .i64 d,.pointer (some ⟨g,0,none⟩),.pointer (some ⟨h,0,none⟩)] w fun x w'=>x=.returned (.int .i64 (wX d l e))∧w=w':=by
 by_cases hd:d=l
 ·have E:=zW (show e=wX d l e by unfold wX;rw[zN hd]);go_enter Tryz.func196,Tryz.ntmps196;go_wp2;go_ret;exact⟨wM E.out,rfl⟩
 ·have E:=zW (show 0=wX d l e by unfold wX;rw[zL hd]);go_enter Tryz.func196,Tryz.ntmps196;go_wp2;go_ret;exact⟨wM E.out,rfl⟩
structure zWH(r n:Nat)(l e:Int)(w:World):Prop where
 c0:w.cell? ⟨n,0,none⟩=some (.int .i64 l)
 c1:w.cell? ⟨n+1,0,none⟩=some (.int .i64 e)
theorem A9(l e:Int)(w:World):zWH 0 w.heap.size l e ((w.alloc (.cells #[.int .i64 l] 3)).alloc (.cells #[.int .i64 e] 32)):=⟨by simp,by simp⟩
theorem zXW(L:List Int)(a:Int)(hl:L.length<16)(w:World):
  Calls Tryz.prog 127 #[.agg (mE L),.int .i64 a] w fun e w'=>e=.returned (.tuple #[.agg (mE (L++[a])),.int .i64 0])∧Below w.heap.size w w':=by
 have DP:=zW fun w=>dS L zGX w;have E:=zW (show wX (L.length:Int) 16 2=0 by unfold wX;rw[zL zGX]);have HL:=zW hl;have wr0:IntKind.i64.wrap ((L.length:Int)+1)=(L.length:Int)+1:=by rw[zU];omega
 have hI:(L.length:Int)<16:=zGX;have h0:(0:Int)≤(L.length:Int):=zGX;have hz:=sL;have wr:=zW wr0;clear wr0;go_enter Tryz.func127,Tryz.ntmps127;go_upto_region 1 with fail;have S:=zW ((TB8.new w L).alloc (.cells (mE []) 77));have R:=zW (TB8.new (w.alloc (.cells (mE L) 77)) []);have B:=zW ((xJ w (.cells (mE L) 77)).alloc zGN (.cells (mE []) 77));rw[zT]at R;generalize (w.alloc (.cells (mE L) 77)).alloc (.cells (mE []) 77)=w1 at*;clear hz;obtain⟨r,hr⟩:∃r,w.heap.size=r:=⟨_,rfl⟩;have HR:=zW hr;rw[hr]at S R B⊢;clear hr;refine zH ?_;refine lL yQ S.out (mX _) rfl (.tmp 2) rfl zGB ?_;simp only[Act.put,zQ,zZ,zJ];have Z:=zW (j7 (Nat.lt_of_succ_lt R.out.lt));go_wp2_with fail;refine(DP.out w1).mono ?_;rintro e w2 ⟨rfl,b2⟩;have S:=zW (S.out.step b2);have R:=zW (R.out.step b2);have B:=zW (B.out.trans (b2.mono Z.out));have Z:=zW (zR Z.out b2.size);clear b2;go_wp2_with fail;refine(tV 16 2 w2).mono ?_;rintro e w3 ⟨rfl,hw3⟩;have B3:=zW (show Below w2.heap.size w2 w3 by rw[hw3];exact(xJ _ _).alloc zGN _);have T:=zW (show zWH 0 w2.heap.size 16 2 w3 by rw[hw3];exact A9 _ _ _);clear hw3;have S:=zW (S.out.step B3.out);have R:=zW (R.out.step B3.out);have B:=zW (B.out.trans (B3.out.mono Z.out));have CH:=zW (gR (L.length:Int) 16 2 w2.heap.size (w2.heap.size+1) w3 T.out.c0 T.out.c1);rw[E.out]at CH;clear T B3 Z;go_wp2_with fail;refine CH.out.mono ?_;rintro e w4 ⟨rfl,rfl⟩;clear CH;go_upto_region 5 with fail;have c0:=S.out.cell HL.out;have f0:=S.out.fz L.length;have c1:=S.out.depth;have f1:=S.out.fz 16;have S2:=zW (S.out.push HL.out a);have R2:=zW ((R.out.other (g:=r) zGX L.length (.int .i64 a)).other (g:=r) zGX 16 (.int .i64 ((L.length:Int)+1)));have B2:=zW ((B.out.setCell (p:=⟨r,L.length,none⟩) (zG _) (.int .i64 a)).setCell (p:=⟨r,16,none⟩) (zG _) (.int .i64 ((L.length:Int)+1)));clear S R B;go_upto_region 7 with fail;clear c0 c1 f0 f1;generalize (w3.setCell ⟨r,L.length,none⟩ (.int .i64 a)).setCell ⟨r,16,none⟩ (.int .i64 ((L.length:Int)+1))=w4 at*;refine zH ?_;refine lL yQ S2.out (mX _) rfl (.tmp 2) rfl zGB ?_;simp only[Act.put,zQ,zZ,zJ];refine lM (ds:=mE (L++[a])) yQ R2.out (mX _) (mX _) (yJ _) rfl (.tmp 4) (.tmp 24) rfl zGK zGK ?_;have R3:=zW (R2.out.store (L++[a]));have B3:=zW (dU B2.out (jT r) (mE (L++[a])));generalize w4.setRow (r+1) (mE (L++[a]))=w5 at*;iterate 7 go_step
 exact zR2
theorem zY2(L:List Int)(a:Int)(hl:L.length=16)(w:World):
  Calls Tryz.prog 127 #[.agg (mE L),.int .i64 a] w fun e w'=>e=.returned (.tuple #[.agg (mE L),.int .i64 2])∧Below w.heap.size w w':=by
 have DP:=zW fun w=>dS L zGX w;have E:=zW (show wX (L.length:Int) 16 2=2 by unfold wX;rw[zN zGX]);have wr0:=hl;have hz:=sL;have wr:=zW wr0;clear wr0 hl;go_enter Tryz.func127,Tryz.ntmps127;go_upto_region 1 with fail;have S:=zW ((TB8.new w L).alloc (.cells (mE []) 77));have R:=zW (TB8.new (w.alloc (.cells (mE L) 77)) []);have B:=zW ((xJ w (.cells (mE L) 77)).alloc zGN (.cells (mE []) 77));rw[zT]at R;generalize (w.alloc (.cells (mE L) 77)).alloc (.cells (mE []) 77)=w1 at*;clear hz;obtain⟨r,hr⟩:∃r,w.heap.size=r:=⟨_,rfl⟩;have HR:=zW hr;rw[hr]at S R B⊢;clear hr;refine zH ?_;refine lL yQ S.out (mX _) rfl (.tmp 2) rfl zGB ?_;simp only[Act.put,zQ,zZ,zJ];have Z:=zW (j7 (Nat.lt_of_succ_lt R.out.lt));go_wp2_with fail;refine(DP.out w1).mono ?_;rintro e w2 ⟨rfl,b2⟩;have S:=zW (S.out.step b2);have R:=zW (R.out.step b2);have B:=zW (B.out.trans (b2.mono Z.out));have Z:=zW (zR Z.out b2.size);clear b2;go_wp2_with fail;refine(tV 16 2 w2).mono ?_;rintro e w3 ⟨rfl,hw3⟩;have B3:=zW (show Below w2.heap.size w2 w3 by rw[hw3];exact(xJ _ _).alloc zGN _);have T:=zW (show zWH 0 w2.heap.size 16 2 w3 by rw[hw3];exact A9 _ _ _);clear hw3;have S:=zW (S.out.step B3.out);have R:=zW (R.out.step B3.out);have B:=zW (B.out.trans (B3.out.mono Z.out));have CH:=zW (gR (L.length:Int) 16 2 w2.heap.size (w2.heap.size+1) w3 T.out.c0 T.out.c1);rw[E.out]at CH;clear T B3 Z;go_wp2_with fail;refine CH.out.mono ?_;rintro e w4 ⟨rfl,rfl⟩;clear CH;go_upto_region 4 with fail;refine zH ?_;refine lL yQ S.out (mX _) rfl (.tmp 2) rfl zGB ?_;simp only[Act.put,zQ,zZ,zJ];iterate 3 go_step
 refine lM (ds:=mE L) yQ R.out (mX _) (mX _) (yJ _) rfl (.tmp 4) (.tmp 15) rfl zGK zGK ?_;have R3:=zW (R.out.store L);have B3:=zW (dU B.out (jT r) (mE L));generalize w3.setRow (r+1) (mE L)=w5 at*;go_wp2_with fail;exact zR2
theorem pop_no(w:World):
  Calls Tryz.prog 128 #[.agg (mE [])] w fun e w'=>e=.returned (.tuple #[.agg (mE []),.int .i64 0,.int .i64 3])∧Below w.heap.size w w':=by
 have DP:=zW fun w=>dS [] zGN w;have E:=zW (show wX 0 0 3=3 by unfold wX;rw[zN rfl]);have wr0:=E;have hz:=sL;have wr:=zW wr0;go_enter Tryz.func128,Tryz.ntmps128;go_upto_region 1 with fail;have S:=zW ((TB8.new w []).alloc (.cells (mE []) 77));have R:=zW (TB8.new (w.alloc (.cells (mE []) 77)) []);have B:=zW ((xJ w (.cells (mE []) 77)).alloc zGN (.cells (mE []) 77));rw[zT]at R;generalize (w.alloc (.cells (mE []) 77)).alloc (.cells (mE []) 77)=w1 at*;clear hz;obtain⟨r,hr⟩:∃r,w.heap.size=r:=⟨_,rfl⟩;have HR:=zW hr;rw[hr]at S R B⊢;clear hr;refine zH ?_;refine lL yQ S.out (mX _) rfl (.tmp 1) rfl zGB ?_;simp only[Act.put,zQ,zZ,zJ];have Z:=zW (j7 (Nat.lt_of_succ_lt R.out.lt));go_wp2_with fail;refine(DP.out w1).mono ?_;rintro e w2 ⟨rfl,b2⟩;have S:=zW (S.out.step b2);have R:=zW (R.out.step b2);have B:=zW (B.out.trans (b2.mono Z.out));have Z:=zW (zR Z.out b2.size);clear b2;go_wp2_with fail;refine(tV 0 3 w2).mono ?_;rintro e w3 ⟨rfl,hw3⟩;have B3:=zW (show Below w2.heap.size w2 w3 by rw[hw3];exact(xJ _ _).alloc zGN _);have T:=zW (show zWH 0 w2.heap.size 0 3 w3 by rw[hw3];exact A9 _ _ _);clear hw3;have S:=zW (S.out.step B3.out);have R:=zW (R.out.step B3.out);have B:=zW (B.out.trans (B3.out.mono Z.out));have CH:=zW (gR 0 0 3 w2.heap.size (w2.heap.size+1) w3 T.out.c0 T.out.c1);rw[E.out]at CH;clear T B3 Z;go_wp2_with fail;refine CH.out.mono ?_;rintro e w4 ⟨rfl,rfl⟩;clear CH;go_upto_region 4 with fail;refine zH ?_;refine lL yQ S.out (mX _) rfl (.tmp 1) rfl zGB ?_;simp only[Act.put,zQ,zZ,zJ];iterate 3 go_step
 refine lM (ds:=mE []) yQ R.out (mX _) (mX _) (yJ _) rfl (.tmp 2) (.tmp 15) rfl zGK zGK ?_;have R3:=zW (R.out.store []);have B3:=zW (dU B.out (jT r) (mE []));generalize w3.setRow (r+1) (mE [])=w5 at*;go_wp2_with fail;exact zRA
theorem zY3(L:List Int)(a:Int)(hl:L.length<16)(w:World):
  Calls Tryz.prog 128 #[.agg (mE (L++[a]))] w fun e w'=>e=.returned (.tuple #[.agg (mE L),.int .i64 a,.int .i64 0])∧Below w.heap.size w w':=by
 have HM:=zW (show(L++[a]).length=L.length+1 by simp);obtain⟨M,hM⟩:∃M,M=L++[a]:=⟨_,rfl⟩;have MM:=zW hM;rw[←hM]at HM⊢;have DP:=zW fun w=>dS M (by rw[HM.out];omega) w;have E:=zW (show wX ((L.length:Int)+1) 0 3=0 by unfold wX;rw[zL zGX]);rw[show(M.length:Int)=(L.length:Int)+1 by rw[HM.out];simp]at DP;have HL:=zW hl;have wr0:IntKind.i64.wrap ((L.length:Int)+1-1)=(L.length:Int):=by rw[zU];omega
 have hI:(L.length:Int)<16:=zGX;have h0:(0:Int)≤(L.length:Int):=zGX;clear hM;have hz:=sL;have wr:=zW wr0;clear wr0;go_enter Tryz.func128,Tryz.ntmps128;go_upto_region 1 with fail;have S:=zW ((TB8.new w M).alloc (.cells (mE []) 77));have R:=zW (TB8.new (w.alloc (.cells (mE M) 77)) []);have B:=zW ((xJ w (.cells (mE M) 77)).alloc zGN (.cells (mE []) 77));rw[zT]at R;generalize (w.alloc (.cells (mE M) 77)).alloc (.cells (mE []) 77)=w1 at*;clear hz;obtain⟨r,hr⟩:∃r,w.heap.size=r:=⟨_,rfl⟩;have HR:=zW hr;rw[hr]at S R B⊢;clear hr;refine zH ?_;refine lL yQ S.out (mX _) rfl (.tmp 1) rfl zGB ?_;simp only[Act.put,zQ,zZ,zJ];have Z:=zW (j7 (Nat.lt_of_succ_lt R.out.lt));go_wp2_with fail;refine(DP.out w1).mono ?_;rintro e w2 ⟨rfl,b2⟩;have S:=zW (S.out.step b2);have R:=zW (R.out.step b2);have B:=zW (B.out.trans (b2.mono Z.out));have Z:=zW (zR Z.out b2.size);clear b2;go_wp2_with fail;refine(tV 0 3 w2).mono ?_;rintro e w3 ⟨rfl,hw3⟩;have B3:=zW (show Below w2.heap.size w2 w3 by rw[hw3];exact(xJ _ _).alloc zGN _);have T:=zW (show zWH 0 w2.heap.size 0 3 w3 by rw[hw3];exact A9 _ _ _);clear hw3;have S:=zW (S.out.step B3.out);have R:=zW (R.out.step B3.out);have B:=zW (B.out.trans (B3.out.mono Z.out));have CH:=zW (gR ((L.length:Int)+1) 0 3 w2.heap.size (w2.heap.size+1) w3 T.out.c0 T.out.c1);rw[E.out]at CH;clear T B3 Z;go_wp2_with fail;refine CH.out.mono ?_;rintro e w4 ⟨rfl,rfl⟩;clear CH;go_upto_region 5 with fail;have V:=zW (show stF M L.length=a by rw[MM.out];simp[stF]);have c0:=S.out.cell HL.out;rw[V.out]at c0;have f0:=S.out.fz L.length;have c1:=S.out.depth;rw[HM.out]at c1;have f1:=S.out.fz 16;rw[MM.out]at S;have S2:=zW (S.out.pop HL.out);have R2:=zW ((R.out.other (g:=r) zGX L.length (.int .i64 0)).other (g:=r) zGX 16 (.int .i64 (L.length:Int)));have B2:=zW ((B.out.setCell (p:=⟨r,L.length,none⟩) (zG _) (.int .i64 0)).setCell (p:=⟨r,16,none⟩) (zG _) (.int .i64 (L.length:Int)));clear S R B;have wr1:=wr.out;go_upto_region 8 with fail;clear c0 c1 f0 f1 wr1;generalize (w3.setCell ⟨r,L.length,none⟩ (.int .i64 0)).setCell ⟨r,16,none⟩ (.int .i64 (L.length:Int))=w4 at*;refine zH ?_;refine lL yQ S2.out (mX _) rfl (.tmp 1) rfl zGB ?_;simp only[Act.put,zQ,zZ,zJ];iterate 3 go_step
 refine lM (ds:=mE L) yQ R2.out (mX _) (mX _) (yJ _) rfl (.tmp 2) (.tmp 29) rfl zGK zGK ?_;have R3:=zW (R2.out.store L);have B3:=zW (dU B2.out (jT r) (mE L));generalize w4.setRow (r+1) (mE L)=w5 at*;iterate 10 go_step
 exact zRA
end
section
open Go.RowKit

end
section
open Go.RowKit Num
theorem bJ(n:Int)(w:World):Calls Tryz.prog 77 #[.int .i64 n] w fun e w'=>e=.returned (.int .i64 (n%65536))∧w=w':=by
 have hb:=TW n;go_enter Tryz.func77,Tryz.ntmps77;go_wp2;exact zRX
def chk(a n:Int)(f:Bool):Int:=if f=true∧65536<a+n then 4 else 0
theorem rX(a n:Int)(f:Bool)(w:World)(a0:0≤a)(a1:a≤65535)(n0:0≤n)(n1:n≤65536):Calls Tryz.prog 66 #[.int .i64 a,.int .i64 n,.bool f] w fun e w'=>e=.returned (.int .i64 (chk a n f))∧w=w':=by
 cases f
 ·go_enter Tryz.func66,Tryz.ntmps66;go_wp2;go_ret;exact⟨by simp[chk],rfl⟩
 ·by_cases h:65536<a+n
  all_goals
   go_enter Tryz.func66,Tryz.ntmps66
   go_wp2
   go_ret
   exact⟨by simp[chk,h],rfl⟩




end
section
open Go.RowKit Num Dec Cpu
structure D4(w0:World)(g:Nat)(v:Nat→Nat)(op:Int)(x y:Nat)(n:Int)(nn:Nat)(addr len:Int)(q:Pr)(w:World):Prop where
 r:Blk g 43 (rg v) w
 i:Blk (g+1) 128 #[.int .i64 op,.int .i64 (x:Int),.int .i64 (y:Int),.int .i64 n,.int .i64 (nn:Int),.int .i64 addr,.int .i64 len] w
 p:Blk (g+1+1) 24 (prc q) w
 o:Blk (g+1+1+1) 43 (pc mM) w
 low:Below w0.heap.size w0 w
 le:w0.heap.size≤g
theorem D4.put{w0 w:World}{g:Nat}{v:Nat→Nat}{op:Int}{x y:Nat}{n:Int}{nn:Nat}{addr len:Int}{q:Pr}(D:D4 w0 g v op x y n nn addr len q w){k:Nat}(hk:k<16)(r:Nat):D4 w0 g (upd v k r) op x y n nn addr len q (w.setCell ⟨g,k,none⟩ (.int .u8 (r:Int))):=
 ⟨(D.r.put k _).eq (GC v hk r),D.i.other zGX k _,D.p.other zGX k _,D.o.other zGX k _,D.low.trans ⟨rfl,rfl,rfl,by simp,fun b hb=>qD w ⟨g,k,none⟩ _ b (by have:=D.le;show b≠g;omega)⟩,D.le⟩
theorem D4.cx{w0 w:World}{g:Nat}{v:Nat→Nat}{op:Int}{x y:Nat}{n:Int}{nn:Nat}{addr len:Int}{q:Pr}(D:D4 w0 g v op x y n nn addr len q w){k:Nat}(hk:k<16):w.cell? ⟨g,k,none⟩=some (.int .u8 (v k:Int)):=by rw[D.r.cell,e8 v hk]

end
section
open Go.RowKit
inductive TF where
 |last (is:List Nat)
 |branch (is:List Nat) (cs:List Nat) (t:Nat→TF)
section
variable {P:Program} {ops:Array Oper} {C:World→Prop} {Q:Exit→Act→World→Prop} {md:Region.Mode}
def xV(P:Program)(ops:Array Oper)(C:World→Prop)(Q:Exit→Act→World→Prop):TF→Act→World→Prop
 |.last is,a,w=>wpQuiet P ops C (fun a'=>Q .normal a' w) (lW ops is) a
 |.branch is cs t,a,w=>wpQuiet P ops C (fun a'=>∀c,c∈cs→vA P ops C Q c (fun a w=>xV P ops C Q (t c) a w) a' w) (lW ops is) a
def VI(md:Region.Mode)(ops:Array Oper):TF→Array Bool→Bool
 |.last is,listed=>QG md ops is listed&&(Region.ready md ops (nL listed is)).isEmpty
 |.branch is cs t,listed=>QG md ops is listed&&decide (Region.ready md ops (nL listed is)=cs)&& !cs.isEmpty&&cs.all fun c=>VI md ops (t c) ((nL listed is).setIfInBounds c true)
def zKY:TF→Nat→Bool
 |.last is,n=>decide (n=is.length)
 |.branch is cs t,n=>decide (is.length+1≤n)&&cs.all fun c=>zKY (t c) (n-is.length-1)
theorem KA(hs:Region.noSelect ops=true)(hQ:∀(c:_) (a:Act) (d:Option Tmp) (v:Value) (w:World),Q (.panic c) (a.put d v) w→Q (.panic c) a w)(k:Nat):∀(t:TF) (n:Nat) (listed:Array Bool) (a:Act) (w:World),C w→
  zKY t n=true→VI md ops t listed=true→xV P ops C Q t a w→wpAnyH P md ops Q C (k+n) listed a w
 |.last is,n,listed,a,w,hC,hl,hB,h=>by
  simp only[VI,zC]at hB;obtain rfl:n=is.length:=by simpa [zKY]using hl
  have hr:Region.ready md ops (nL listed is)=[]:=by simpa using hB.2
  refine wS hs hQ k hC is listed a hB.1 ?_;simp only[xV]at h;exact tU (fun a h=>wpAnyH_done hr h k) _ _ h
 |.branch is cs t,n,listed,a,w,hC,hl,hB,h=>by
  simp only[VI,zC]at hB;obtain⟨⟨⟨hB1,hB2⟩,hB3⟩,hB4⟩:=hB;have hr:Region.ready md ops (nL listed is)=cs:=by simpa using hB2
  simp only[zKY,zC,qK]at hl;obtain⟨hn,hl⟩:=hl;obtain⟨m,rfl⟩:∃m,n=m+1+is.length:=⟨n-is.length-1,by omega⟩;rw[←qP];refine wS hs hQ _ hC is listed a hB1 ?_;simp only[xV]at h;refine tU (fun a' ha=>?_) _ _ h;rw[←qP];refine wpAnyH_all hr (by intro e;rw[e]at hB3;cases hB3) fun i hi=>?_;refine iT hC (ha i hi) fun a'' w'' h1 h2=>?_;have e1:=jJ.1 hl i hi;rw[show m+1+is.length-is.length-1=m by omega]at e1;exact KA hs hQ k (t i) m _ a'' w'' h1 e1 (jJ.1 hB4 i hi) h2
theorem nU{id:Nat}{a:Act}{w:World}{l:List Oper}(t:TF)(hm:P.follows .mixedOrders=true)
  (hB:(Region.noSelect l.toArray&&VI .any l.toArray t (Array.replicate l.toArray.size false)&&zKY t l.toArray.size)=true)
  (hQ:∀(c:_) (a:Act) (d:Option Tmp) (v:Value) (w:World),Q (.panic c) (a.put d v) w→Q (.panic c) a w) (hC:C w.drew)
  (h:∀wd,wd=w.drew→xV P l.toArray C Q t a wd):(Code.region id l.toArray true).wp P Q a w:=by
 simp only[zC]at hB;obtain⟨⟨hs,hb⟩,hl⟩:=hB;refine wp_region_held (S:=C) hm ?_;have:=KA (md:=.any) hs hQ 0 t l.toArray.size (Array.replicate l.toArray.size false) a w.drew hC hl hb (h _ rfl);rwa [qL]at this
theorem vO{is:List Nat}{l:List Oper}{a:Act}{w:World}(hl:lW ops is=l)(h:wpQuiet P ops C (fun a'=>Q .normal a' w) l a):xV P ops C Q (.last is) a w:=by
 subst hl;exact h
theorem mF{is cs:List Nat}{t:Nat→TF}{l:List Oper}{a:Act}{w:World}(hl:lW ops is=l)(h:wpQuiet P ops C (fun a'=>∀c,c∈cs→vA P ops C Q c (fun a w=>xV P ops C Q (t c) a w) a' w) l a):xV P ops C Q (.branch is cs t) a w:=by
 subst hl;exact h
theorem mB{c:Nat}{t:TF}{o:Oper}{a:Act}{w:World}(ho:ops[c]?=some o)(hw:Region.wanted o (yielded ops a.tmps)=true)(h:∀K:Act→World→Prop,(∀a w,C w→xV P ops C Q t a w→K a w)→o.wp P a w K Q):vA P ops C Q c (fun a w=>xV P ops C Q t a w) a w:=by
 unfold vA;rw[ho];simp only[hw,if_true];exact h _ fun a w hc h=>⟨hc,h⟩
end
end
section
open Go.RowKit Num

end
section
namespace Dec
theorem decNo{b0 b1 b2 b3:Nat}{l:Int}(h:ok b0 b1 l=false):dec b0 b1 b2 b3 l=⟨0,0,0,0,0,0,skl b0 b1 l⟩:=by
 unfold dec;rw[h];rfl
theorem zVH{b0 b1 b2 b3:Nat}{l:Int}(h:ok b0 b1 l=true){r:Rl}(hr:top (b0*256+b1)=r):dec b0 b1 b2 b3 l=⟨r.op,pX r.pk (dx b0:Nat),pY r.pk (b1/16:Nat),pN r.pk (dx b0:Nat) (b1%16:Nat),pNN r.pk (b1:Nat),pA r.pk (dx b0*256+b1:Nat) (b2*256+b3:Nat),skl b0 b1 l⟩:=by
 unfold dec;rw[h,hr];rfl
theorem zXE{b0 b1:Nat}{l:Int}(h:ok b0 b1 l=true):(top (b0*256+b1)).op≠0:=by
 unfold ok at h;intro e;rw[e]at h;cases h
theorem zXC{b0 b1:Nat}{l:Int}(h:ok b0 b1 l=true):((top (b0*256+b1)).level:Int)≤l∧l≤3:=by
 have k:=ZL (b0*256+b1);have ho:=zXE h;unfold ok at h;generalize top (b0*256+b1)=r at*;obtain⟨_,_,_,_,_,_,_,hr,hf⟩:=k;rw[zC]at h;have h2:=h.2;unfold alw at h2;by_cases hc:r.op=43∨r.op=44
 ·rw[show(r.op==43||r.op==44)=true by simpa using hc]at h2;have h3:=qA (show PS l (dx b0:Nat)=true from h2);have:=(hf hc).2;omega
 ·rw[show(r.op==43||r.op==44)=false by simpa using hc]at h2;rw[show(bif false then PS l (dx b0:Nat)else(decide ((r.level:Int)≤l)&&decide (l≤3)))=(decide ((r.level:Int)≤l)&&decide (l≤3))from rfl,zC]at h2;exact⟨qA h2.1,qA h2.2⟩
theorem zLK{b0 b1:Nat}{l m:Int}(h:ok b0 b1 l=true)(hm:l≤m)(h3:m≤3):ok b0 b1 m=true:=by
 have k:=ZL (b0*256+b1);have ho:=zXE h;unfold ok at h⊢;generalize top (b0*256+b1)=r at*;rw[zC]at h⊢;refine⟨h.1,?_⟩;have h2:=h.2;have hd:dx b0<16:=by unfold dx;omega
 unfold alw at h2⊢;by_cases hc:r.op=43∨r.op=44
 ·rw[show(r.op==43||r.op==44)=true by simpa using hc]at h2⊢;have h4:=qA (show PS l (dx b0:Nat)=true from h2);show PS m (dx b0:Nat)=true;unfold PS;exact qY zGX
 ·rw[show(r.op==43||r.op==44)=false by simpa using hc]at h2⊢;rw[show(bif false then PS l (dx b0:Nat)else(decide ((r.level:Int)≤l)&&decide (l≤3)))=(decide ((r.level:Int)≤l)&&decide (l≤3))from rfl,zC]at h2;have h4:=qA h2.1;show(decide ((r.level:Int)≤m)&&decide (m≤3))=true;rw[qY zGX,qY h3];rfl
theorem J5(b0 b1 b2 b3:Nat)(l:Int)(h0:b0<256)(h1:b1<256):(ok b0 b1 l=false∧dec b0 b1 b2 b3 l=⟨0,0,0,0,0,0,2⟩∧skl b0 b1 l=2)∨
  (ok b0 b1 l=true∧∃r:Rl,top (b0*256+b1)=r∧QK r∧r.op≠0∧skl b0 b1 l=(if r.op=48 then 4 else 2)∧dec b0 b1 b2 b3 l=⟨r.op,pX r.pk (dx b0:Nat),pY r.pk (b1/16:Nat),pN r.pk (dx b0:Nat) (b1%16:Nat),pNN r.pk (b1:Nat),pA r.pk (dx b0*256+b1:Nat) (b2*256+b3:Nat),if r.op=48 then 4 else 2⟩):=by
 cases hk:ok b0 b1 l
 ·left
  have s:=skl_no h0 h1 hk;exact⟨rfl,by rw[decNo hk,s],s⟩
 ·right
  have s:=zJM h0 h1 hk;exact⟨rfl,_,rfl,ZL _,zXE hk,s,by rw[zVH hk rfl,s]⟩
theorem zQR(b0 b1 b2 b3:Nat)(l:Int)(h0:b0<256)(h1:b1<256)(h2:b2<256)(h3:b3<256){i:Ins}(hi:dec b0 b1 b2 b3 l=i):
  (0≤i.op∧i.op≤51)∧(0≤i.x∧i.x≤15)∧(0≤i.y∧i.y≤15)∧(0≤i.n∧i.n≤15)∧(0≤i.nn∧i.nn≤255)∧(0≤i.addr∧i.addr≤65535):=by
 subst hi;rcases J5 b0 b1 b2 b3 l h0 h1 with⟨k,e,s⟩|⟨k,r,hr,kr,ho,s,e⟩
 ·rw[e];simp only;omega
 ·rw[e];have hop:r.op≤51:=by
   obtain⟨_,_,_,_,_,_,_,hr,_⟩:=kr;rcases hr with hr|hr
   ·omega
   ·exact hr.2.2.2.1
  have hd:dx b0<16:=by unfold dx;omega
  simp only;generalize r.pk=p;refine⟨by omega,?_,?_,?_,?_,?_⟩
  all_goals (cases p<;>simp only[pX,pY,pN,pNN,pA]<;>omega)
theorem J4(b0 b1 b2 b3:Nat)(l:Int)(h0:b0<256)(h1:b1<256)(hl:1≤l∧l≤3):
  (dec b0 b1 b2 b3 l=⟨0,0,0,0,0,0,2⟩)∨((dec b0 b1 b2 b3 l).op≠0∧(∀m:Int,l≤m→m≤3→dec b0 b1 b2 b3 m=dec b0 b1 b2 b3 l)∧1≤lv (dec b0 b1 b2 b3 l).op∧lv (dec b0 b1 b2 b3 l).op≤l∧(((dec b0 b1 b2 b3 l).op=48∧(dec b0 b1 b2 b3 l).len=4)∨(¬(dec b0 b1 b2 b3 l).op=48∧(dec b0 b1 b2 b3 l).len=2))):=by
 rcases J5 b0 b1 b2 b3 l h0 h1 with⟨k,e,s⟩|⟨k,r,hr,kr,ho,s,e⟩
 ·exact .inl e
 ·right
  have hlv:=zXC k;rw[hr]at hlv;have hrr:lv r.op=r.level∧1≤r.level:=by
   obtain⟨_,_,_,_,_,_,_,hr,_⟩:=kr;rcases hr with hr|hr
   ·omega
   ·exact⟨hr.2.2.2.2,hr.2.1⟩
  refine⟨by rw[e];simp only;omega,fun m hm h3=>?_,by rw[e];simp only;omega,by rw[e];simp only;omega,?_⟩
  ·have km:=zLK k hm h3;have sm:=zJM h0 h1 km;rw[hr]at sm;rw[e,zVH km hr,sm]
  ·rw[e];by_cases h48:r.op=48
   ·left
    simp only;rw[zN h48];exact⟨by omega,rfl⟩
   ·right
    simp only;rw[zL h48];exact⟨by omega,rfl⟩
end Dec
end
section
open Go.RowKit Num
structure lS(O:Nat→Prop)(w w':World):Prop where
 os:w'.os=w.os
 tape:w'.tape=w.tape
 output:w'.output=w.output
 size:w.heap.size≤w'.heap.size
 block:∀k,k<w.heap.size→¬O k→w'.heap[k]?=w.heap[k]?
def vK(O O':Nat→Prop)(n:Nat):Prop:=∀k,O' k→O k∨n≤k
section
variable {O O' O2:Nat→Prop} {u w w':World} {n m:Nat}
theorem vK.refl:vK O O n:=fun _ h=> .inl h
theorem vK.trans(h:vK O O' n)(h2:vK O' O2 m)(hm:n≤m):vK O O2 n:=fun k hk=>by
 rcases h2 k hk with h3|h3
 ·exact h k h3
 ·exact .inr (zR hm h3)
theorem vK.away(h:vK O O' n){k:Nat}(hk:k<n)(ho:¬O k):¬O' k:=fun c=>by
 rcases h k c with h1|h1
 ·exact ho h1
 ·omega
theorem vK.above(h:vK O O' n){B:Nat}(hB:B≤n)(ho:∀k,O k→B≤k):∀k,O' k→B≤k:=fun k hk=>by
 rcases h k hk with h1|h1
 ·exact ho k h1
 ·omega
theorem lS.refl:lS O w w:=⟨rfl,rfl,rfl,zG _,fun _ _ _=>rfl⟩
theorem lS.mono(h:lS O w w')(ho:∀k,k<w.heap.size→O k→O' k):lS O' w w':=⟨h.os,h.tape,h.output,h.size,fun k hk hn=>h.block k hk fun c=>hn (ho k hk c)⟩
theorem lS.trans(h:lS O u w)(k:lS O' w w')(hg:vK O O' u.heap.size):lS O u w':=
 ⟨k.os.trans h.os,k.tape.trans h.tape,k.output.trans h.output,zR h.size k.size,fun i hi hn=>(k.block i (zD hi h.size) (hg.away hi hn)).trans (h.block i hi hn)⟩
theorem lS.of_below(h:Below w.heap.size w w'):lS O w w':=⟨h.os,h.tape,h.output,h.size,fun k hk _=>h.block k hk⟩
theorem lS.of_apart{p:Nat}{g:Option Nat}(h:nW p g w w'):lS (fun k=>k=p∨some k=g) w w':=⟨h.os,h.tape,h.output,h.size,fun k hk hn=>h.block k hk (fun e=>hn (.inl e)) (fun e=>hn (.inr e))⟩
theorem lS.below(h:lS O w w'){B:Nat}(hB:B≤w.heap.size)(ho:∀k,O k→B≤k):Below B w w':=
 ⟨h.os,h.tape,h.output,h.size,fun k hk=>h.block k zGX fun c=>by have:=ho k c;omega⟩
theorem lS.cell(h:lS O w w'){a:Addr}(ha:a.block<w.heap.size)(hn:¬O a.block):w'.cell? a=w.cell? a:=qU (h.block _ ha hn)
theorem Rd.kept{A:Option Addr}{L:List Int}(h:Rd w A L)(k:lS O w w')(hn:∀ad,A=some ad→¬O ad.block):Rd w' A L:=h.keep k.size fun ad e hlt=>k.block _ hlt (hn ad e)
theorem cV{base size len:Nat}{e:TypeId}{v:Value}{xs:List Value}(h:w.ownsRow base e size v len xs)(k:lS O w w')(hn:∀b,v.ownBlock=some b→¬O b):w'.ownsRow base e size v len xs:=by
 refine⟨h.1,h.2.imp id ?_⟩;rintro⟨b,cap,cur,rfl,hb,hh,r⟩;exact⟨b,cap,cur,rfl,hb,(k.block b (qM.1 hh).1 (hn b rfl)).trans hh,r⟩
end
theorem zJP(P:Nat→Int)(A:Option Addr)(n c:Nat)(L:List Int)(w:World)(H:Rd w A L)(hn:L.length=n):
  Calls Tryz.prog 146 #[.agg (pc P),.slice A n c] w fun e w'=>e=.returned (.agg (pc (ov P L)))∧Below w.heap.size w w':=by
 have hz:=zeroF;have HL:=zW (zM H hn);clear H hn;go_enter Tryz.func146,Tryz.ntmps146;go_upto_region 1 with fail;have S:=zW ((FB.new w P).alloc (.cells (pc mM) 86));have R:=zW (FB.new (w.alloc (.cells (pc P) 86)) mM);have B:=zW ((lV w (.cells (pc P) 86)).alloc zGN (.cells (pc mM) 86));rw[zT]at R;generalize (w.alloc (.cells (pc P) 86)).alloc (.cells (pc mM) 86)=w1 at*;clear hz;obtain⟨r,hr⟩:∃r,w.heap.size=r:=⟨_,rfl⟩;have HR:=zW hr;rw[hr]at S R B⊢;clear hr;refine zH ?_;iterate 9 go_step
 obtain⟨d,hd⟩:∃d,d=min n 16:=⟨_,rfl⟩;have hp:w1.heap[r]?=some (.cells ((xB P).map (Value.int .u8)).toArray 86 (0,0)):=by rw[←AU];exact S.out
 have RL:Rd w1 A L:=HL.out.1.below (by rw[HR.out];exact B.out);obtain⟨w3,hrun,hg,ha⟩:=xQ 3 r 0 16 16 (some ⟨r,0,none⟩) (fun _=>rfl) A n c d hd L HL.out.2 RL _ 86 hp (by simp[m5]);rw[zY6]at hg;refine JC rfl (.tmp 6) (.tmp 7) rfl _ _ _ zGB zGB hrun 8 rfl ?_;have S3:=zW (show FB r (ov P L) w3 from hg);have R3:=zW (show FB (r+1) mM w3 from((ha none).block (r+1) R.out.lt zGX (fun e=>by cases e)).trans R.out);have B3:=zW (B.out.trans ((ha none).below (by have:=S.out.lt;omega) (zG _) (fun k hk=>by cases hk)));clear hrun hg ha RL hp hd;simp only[zQ,zZ,zJ];go_upto_region 2 with fail;refine zH ?_;refine lL FK S3.out (nF _) rfl (.tmp 2) rfl zGB ?_;simp only[Act.put,zQ,zZ,zJ];refine lM (ds:=pc (ov P L)) FK R3.out (nF _) (nF _) (NY _) rfl (.tmp 4) (.tmp 9) rfl zGK zGK ?_;have R4:=zW (R3.out.store (ov P L));have B4:=zW (zZJ B3.out (jT r) (pc (ov P L)));generalize w3.setRow (r+1) (pc (ov P L))=w4 at*;iterate 4 go_step
 exact zP (zE rfl _ _ (r+1) _ _ _ _ rfl R4.out Tryz.underlying86 rfl (by rw[FK.i,nF])) rfl ⟨rfl,by rw[HR.out];exact B4.out⟩
theorem EL(ad:Addr)(n c:Nat)(L:List Int)(w:World)(H:Rd w (some ad) L)(hn:L.length=n)(n1:n≤1000):
  Calls Tryz.prog 57 #[.slice (some ad) n c] w (dK 5 L w):=by
 have HL:=zW (zM H (zM hn n1));clear H hn n1;have qN:∀(w:World) (a:Option Addr) (n c n' c':Nat),(binOp .eql 22 (.slice a n c) (.slice none n' c')).run Tryz.prog w=.ok (.bool a.isNone) w:=fun w a n c n' c'=>Lib.run_eql_slice_nil w _ _ a n c n' c' Tryz.underlying22;go_enter Tryz.func57,Tryz.ntmps57;have hown0:(w.alloc (.cells #[] 5)).ownsRow w.heap.size 5 1 (.slice (some ⟨w.heap.size,0,none⟩) 0 0) 0 (([]:List Int).map (Value.int .u8)):=World.ownsRow_made w #[] 0 (zG _) zGD rfl;have Q:=zW (zM hown0 (lV w (.cells #[] 5)));exact zBI
theorem zKK(P:Nat→Int)(n:Int)(w:World):Calls Tryz.prog 147 #[.agg (pc P),.int .i64 n] w (dK 5 ((xB P).take (cl n)) w):=by
 obtain⟨k,hk⟩:∃k,cl n=k:=⟨_,rfl⟩;have k16:k≤16:=by rw[←hk];exact cl_le n
 have e:=cl_eq n;rw[hk]at e⊢;have KI:(k:Int)≤16:=zGX;have K16:=zW k16;clear hk k16;go_enter Tryz.func147,Tryz.ntmps147;go_upto_region 1 with fail;have S:=zW (FB.new w P);have B:=zW (lV w (.cells (pc P) 86));generalize w.alloc (.cells (pc P) 86)=w1 at*;obtain⟨r,hr⟩:∃r,w.heap.size=r:=⟨_,rfl⟩;have HR:=zW hr;rw[hr]at S B⊢;clear hr;go_wp2_with fail;refine(EL ⟨r,0,none⟩ k 16 ((xB P).take k) _ (zY0 S.out.rd k) (zZ6 _ _ K16.out) (by have:=K16.out;omega)).mono ?_;rintro e w2 ⟨v,rfl,ho,hb⟩;have Z:=zW (zM ho hb);clear ho hb;go_wp2_with fail;go_ret;exact⟨v,rfl,bR Z.out.1 B.out.size,by rw[HR.out];exact B.out.trans (Z.out.2.mono (by rw[←HR.out];exact B.out.size))⟩
end
section
open Go.RowKit Num Dec Cpu Go.Maps
def opc(x y nn:Nat)(q:Pr):Array Value:=#[.int .i64 (x:Int),.int .i64 (y:Int),.int .i64 (nn:Int),.int .i64 q.lv,.bool q.sh,.bool q.ki,.bool q.jx,.bool q.lr,.bool q.cl,.bool q.dw,.bool q.fa]
def oc(r:Int)(f:Nat)(h:Bool):Array Value:=#[.int .i64 r,.int .u8 (f:Int),.bool h]
theorem sK:vZ Tryz.prog 259 11:=⟨⟨_,Tryz.underlying259,rfl⟩,by kernel_rfl⟩
theorem wE:vZ Tryz.prog 257 3:=⟨⟨_,Tryz.underlying257,rfl⟩,by kernel_rfl⟩
theorem aggPrA:vZ Tryz.prog 24 8:=⟨⟨_,Tryz.underlying24,rfl⟩,by kernel_rfl⟩
theorem zeroOc:nH Tryz.prog 257 (oc 0 0 false):=by unfold nH;kernel_rfl
theorem gY(r:Int)(f:Nat)(h:Bool):n8 (oc r f h):=by unfold n8 oc;simp[Value.oneCell']
def iK(op:Int)(x y nn:Nat)(q:Pr)(e:Ending):Prop:=
 ∃(r:Int) (f:Nat) (h:Bool),e=.returned (.agg (oc r f h))∧r%256=(gE op x y (if q.sh=true then y else x) nn:Nat)∧f≤1∧pF op x y (if q.sh=true then y else x) q.lr=(if h=true then some f else none)∧-65536<r∧r<65536
theorem dR(n:Int)(h0:0≤n)(h1:n<2^8):IntKind.i64.wrap n=n:=by rw[zU];omega
theorem zV5{x y:Nat}(hx:x<256)(hy:y<256):bits .or .i64 (x:Int) (y:Int)=((x|||y:Nat):Int):=(bits_nat .i64 8 zGL dR x y hx hy).2
theorem zZQ{x y:Nat}(hx:x<256)(hy:y<256):bits .and .i64 (x:Int) (y:Int)=((x&&&y:Nat):Int):=(bits_nat .i64 8 zGL dR x y hx hy).1
theorem zQ9{x y:Nat}(hx:x<256)(hy:y<256):bits .xor .i64 (x:Int) (y:Int)=((x^^^y:Nat):Int):=by
 have hx':x%2^IntKind.i64.bits=x:=kR (zD hx zGL);have hy':y%2^IntKind.i64.bits=y:=kR (zD hy zGL);simp only[bits,BitVec.ofInt_natCast,BitVec.toNat_xor,BitVec.toNat_ofNat,hx',hy'];exact dR _ (qG _) (by have:=LH hx hy;omega)
theorem IV{n:Nat}(hn:n<16):bits .and .i64 (n:Int) 15=(n:Int):=by
 have h:=bits_mask .i64 8 zGL dR 4 zGL (n:Int) zGX zGX;have e:((2:Int)^4-1)=15:=zGL;rw[e]at h;rw[h];have e2:((2:Int)^4)=16:=zGL;rw[e2];omega
theorem gU(n:Nat)(hn:n<16)(w:World):Calls Tryz.prog 163 #[.int .i64 (n:Int)] w fun e w'=>e=.returned (.int .i64 (n:Int))∧w=w':=by
 have hb:=IV hn;go_enter Tryz.func163,Tryz.ntmps163;go_wp2_with fail;exact zRX
theorem xS(r:Int)(b:Bool)(w:World):Calls Tryz.prog 207 #[.int .i64 r,.bool b] w fun e w'=>e=.returned (.agg (oc r (b2 b) true))∧Below w.heap.size w w':=by
 cases b
 ·go_enter Tryz.func207,Tryz.ntmps207;go_wp2_with fail;exact zBU
 ·go_enter Tryz.func207,Tryz.ntmps207;go_wp2_with fail;exact zBU
theorem dZ(x y nn:Nat)(q:Pr)(w:World):Calls Tryz.prog 208 #[.agg (opc x y nn q)] w fun e w'=>e=.returned (.int .i64 ((if q.sh=true then y else x:Nat):Int))∧Below w.heap.size w w':=by
 obtain⟨lv,sh,ki,jx,lr,cl,dw,fa⟩:=q;unfold opc;simp only;cases sh
 ·go_enter Tryz.func208,Tryz.ntmps208;exact zB9
 ·go_enter Tryz.func208,Tryz.ntmps208;exact zB9
theorem gC(r:Int)(x y nn:Nat)(q:Pr)(w:World):Calls Tryz.prog 206 #[.agg (opc x y nn q),.int .i64 r] w fun e w'=>e=.returned (.agg (oc r 0 q.lr))∧Below w.heap.size w w':=by
 obtain⟨lv,sh,ki,jx,lr,cl,dw,fa⟩:=q;unfold opc;simp only;go_enter Tryz.func206,Tryz.ntmps206;go_wp2_with fail;exact zBU
theorem XS(x y nn:Nat)(hx:x<256)(hy:y<256)(hn:nn<256)(q:Pr)(w:World):Calls Tryz.prog 181 #[.agg (opc x y nn q)] w fun e w'=>iK 8 x y nn q e∧Below w.heap.size w w':=by
 unfold opc;go_enter Tryz.func181,Tryz.ntmps181;exact zRR
theorem XP(x y nn:Nat)(hx:x<256)(hy:y<256)(hn:nn<256)(q:Pr)(w:World):Calls Tryz.prog 182 #[.agg (opc x y nn q)] w fun e w'=>iK 9 x y nn q e∧Below w.heap.size w w':=by
 unfold opc;go_enter Tryz.func182,Tryz.ntmps182;go_wp2_with fail;go_returns;exact⟨⟨_,0,false,rfl,by unfold gE;simp,by omega,rfl,by omega,by omega⟩,by go_grown⟩
theorem TM(x y nn:Nat)(hx:x<256)(hy:y<256)(hn:nn<256)(q:Pr)(w:World):Calls Tryz.prog 183 #[.agg (opc x y nn q)] w fun e w'=>iK 10 x y nn q e∧Below w.heap.size w w':=by
 unfold opc;go_enter Tryz.func183,Tryz.ntmps183;exact zRR
theorem zZY(x y nn:Nat)(hx:x<256)(hy:y<256)(hn:nn<256)(q:Pr)(w:World):Calls Tryz.prog 184 #[.agg (opc x y nn q)] w fun e w'=>iK 11 x y nn q e∧Below w.heap.size w w':=by
 have hb:=zV5 hx hy;have H1:=zW ((Blk.new w 259 (opc x y nn q)).alloc (.cells (oc 0 0 false) 257));have H2:=zW (show Blk (w.heap.size+1) 257 (oc 0 0 false) ((w.alloc (.cells (opc x y nn q) 259)).alloc (.cells (oc 0 0 false) 257))from by
  have h:=Blk.new (w.alloc (.cells (opc x y nn q) 259)) 257 (oc 0 0 false);rw[zT]at h;exact h)
 have B2:=zW (show Below w.heap.size w ((w.alloc (.cells (opc x y nn q) 259)).alloc (.cells (oc 0 0 false) 257))from by go_grown);have HX:=zW (zM hx (zM hy hn));go_enter Tryz.func184,Tryz.ntmps184;go_upto_region 1 with fail;show(Code.region _ _ _).wp _ _ _ ((w.alloc (.cells (opc x y nn q) 259)).alloc (.cells (oc 0 0 false) 257));generalize (w.alloc (.cells (opc x y nn q) 259)).alloc (.cells (oc 0 0 false) 257)=w1 at*;have c0:w1.cell? ⟨w.heap.size,0,none⟩=some (.int .i64 (x:Int)):=H1.out.cell 0;have c1:w1.cell? ⟨w.heap.size,1,none⟩=some (.int .i64 (y:Int)):=H1.out.cell 1;refine zH ?_;refine lL sK H1.out rfl rfl (.tmp 1) rfl rfl ?_;simp only[Act.put,zQ,zZ,zJ];clear hx hy hn;go_wp2_with fail;refine(gC ((x|||y:Nat):Int) x y nn q _).mono ?_;rintro e w2 ⟨rfl,b1⟩;have H2:=zW (H2.out.step b1);have B2:=zW (B2.out.trans (b1.mono B2.out.size));clear b1;simp only[];go_at_K
 iterate 1 go_step
 refine lM wE H2.out rfl rfl (gY _ _ _) rfl (.tmp 2) (.tmp 9) rfl rfl rfl ?_;simp only[Act.put,zQ,zZ,zJ];have R:=zW (H2.out.store (oc ((x|||y:Nat):Int) 0 q.lr));have B:=zW (lU B2.out (by simp:w.heap.size≤w.heap.size+1) (oc ((x|||y:Nat):Int) 0 q.lr));iterate 4 go_step
 refine zP (zE rfl _ _ (w.heap.size+1) _ _ _ _ rfl R.out Tryz.underlying257 rfl wE.i) rfl ⟨⟨((x|||y:Nat):Int),0,q.lr,rfl,?_,?_,?_,?_,?_⟩,B.out⟩
 ·have:=zXF HX.out.1 HX.out.2.1;unfold gE;simp;omega
 ·omega
 ·unfold pF;simp
 ·omega
 ·have:=zXF HX.out.1 HX.out.2.1;omega
theorem FZ(x y nn:Nat)(hx:x<256)(hy:y<256)(hn:nn<256)(q:Pr)(w:World):Calls Tryz.prog 185 #[.agg (opc x y nn q)] w fun e w'=>iK 12 x y nn q e∧Below w.heap.size w w':=by
 have hb:=zZQ hx hy;have H1:=zW ((Blk.new w 259 (opc x y nn q)).alloc (.cells (oc 0 0 false) 257));have H2:=zW (show Blk (w.heap.size+1) 257 (oc 0 0 false) ((w.alloc (.cells (opc x y nn q) 259)).alloc (.cells (oc 0 0 false) 257))from by
  have h:=Blk.new (w.alloc (.cells (opc x y nn q) 259)) 257 (oc 0 0 false);rw[zT]at h;exact h)
 have B2:=zW (show Below w.heap.size w ((w.alloc (.cells (opc x y nn q) 259)).alloc (.cells (oc 0 0 false) 257))from by go_grown);have HX:=zW (zM hx (zM hy hn));go_enter Tryz.func185,Tryz.ntmps185;go_upto_region 1 with fail;show(Code.region _ _ _).wp _ _ _ ((w.alloc (.cells (opc x y nn q) 259)).alloc (.cells (oc 0 0 false) 257));generalize (w.alloc (.cells (opc x y nn q) 259)).alloc (.cells (oc 0 0 false) 257)=w1 at*;have c0:w1.cell? ⟨w.heap.size,0,none⟩=some (.int .i64 (x:Int)):=H1.out.cell 0;have c1:w1.cell? ⟨w.heap.size,1,none⟩=some (.int .i64 (y:Int)):=H1.out.cell 1;refine zH ?_;refine lL sK H1.out rfl rfl (.tmp 1) rfl rfl ?_;simp only[Act.put,zQ,zZ,zJ];clear hx hy hn;go_wp2_with fail;refine(gC ((x&&&y:Nat):Int) x y nn q _).mono ?_;rintro e w2 ⟨rfl,b1⟩;have H2:=zW (H2.out.step b1);have B2:=zW (B2.out.trans (b1.mono B2.out.size));clear b1;simp only[];go_at_K
 iterate 1 go_step
 refine lM wE H2.out rfl rfl (gY _ _ _) rfl (.tmp 2) (.tmp 9) rfl rfl rfl ?_;simp only[Act.put,zQ,zZ,zJ];have R:=zW (H2.out.store (oc ((x&&&y:Nat):Int) 0 q.lr));have B:=zW (lU B2.out (by simp:w.heap.size≤w.heap.size+1) (oc ((x&&&y:Nat):Int) 0 q.lr));iterate 4 go_step
 refine zP (zE rfl _ _ (w.heap.size+1) _ _ _ _ rfl R.out Tryz.underlying257 rfl wE.i) rfl ⟨⟨((x&&&y:Nat):Int),0,q.lr,rfl,?_,?_,?_,?_,?_⟩,B.out⟩
 ·have:=PT HX.out.1 HX.out.2.1;unfold gE;simp;omega
 ·omega
 ·unfold pF;simp
 ·omega
 ·have:=PT HX.out.1 HX.out.2.1;omega
theorem PA(x y nn:Nat)(hx:x<256)(hy:y<256)(hn:nn<256)(q:Pr)(w:World):Calls Tryz.prog 186 #[.agg (opc x y nn q)] w fun e w'=>iK 13 x y nn q e∧Below w.heap.size w w':=by
 have hb:=zQ9 hx hy;have H1:=zW ((Blk.new w 259 (opc x y nn q)).alloc (.cells (oc 0 0 false) 257));have H2:=zW (show Blk (w.heap.size+1) 257 (oc 0 0 false) ((w.alloc (.cells (opc x y nn q) 259)).alloc (.cells (oc 0 0 false) 257))from by
  have h:=Blk.new (w.alloc (.cells (opc x y nn q) 259)) 257 (oc 0 0 false);rw[zT]at h;exact h)
 have B2:=zW (show Below w.heap.size w ((w.alloc (.cells (opc x y nn q) 259)).alloc (.cells (oc 0 0 false) 257))from by go_grown);have HX:=zW (zM hx (zM hy hn));go_enter Tryz.func186,Tryz.ntmps186;go_upto_region 1 with fail;show(Code.region _ _ _).wp _ _ _ ((w.alloc (.cells (opc x y nn q) 259)).alloc (.cells (oc 0 0 false) 257));generalize (w.alloc (.cells (opc x y nn q) 259)).alloc (.cells (oc 0 0 false) 257)=w1 at*;have c0:w1.cell? ⟨w.heap.size,0,none⟩=some (.int .i64 (x:Int)):=H1.out.cell 0;have c1:w1.cell? ⟨w.heap.size,1,none⟩=some (.int .i64 (y:Int)):=H1.out.cell 1;refine zH ?_;refine lL sK H1.out rfl rfl (.tmp 1) rfl rfl ?_;simp only[Act.put,zQ,zZ,zJ];clear hx hy hn;go_wp2_with fail;refine(gC ((x^^^y:Nat):Int) x y nn q _).mono ?_;rintro e w2 ⟨rfl,b1⟩;have H2:=zW (H2.out.step b1);have B2:=zW (B2.out.trans (b1.mono B2.out.size));clear b1;simp only[];go_at_K
 iterate 1 go_step
 refine lM wE H2.out rfl rfl (gY _ _ _) rfl (.tmp 2) (.tmp 9) rfl rfl rfl ?_;simp only[Act.put,zQ,zZ,zJ];have R:=zW (H2.out.store (oc ((x^^^y:Nat):Int) 0 q.lr));have B:=zW (lU B2.out (by simp:w.heap.size≤w.heap.size+1) (oc ((x^^^y:Nat):Int) 0 q.lr));iterate 4 go_step
 refine zP (zE rfl _ _ (w.heap.size+1) _ _ _ _ rfl R.out Tryz.underlying257 rfl wE.i) rfl ⟨⟨((x^^^y:Nat):Int),0,q.lr,rfl,?_,?_,?_,?_,?_⟩,B.out⟩
 ·have:=LH HX.out.1 HX.out.2.1;unfold gE;simp;omega
 ·omega
 ·unfold pF;simp
 ·omega
 ·have:=LH HX.out.1 HX.out.2.1;omega
theorem FJ(x y nn:Nat)(hx:x<256)(hy:y<256)(hn:nn<256)(q:Pr)(w:World):Calls Tryz.prog 187 #[.agg (opc x y nn q)] w fun e w'=>iK 14 x y nn q e∧Below w.heap.size w w':=by
 have H1:=zW ((Blk.new w 259 (opc x y nn q)).alloc (.cells (oc 0 0 false) 257));have H2:=zW (show Blk (w.heap.size+1) 257 (oc 0 0 false) ((w.alloc (.cells (opc x y nn q) 259)).alloc (.cells (oc 0 0 false) 257))from by
  have h:=Blk.new (w.alloc (.cells (opc x y nn q) 259)) 257 (oc 0 0 false);rw[zT]at h;exact h)
 have B2:=zW (show Below w.heap.size w ((w.alloc (.cells (opc x y nn q) 259)).alloc (.cells (oc 0 0 false) 257))from by go_grown);have HX:=zW (zM hx (zM hy hn));go_enter Tryz.func187,Tryz.ntmps187;go_upto_region 1 with fail;show(Code.region _ _ _).wp _ _ _ ((w.alloc (.cells (opc x y nn q) 259)).alloc (.cells (oc 0 0 false) 257));generalize (w.alloc (.cells (opc x y nn q) 259)).alloc (.cells (oc 0 0 false) 257)=w1 at*;have c0:w1.cell? ⟨w.heap.size,0,none⟩=some (.int .i64 (x:Int)):=H1.out.cell 0;have c1:w1.cell? ⟨w.heap.size,1,none⟩=some (.int .i64 (y:Int)):=H1.out.cell 1;obtain⟨X,eX⟩:∃X:Int,(x:Int)=X:=⟨_,rfl⟩;obtain⟨Y,eY⟩:∃Y:Int,(y:Int)=Y:=⟨_,rfl⟩;rw[eX]at c0;rw[eY]at c1;have X0:0≤X:=zGX;have X1:X≤255:=zGX;have Y0:0≤Y:=zGX;have Y1:Y≤255:=zGX;have EX:=zW (zM eX eY);clear eX eY hx hy hn;go_wp2_with fail;refine(xS (X+Y) (decide (255<X+Y)) _).mono ?_;rintro e w2 ⟨rfl,b1⟩;have H2:=zW (H2.out.step b1);have B2:=zW (B2.out.trans (b1.mono B2.out.size));clear b1;clear c0 c1 H1 X0 X1 Y0 Y1;simp only[];go_at_K
 iterate 1 go_step
 refine lM wE H2.out rfl rfl (gY _ _ _) rfl (.tmp 2) (.tmp 12) rfl rfl rfl ?_;simp only[Act.put,zQ,zZ,zJ];have R:=zW (H2.out.store (oc (X+Y) (b2 (decide (255<X+Y))) true));have B:=zW (lU B2.out (by simp:w.heap.size≤w.heap.size+1) (oc (X+Y) (b2 (decide (255<X+Y))) true));iterate 4 go_step
 refine zP (zE rfl _ _ (w.heap.size+1) _ _ _ _ rfl R.out Tryz.underlying257 rfl wE.i) rfl ⟨⟨(X+Y),(b2 (decide (255<X+Y))),true,rfl,?_,?_,?_,?_,?_⟩,B.out⟩
 all_goals clear R B
 all_goals have HY:=HX.out
 all_goals obtain⟨rfl,rfl⟩:=EX.out
 ·exact zRB
 ·exact aP _
 ·exact zB0
 ·omega
 ·omega
theorem FQ(x y nn:Nat)(hx:x<256)(hy:y<256)(hn:nn<256)(q:Pr)(w:World):Calls Tryz.prog 188 #[.agg (opc x y nn q)] w fun e w'=>iK 15 x y nn q e∧Below w.heap.size w w':=by
 have H1:=zW ((Blk.new w 259 (opc x y nn q)).alloc (.cells (oc 0 0 false) 257));have H2:=zW (show Blk (w.heap.size+1) 257 (oc 0 0 false) ((w.alloc (.cells (opc x y nn q) 259)).alloc (.cells (oc 0 0 false) 257))from by
  have h:=Blk.new (w.alloc (.cells (opc x y nn q) 259)) 257 (oc 0 0 false);rw[zT]at h;exact h)
 have B2:=zW (show Below w.heap.size w ((w.alloc (.cells (opc x y nn q) 259)).alloc (.cells (oc 0 0 false) 257))from by go_grown);have HX:=zW (zM hx (zM hy hn));go_enter Tryz.func188,Tryz.ntmps188;go_upto_region 1 with fail;show(Code.region _ _ _).wp _ _ _ ((w.alloc (.cells (opc x y nn q) 259)).alloc (.cells (oc 0 0 false) 257));generalize (w.alloc (.cells (opc x y nn q) 259)).alloc (.cells (oc 0 0 false) 257)=w1 at*;have c0:w1.cell? ⟨w.heap.size,0,none⟩=some (.int .i64 (x:Int)):=H1.out.cell 0;have c1:w1.cell? ⟨w.heap.size,1,none⟩=some (.int .i64 (y:Int)):=H1.out.cell 1;obtain⟨X,eX⟩:∃X:Int,(x:Int)=X:=⟨_,rfl⟩;obtain⟨Y,eY⟩:∃Y:Int,(y:Int)=Y:=⟨_,rfl⟩;rw[eX]at c0;rw[eY]at c1;have X0:0≤X:=zGX;have X1:X≤255:=zGX;have Y0:0≤Y:=zGX;have Y1:Y≤255:=zGX;have EX:=zW (zM eX eY);clear eX eY hx hy hn;go_wp2_with fail;refine(xS (X-Y) (decide (Y≤X)) _).mono ?_;rintro e w2 ⟨rfl,b1⟩;have H2:=zW (H2.out.step b1);have B2:=zW (B2.out.trans (b1.mono B2.out.size));clear b1;clear c0 c1 H1 X0 X1 Y0 Y1;simp only[];go_at_K
 iterate 1 go_step
 refine lM wE H2.out rfl rfl (gY _ _ _) rfl (.tmp 2) (.tmp 13) rfl rfl rfl ?_;simp only[Act.put,zQ,zZ,zJ];have R:=zW (H2.out.store (oc (X-Y) (b2 (decide (Y≤X))) true));have B:=zW (lU B2.out (by simp:w.heap.size≤w.heap.size+1) (oc (X-Y) (b2 (decide (Y≤X))) true));iterate 4 go_step
 refine zP (zE rfl _ _ (w.heap.size+1) _ _ _ _ rfl R.out Tryz.underlying257 rfl wE.i) rfl ⟨⟨(X-Y),(b2 (decide (Y≤X))),true,rfl,?_,?_,?_,?_,?_⟩,B.out⟩
 all_goals clear R B
 all_goals have HY:=HX.out
 all_goals obtain⟨rfl,rfl⟩:=EX.out
 ·exact zRB
 ·exact aP _
 ·exact zB0
 ·omega
 ·omega
theorem Z8(x y nn:Nat)(hx:x<256)(hy:y<256)(hn:nn<256)(q:Pr)(w:World):Calls Tryz.prog 189 #[.agg (opc x y nn q)] w fun e w'=>iK 17 x y nn q e∧Below w.heap.size w w':=by
 have H1:=zW ((Blk.new w 259 (opc x y nn q)).alloc (.cells (oc 0 0 false) 257));have H2:=zW (show Blk (w.heap.size+1) 257 (oc 0 0 false) ((w.alloc (.cells (opc x y nn q) 259)).alloc (.cells (oc 0 0 false) 257))from by
  have h:=Blk.new (w.alloc (.cells (opc x y nn q) 259)) 257 (oc 0 0 false);rw[zT]at h;exact h)
 have B2:=zW (show Below w.heap.size w ((w.alloc (.cells (opc x y nn q) 259)).alloc (.cells (oc 0 0 false) 257))from by go_grown);have HX:=zW (zM hx (zM hy hn));go_enter Tryz.func189,Tryz.ntmps189;go_upto_region 1 with fail;show(Code.region _ _ _).wp _ _ _ ((w.alloc (.cells (opc x y nn q) 259)).alloc (.cells (oc 0 0 false) 257));generalize (w.alloc (.cells (opc x y nn q) 259)).alloc (.cells (oc 0 0 false) 257)=w1 at*;have c0:w1.cell? ⟨w.heap.size,0,none⟩=some (.int .i64 (x:Int)):=H1.out.cell 0;have c1:w1.cell? ⟨w.heap.size,1,none⟩=some (.int .i64 (y:Int)):=H1.out.cell 1;obtain⟨X,eX⟩:∃X:Int,(x:Int)=X:=⟨_,rfl⟩;obtain⟨Y,eY⟩:∃Y:Int,(y:Int)=Y:=⟨_,rfl⟩;rw[eX]at c0;rw[eY]at c1;have X0:0≤X:=zGX;have X1:X≤255:=zGX;have Y0:0≤Y:=zGX;have Y1:Y≤255:=zGX;have EX:=zW (zM eX eY);clear eX eY hx hy hn;go_wp2_with fail;refine(xS (Y-X) (decide (X≤Y)) _).mono ?_;rintro e w2 ⟨rfl,b1⟩;have H2:=zW (H2.out.step b1);have B2:=zW (B2.out.trans (b1.mono B2.out.size));clear b1;clear c0 c1 H1 X0 X1 Y0 Y1;simp only[];go_at_K
 iterate 1 go_step
 refine lM wE H2.out rfl rfl (gY _ _ _) rfl (.tmp 2) (.tmp 13) rfl rfl rfl ?_;simp only[Act.put,zQ,zZ,zJ];have R:=zW (H2.out.store (oc (Y-X) (b2 (decide (X≤Y))) true));have B:=zW (lU B2.out (by simp:w.heap.size≤w.heap.size+1) (oc (Y-X) (b2 (decide (X≤Y))) true));iterate 4 go_step
 refine zP (zE rfl _ _ (w.heap.size+1) _ _ _ _ rfl R.out Tryz.underlying257 rfl wE.i) rfl ⟨⟨(Y-X),(b2 (decide (X≤Y))),true,rfl,?_,?_,?_,?_,?_⟩,B.out⟩
 all_goals clear R B
 all_goals have HY:=HX.out
 all_goals obtain⟨rfl,rfl⟩:=EX.out
 ·exact zRB
 ·exact aP _
 ·exact zB0
 ·omega
 ·omega
theorem pS(x y nn:Nat)(hx:x<256)(hy:y<256)(hn:nn<256)(q:Pr)(w:World):Calls Tryz.prog 190 #[.agg (opc x y nn q)] w fun e w'=>iK 16 x y nn q e∧Below w.heap.size w w':=by
 have H1:=zW ((Blk.new w 259 (opc x y nn q)).alloc (.cells (oc 0 0 false) 257));have H2:=zW (show Blk (w.heap.size+1) 257 (oc 0 0 false) ((w.alloc (.cells (opc x y nn q) 259)).alloc (.cells (oc 0 0 false) 257))from by
  have h:=Blk.new (w.alloc (.cells (opc x y nn q) 259)) 257 (oc 0 0 false);rw[zT]at h;exact h)
 have B2:=zW (show Below w.heap.size w ((w.alloc (.cells (opc x y nn q) 259)).alloc (.cells (oc 0 0 false) 257))from by go_grown);have HX:=zW (zM hx (zM hy hn));go_enter Tryz.func190,Tryz.ntmps190;go_upto_region 1 with fail;show(Code.region _ _ _).wp _ _ _ ((w.alloc (.cells (opc x y nn q) 259)).alloc (.cells (oc 0 0 false) 257));generalize (w.alloc (.cells (opc x y nn q) 259)).alloc (.cells (oc 0 0 false) 257)=w1 at*;have c0:w1.cell? ⟨w.heap.size,0,none⟩=some (.int .i64 (x:Int)):=H1.out.cell 0;have c1:w1.cell? ⟨w.heap.size,1,none⟩=some (.int .i64 (y:Int)):=H1.out.cell 1;refine zH ?_;refine lL sK H1.out rfl rfl (.tmp 1) rfl rfl ?_;simp only[Act.put,zQ,zZ,zJ];go_wp2_with fail;refine(dZ x y nn q _).mono ?_;rintro e w2 ⟨rfl,b1⟩;have H2:=zW (H2.out.step b1);have B2:=zW (B2.out.trans (b1.mono B2.out.size));clear b1;clear c0 c1 H1;obtain⟨s,hs⟩:∃s,(if q.sh=true then y else x)=s:=⟨_,rfl⟩;have S8:=zW (show s<256 by rw[←hs];split;exact hy;exact hx);have s8:=S8.out;have HS:=zW hs;rw[hs];clear hs hx hy hn;go_wp2_with fail;refine(xS ((s:Int)/2) (decide ((s:Int)%2=1)) _).mono ?_;rintro e w2 ⟨rfl,b1⟩;have H2:=zW (H2.out.step b1);have B2:=zW (B2.out.trans (b1.mono B2.out.size));clear b1;simp only[];go_at_K
 iterate 1 go_step
 refine lM wE H2.out rfl rfl (gY _ _ _) rfl (.tmp 2) (.tmp 11) rfl rfl rfl ?_;simp only[Act.put,zQ,zZ,zJ];have R:=zW (H2.out.store (oc ((s:Int)/2) (b2 (decide ((s:Int)%2=1))) true));have B:=zW (lU B2.out (by simp:w.heap.size≤w.heap.size+1) (oc ((s:Int)/2) (b2 (decide ((s:Int)%2=1))) true));iterate 4 go_step
 refine zP (zE rfl _ _ (w.heap.size+1) _ _ _ _ rfl R.out Tryz.underlying257 rfl wE.i) rfl ⟨⟨((s:Int)/2),(b2 (decide ((s:Int)%2=1))),true,rfl,?_,?_,?_,?_,?_⟩,B.out⟩
 all_goals clear R B
 all_goals try rw[HS.out]
 all_goals have:=S8.out
 ·exact zRB
 ·exact aP _
 ·exact zB0
 ·omega
 ·omega
theorem fU(x y nn:Nat)(hx:x<256)(hy:y<256)(hn:nn<256)(q:Pr)(w:World):Calls Tryz.prog 191 #[.agg (opc x y nn q)] w fun e w'=>iK 18 x y nn q e∧Below w.heap.size w w':=by
 have H1:=zW ((Blk.new w 259 (opc x y nn q)).alloc (.cells (oc 0 0 false) 257));have H2:=zW (show Blk (w.heap.size+1) 257 (oc 0 0 false) ((w.alloc (.cells (opc x y nn q) 259)).alloc (.cells (oc 0 0 false) 257))from by
  have h:=Blk.new (w.alloc (.cells (opc x y nn q) 259)) 257 (oc 0 0 false);rw[zT]at h;exact h)
 have B2:=zW (show Below w.heap.size w ((w.alloc (.cells (opc x y nn q) 259)).alloc (.cells (oc 0 0 false) 257))from by go_grown);have HX:=zW (zM hx (zM hy hn));go_enter Tryz.func191,Tryz.ntmps191;go_upto_region 1 with fail;show(Code.region _ _ _).wp _ _ _ ((w.alloc (.cells (opc x y nn q) 259)).alloc (.cells (oc 0 0 false) 257));generalize (w.alloc (.cells (opc x y nn q) 259)).alloc (.cells (oc 0 0 false) 257)=w1 at*;have c0:w1.cell? ⟨w.heap.size,0,none⟩=some (.int .i64 (x:Int)):=H1.out.cell 0;have c1:w1.cell? ⟨w.heap.size,1,none⟩=some (.int .i64 (y:Int)):=H1.out.cell 1;refine zH ?_;refine lL sK H1.out rfl rfl (.tmp 1) rfl rfl ?_;simp only[Act.put,zQ,zZ,zJ];go_wp2_with fail;refine(dZ x y nn q _).mono ?_;rintro e w2 ⟨rfl,b1⟩;have H2:=zW (H2.out.step b1);have B2:=zW (B2.out.trans (b1.mono B2.out.size));clear b1;clear c0 c1 H1;obtain⟨s,hs⟩:∃s,(if q.sh=true then y else x)=s:=⟨_,rfl⟩;have S8:=zW (show s<256 by rw[←hs];split;exact hy;exact hx);have s8:=S8.out;have HS:=zW hs;rw[hs];clear hs hx hy hn;go_wp2_with fail;refine(xS ((s:Int)*2) (decide (128≤(s:Int))) _).mono ?_;rintro e w2 ⟨rfl,b1⟩;have H2:=zW (H2.out.step b1);have B2:=zW (B2.out.trans (b1.mono B2.out.size));clear b1;simp only[];go_at_K
 iterate 1 go_step
 refine lM wE H2.out rfl rfl (gY _ _ _) rfl (.tmp 2) (.tmp 10) rfl rfl rfl ?_;simp only[Act.put,zQ,zZ,zJ];have R:=zW (H2.out.store (oc ((s:Int)*2) (b2 (decide (128≤(s:Int)))) true));have B:=zW (lU B2.out (by simp:w.heap.size≤w.heap.size+1) (oc ((s:Int)*2) (b2 (decide (128≤(s:Int)))) true));iterate 4 go_step
 refine zP (zE rfl _ _ (w.heap.size+1) _ _ _ _ rfl R.out Tryz.underlying257 rfl wE.i) rfl ⟨⟨((s:Int)*2),(b2 (decide (128≤(s:Int)))),true,rfl,?_,?_,?_,?_,?_⟩,B.out⟩
 all_goals clear R B
 all_goals try rw[HS.out]
 all_goals have:=S8.out
 ·exact zRB
 ·exact aP _
 ·exact zB0
 ·omega
 ·omega
theorem bH(n:Nat)(hn:n<16)(w:World):Calls Tryz.prog 163 #[.int .i64 (n:Int)] w fun e w'=>e=.returned (.int .i64 (n:Int))∧w'=w:=
 (gU n hn w).mono fun _ _ ⟨he,hw⟩=>⟨he,hw.symm⟩
theorem zLX(x y nn:Nat)(q:Pr):n8 (opc x y nn q):=by unfold n8 opc;simp[Value.oneCell']
def aQ:Array Value:=opc 0 0 0 ⟨0,false,false,false,false,false,false,false⟩
theorem PY(w:World)(a b c:Obj):Below w.heap.size w (((w.alloc a).alloc b).alloc c):=by go_grown
theorem aC(v:Nat→Nat)(op:Int)(x y nn:Nat)(n addr len:Int)(q:Pr)(w:World)(hv:OkV v)(hx:x<16)(hy:y<16)(hn:nn<256):
  Calls Tryz.prog 162 #[.agg (rg v),.agg (lB ⟨op,x,y,n,nn,addr,len⟩),.agg (prc q)] w fun e w'=>e=.returned (.agg (opc (v x) (v y) nn q))∧Below w.heap.size w w':=by
 have vx:=hv x hx;have vy:=hv y hy;have RX:=zW (fun w=>bH x hx w);have RY:=zW (fun w=>bH y hy w);have B0:=zW ((PY w (.cells (rg v) 43) (.cells (lB ⟨op,x,y,n,nn,addr,len⟩) 128) (.cells (prc q) 24)).alloc zGH (.cells aQ 259));have V0:=zW ((((Blk.new w 43 (rg v)).alloc (.cells (lB ⟨op,x,y,n,nn,addr,len⟩) 128)).alloc (.cells (prc q) 24)).alloc (.cells aQ 259));have I0:=zW (((Blk.new (w.alloc (.cells (rg v) 43)) 128 (lB ⟨op,x,y,n,nn,addr,len⟩)).alloc (.cells (prc q) 24)).alloc (.cells aQ 259));have P0:=zW ((Blk.new ((w.alloc (.cells (rg v) 43)).alloc (.cells (lB ⟨op,x,y,n,nn,addr,len⟩) 128)) 24 (prc q)).alloc (.cells aQ 259));have O0:=zW (Blk.new (((w.alloc (.cells (rg v) 43)).alloc (.cells (lB ⟨op,x,y,n,nn,addr,len⟩) 128)).alloc (.cells (prc q) 24)) 259 aQ);simp only[zT]at I0 P0 O0;go_enter Tryz.func162,Tryz.ntmps162;go_upto_region 0 with fail;refine zH ?_;refine lE rfl _ (.tmp 0) rfl (rg v) rfl ?_;simp only[Act.put,zQ,zZ,zJ,zT];refine lE rfl _ (.tmp 1) rfl (lB ⟨op,x,y,n,nn,addr,len⟩) rfl ?_;simp only[Act.put,zQ,zZ,zJ,zT];refine lE rfl _ (.tmp 2) rfl (prc q) rfl ?_;simp only[Act.put,zQ,zZ,zJ,zT];go_upto_region 1 with fail;show(Code.region _ _ _).wp _ _ _ ((((w.alloc (.cells (rg v) 43)).alloc (.cells (lB ⟨op,x,y,n,nn,addr,len⟩) 128)).alloc (.cells (prc q) 24)).alloc (.cells aQ 259));obtain⟨g,hg⟩:∃g,w.heap.size=g:=⟨_,rfl⟩;rw[hg]at V0 I0 P0 O0⊢;have GL:=zW hg;generalize (((w.alloc (.cells (rg v) 43)).alloc (.cells (lB ⟨op,x,y,n,nn,addr,len⟩) 128)).alloc (.cells (prc q) 24)).alloc (.cells aQ 259)=w1 at*;clear hg;refine rI 16 zGV zGV ?_;intro wd hwd;have V0:=zW (show Blk g 43 (rg v) wd by rw[hwd];exact V0.out.drew);have I0:=zW (show Blk (g+1) 128 (lB ⟨op,x,y,n,nn,addr,len⟩) wd by rw[hwd];exact I0.out.drew);have P0:=zW (show Blk (g+1+1) 24 (prc q) wd by rw[hwd];exact P0.out.drew);have O0:=zW (show Blk (g+1+1+1) 259 aQ wd by rw[hwd];exact O0.out.drew);have B0:=zW (show Below w.heap.size w wd by rw[hwd];exact B0.out.drew);clear hwd;have cx:wd.cell? ⟨g,x,none⟩=some (.int .u8 (v x:Int)):=by rw[V0.out.cell,e8 v hx]
 have cy:wd.cell? ⟨g,y,none⟩=some (.int .u8 (v y:Int)):=by rw[V0.out.cell,e8 v hy]
 have i1:wd.cell? ⟨g+1,1,none⟩=some (.int .i64 (x:Int)):=(I0.out.cell 1).trans rfl;have i2:wd.cell? ⟨g+1,2,none⟩=some (.int .i64 (y:Int)):=(I0.out.cell 2).trans rfl;have i4:wd.cell? ⟨g+1,4,none⟩=some (.int .i64 (nn:Int)):=(I0.out.cell 4).trans rfl;have p0:wd.cell? ⟨g+1+1,0,none⟩=some (.int .i64 q.lv):=(P0.out.cell 0).trans rfl;have p1:wd.cell? ⟨g+1+1,1,none⟩=some (.bool q.sh):=(P0.out.cell 1).trans rfl;have p2:wd.cell? ⟨g+1+1,2,none⟩=some (.bool q.ki):=(P0.out.cell 2).trans rfl;have p3:wd.cell? ⟨g+1+1,3,none⟩=some (.bool q.jx):=(P0.out.cell 3).trans rfl;have p4:wd.cell? ⟨g+1+1,4,none⟩=some (.bool q.lr):=(P0.out.cell 4).trans rfl;have p5:wd.cell? ⟨g+1+1,5,none⟩=some (.bool q.cl):=(P0.out.cell 5).trans rfl;have p6:wd.cell? ⟨g+1+1,6,none⟩=some (.bool q.dw):=(P0.out.cell 6).trans rfl;have p7:wd.cell? ⟨g+1+1,7,none⟩=some (.bool q.fa):=(P0.out.cell 7).trans rfl;have xi:(x:Int)<16:=zGX;have yi:(y:Int)<16:=zGX;have wx:=WW (show v x<65536 by omega);have wy:=WW (show v y<65536 by omega);simp only[List.take_succ_cons,List.take_zero,List.drop_succ_cons,List.drop_zero];repeat still_step
 still_call (RX.out _)
 repeat still_step
 still_call (RY.out _)
 repeat still_step
 refine wpStill_nil ?_;refine lM sK O0.out rfl rfl (zLX (v x) (v y) nn q) rfl (.tmp 6) (.tmp 22) rfl rfl rfl ?_;simp only[Act.put,zQ,zZ,zJ];have R:=O0.out.store (opc (v x) (v y) nn q);have B:=lU B0.out (by rw[GL.out];omega:w.heap.size≤g+1+1+1) (opc (v x) (v y) nn q);iterate 4 go_step
 exact zP (zE rfl _ _ (g+1+1+1) _ _ _ _ rfl R Tryz.underlying259 rfl sK.i) rfl ⟨rfl,B⟩
def afn(f:Nat):Value:=.func (.func f) #[] #[]
def oU:List (Int×Nat):=[(18,191),(16,190),(17,189),(15,188),(14,187),(13,186),(12,185),(11,184),(10,183),(9,182),(8,181)]
def alk:List (Int×Nat)→Int→Option Nat
 |[],_=>none
 |(k,v)::L,l=>if l=k then some v else alk L l
def zWM(v:Value):Option (DataW Value×List MemPlace):=some (.held v,[])
structure FN(m n:Nat)(L:List (Int×Nat))(w:World)(D:DataW Value):Prop where
 own:w.ownsMap Tryz.prog 3 zWM m n D
 is:IsMap D
 at_:∀l zd,D.atKey (.int .i64 l) zd=match alk L l with|some v=> .held (afn v)|none=>zd
 has_:∀l,has D (.int .i64 l)=(alk L l).isSome
theorem zKB(l:Int):WideAt.IsKeyLit (.int .i64 l):=by first|trivial|simp[WideAt.IsKeyLit]
theorem FN.new(w:World):FN w.heap.size 0 [] (w.alloc (.map #[] 0)) (.map []):=⟨World.ownsMap_made w _ _ _,⟨_,rfl⟩,fun _ _=>rfl,fun _=>rfl⟩
theorem vX{ops:Array Oper}{rest:List Oper}{o:Oper}{a:Act}{Q:Exit→Act→World→Prop}{w:World}{m n:Nat}{L:List (Int×Nat)}{D:DataW Value}(H:FN m n L w D)(hn:n<1000)
  (hg:o.guard=none) (mx xx vx:Operand) (hop:o.op=Op.insert 254 mx xx vx) (hm:a.eval mx=.map (some m)) (k:Int) (f:Nat) (hx:a.eval xx=.int .i64 k) (hv:a.eval vx=afn f) (hk:(Lit.int .i64 k).wf=true)
  {w0:World} (hb:Below w0.heap.size w0 w) (hge:w0.heap.size≤m)
  (h:∀w' D',FN m (n+1) ((k,f)::L) w' D'→Below w0.heap.size w0 w'→wpList Tryz.prog ops Q rest (a.put o.dst undef) w'):wpList Tryz.prog ops Q (o::rest) a w:=by
 refine xY w hg mx xx vx 254 hop 3 252 uG Tryz.underlying254 zWM m n D hm H.own zGD _ _ (.int .i64 k) hx hv (rZ k hk) (.held (afn f)) [] rfl ?_;intro w' o' g';refine h w' _ ⟨o',H.is.put _ _,fun l zd=>?_,fun l=>?_⟩ (hb.grown g' hb.size (fun j hj=>by cases hj;exact hge))
 ·unfold alk;by_cases hl:l=k
  ·subst hl;rw[zN rfl,atKey_put_same H.is (zKB l)]
  ·rw[zL hl,atKey_put_other zGI,H.at_]
 ·unfold alk;by_cases hl:l=k
  ·subst hl;rw[zN rfl,has_put_same H.is (zKB l)];rfl
  ·rw[zL hl,has_put_other zGI,H.has_]
theorem pP(w:World):Calls Tryz.prog 161 #[] w fun e w'=>∃m D,e=.returned (.map (some m))∧FN m 11 oU w' D∧Below w.heap.size w w':=by
 have hmm:= @run_makeMap Tryz.prog;go_enter Tryz.func161,Tryz.ntmps161;go_upto_region 1 with fail;refine zH ?_;iterate 3 go_step
 have M:=zW (FN.new w);have B:=zW (show Below w.heap.size w (w.alloc (.map #[] 0))from(zB _ _).alloc (zG _) _);clear hmm;generalize w.alloc (.map #[] 0)=w1 at*;refine vX M.out zGX rfl (.tmp 1) (.const (.int .i64 8)) (.func 181) rfl rfl 8 181 rfl rfl zGL B.out (zG _) ?_;simp only[Act.put];clear M B;intro w2 D2 m b;have M:=zW m;have B:=zW b;clear m b;refine vX M.out zGX rfl (.tmp 1) (.const (.int .i64 9)) (.func 182) rfl rfl 9 182 rfl rfl zGL B.out (zG _) ?_;simp only[Act.put];clear M B;intro w3 D3 m b;have M:=zW m;have B:=zW b;clear m b;refine vX M.out zGX rfl (.tmp 1) (.const (.int .i64 10)) (.func 183) rfl rfl 10 183 rfl rfl zGL B.out (zG _) ?_;simp only[Act.put];clear M B;intro w4 D4 m b;have M:=zW m;have B:=zW b;clear m b;refine vX M.out zGX rfl (.tmp 1) (.const (.int .i64 11)) (.func 184) rfl rfl 11 184 rfl rfl zGL B.out (zG _) ?_;simp only[Act.put];clear M B;intro w5 D5 m b;have M:=zW m;have B:=zW b;clear m b;refine vX M.out zGX rfl (.tmp 1) (.const (.int .i64 12)) (.func 185) rfl rfl 12 185 rfl rfl zGL B.out (zG _) ?_;simp only[Act.put];clear M B;intro w6 D6 m b;have M:=zW m;have B:=zW b;clear m b;refine vX M.out zGX rfl (.tmp 1) (.const (.int .i64 13)) (.func 186) rfl rfl 13 186 rfl rfl zGL B.out (zG _) ?_;simp only[Act.put];clear M B;intro w7 D7 m b;have M:=zW m;have B:=zW b;clear m b;refine vX M.out zGX rfl (.tmp 1) (.const (.int .i64 14)) (.func 187) rfl rfl 14 187 rfl rfl zGL B.out (zG _) ?_;simp only[Act.put];clear M B;intro w8 D8 m b;have M:=zW m;have B:=zW b;clear m b;refine vX M.out zGX rfl (.tmp 1) (.const (.int .i64 15)) (.func 188) rfl rfl 15 188 rfl rfl zGL B.out (zG _) ?_;simp only[Act.put];clear M B;intro w9 D9 m b;have M:=zW m;have B:=zW b;clear m b;refine vX M.out zGX rfl (.tmp 1) (.const (.int .i64 17)) (.func 189) rfl rfl 17 189 rfl rfl zGL B.out (zG _) ?_;simp only[Act.put];clear M B;intro w10 D10 m b;have M:=zW m;have B:=zW b;clear m b;refine vX M.out zGX rfl (.tmp 1) (.const (.int .i64 16)) (.func 190) rfl rfl 16 190 rfl rfl zGL B.out (zG _) ?_;simp only[Act.put];clear M B;intro w11 D11 m b;have M:=zW m;have B:=zW b;clear m b;refine vX M.out zGX rfl (.tmp 1) (.const (.int .i64 18)) (.func 191) rfl rfl 18 191 rfl rfl zGL B.out (zG _) ?_;simp only[Act.put];clear M B;intro w12 D12 m b;have M:=zW m;have B:=zW b;clear m b;go_wp2_with fail;go_ret;exact⟨_,_,rfl,M.out,B.out⟩
end
end Go.Proofs.YtbpniahcjbagmaaGreatDoor
