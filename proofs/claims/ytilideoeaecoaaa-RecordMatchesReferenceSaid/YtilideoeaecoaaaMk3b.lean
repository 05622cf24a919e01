/- RecRefB, RecOpen, RecRefC, RecRefN. -/
import Derived.Test.YtilideoeaecoaaaMRecRefA
set_option maxRecDepth 400000
set_option maxHeartbeats 64000000
set_option linter.unusedVariables false
set_option linter.unusedSimpArgs false
namespace Go.Proofs.Ytilideoeaecoaaa
section
open Go.RowKit Num
structure Cd where
 sd:Nat→Int
 wi:Bool
 hi:Bool
 so:Bool
 pat:Nat→Int
 pt:Int
 k:Int
 c:Int
 p:Int
 y:Int
def cdF(c:Cd)(j:Nat):Value:=if j<12 then .int .i64 (c.sd j)else if j=12 then .bool c.wi else if j=13 then .bool c.hi else if j=14 then .bool c.so else if j<31 then .int .u8 (c.pat (j-15))else if j=31 then .int .u8 c.pt else if j=32 then .int .i64 c.k else if j=33 then .int .i64 c.c else if j=34 then .int .i64 c.p else .int .i64 c.y
def cdC(c:Cd):Array Value:=mZ 36 (cdF c)
theorem r5(c:Cd){j:Nat}(hj:j<36):(cdC c)[j]?=some (cdF c j):=mQ hj
def v9(x:Int):Prop:= -9223372036854775808≤x∧x≤9223372036854775807
structure sU(c:Cd):Prop where
 sd:∀j,j<12→v9 (c.sd j)
 pat:∀j,j<16→0≤c.pat j∧c.pat j≤255
 pt:0≤c.pt∧c.pt≤255
 k:v9 c.k
 p:v9 c.p
 y:v9 c.y
 c:v9 c.c
def wM(b:Bool):Nat:=if b=true then 128 else 64
def wH(b:Bool):Nat:=if b=true then 64 else 32
theorem oM(b:Bool):Res b (wM b) (wH b):=by cases b<;>(first|exact .inl ⟨rfl,rfl,rfl⟩|exact .inr ⟨rfl,rfl,rfl⟩)
def plF(c:Cd)(i:Nat):Nat→Bool:=dW (c.sd (3*i)) (c.sd (3*i+1)) (c.sd (3*i+2)) (wM c.wi) (wH c.wi)
def kM(c:Cd):jO:=⟨fun i=>fwd (plF c i),c.hi,c.so,c.pat,c.pt,c.k,c.c,c.p,c.y⟩
def rrC(A:Option Addr)(n cA:Nat)(B:Option Addr)(m cB:Nat)(r:jO):Array Value:=#[.slice A n cA,.bool r.hi,.bool r.so,.slice B m cB,.int .u8 r.pt,.int .i64 r.k,.int .i64 r.c,.int .i64 r.p,.int .i64 r.y]
theorem nB:lI Try.prog 32 9:=⟨⟨_,Try.underlying32,rfl⟩,by kernel_rfl⟩
theorem aggCd:lI Try.prog 39 36:=⟨⟨_,Try.underlying39,rfl⟩,by kernel_rfl⟩
theorem xR:mW Try.prog 32 (rrC none 0 0 none 0 0 kK):=by
 unfold mW rrC kK;kernel_rfl
theorem cP(A:Option Addr)(n cA:Nat)(B:Option Addr)(m cB:Nat)(r:jO):vI (rrC A n cA B m cB r):=by unfold vI rrC;simp[Value.oneCell']
theorem aJ(B:Option Addr)(m cB:Nat)(r:jO):Try.prog.built 32 [(1,.bool r.hi),(2,.bool r.so),(3,.slice B m cB),(4,.int .u8 r.pt),(5,.agg (lY r.k r.c r.p r.y))]=some (rrC none 0 0 B m cB r):=by
 unfold rrC lY;kernel_rfl
theorem cd_sta(c:Cd):(cdC c).extract 32 (32+4)=lY c.k c.c c.p c.y:=mO rfl oB fun j hj=>by
 exact ZQ
theorem cd_rd{b:Nat}{T:TypeId}{c:Cd}{w:World}(H:Blk b T (cdC c) w):Rd w (some ⟨b,15,none⟩) (cH c.pat):=fun _=>⟨⟨b,15,none⟩,rfl,H.lt,fun j hj=>by
 rw[nU]at hj;rw[Addr.add_mid,H.cell,r5 _ oB];unfold cdF;rw[zY oB,zY oB,zY oB,zY oB,zL oB,t4 _ _ hj,show 15+j-15=j by omega]⟩
structure gK(N:Nat)(A:Option Addr)(gs:List Nat)(F:Nat→Nat→Bool)(B:Option Addr)(pat:Nat→Int)(w:World):Prop where
 len:gs.length=4
 row:Row (uG N) w A gs
 px:∀i,i<4→Pxs (gs.getD i 0) (F i) w
 pat:Rd w B (cH pat)
theorem gK.step{N:Nat}{A:Option Addr}{gs:List Nat}{F:Nat→Nat→Bool}{B:Option Addr}{pat:Nat→Int}{w w':World}(h:gK N A gs F B pat w)(hb:Below w.heap.size w w'):gK N A gs F B pat w':=
 ⟨h.len,h.row.below hb,fun i hi=>(h.px i hi).step hb,h.pat.below hb⟩
theorem elemPx:Elem Try.prog 26 64 (.slice none 0 0) 24:=⟨Try.underlying26,by kernel_rfl,rfl⟩
theorem fZ(N:Nat):∀g,(uG N g).oneCell'=true:=fun _=>rfl
theorem Pxs.keptR{O:Nat→Prop}{g:Nat}{f:Nat→Bool}{w w':World}(H:Pxs g f w)(k:j5 O w w')(hn:¬O g):Pxs g f w':=
 ⟨zG H.lt k.size,fun j hj=>(k.cell (a:=⟨g,j,none⟩) H.lt hn).trans (H.at_ j hj),fun j hj=>(World.frozen?_of_block (a:=⟨g,j,none⟩) (k.block g H.lt hn)).trans (H.fz j hj)⟩
theorem own_px{N base k c g:Nat}{E:TypeId}{A:Option Addr}{gs:List Nat}{f:Nat→Bool}{w:World}(h:w.ownsRow base E 1 (.slice A k c) k (gs.map (uG N)))(hk:0<k)(H:Pxs g f w):¬some g=(Value.slice A k c).ownBlock:=by
 intro e;have hl:gs.length=k:=by have:=h.1;simpa using this
 obtain⟨b,o,eA,hb,hc⟩:=Row.of_own (enc:=uG N) h (by rintro rfl;simp at hl;omega);rcases h.2 with⟨_,hn⟩|⟨g',cap,cur,ev,_⟩
 ·omega
 ·injection ev with ea _ _
  subst ea;injection eA with eA
  injection eA with e1 e2 _
  subst e1 e2;have e3:g=g':=Option.some.inj e;subst e3;have h0:=hc 0 oB;rw[show 0+0=0 from rfl,H.at_ 0 oR]at h0;injection h0 with h0
  cases h0
theorem pH{N g:Nat}{T:TypeId}(w:World):Row (uG N) (w.alloc (.cells #[uG N g] T)) (some ⟨w.heap.size,0,none⟩) [g]:=fun _=>⟨w.heap.size,0,rfl,by simp,fun j hj=>by
 obtain rfl:j=0:=by simp at hj;omega
 exact(Blk.new w T #[uG N g]).cell 0⟩
theorem fM{P:Program}{c:Code}{Q:Exit→Act→World→Prop}{a:Act}{w:World}(Mid:Act→Act→World→Prop)(h1:c.wp P (fun x a' w'=>x=.normal∧Mid a a' w') a w)(h2:∀a' w',Mid a a' w'→Q .normal a' w'):c.wp P Q a w:=
 Code.wp_mono (fun e a' w' h=>by obtain⟨rfl,h⟩:=h;exact h2 a' w' h) h1
theorem nN{w:World}{base g n:Nat}{T E:TypeId}{cs:Array Value}{v:Value}{xs:List Value}{size:Nat}(h:w.ownsRow base E size v n xs)(k:Blk g T cs w)(e:T≠E):∀b,v.ownBlock=some b→¬b=g:=fun b hb c=>by
 rcases h.2 with⟨rfl,_⟩|⟨g',cap,cur,rfl,_,h2,_⟩
 ·cases hb
 ·injection hb with hb
  have hb:g'=b:=hb;rw[hb,c]at h2;have k':w.heap[g]?=some (.cells cs T (0,0)):=k;rw[k']at h2;injection h2 with h2
  injection h2 with _ h2
  exact e h2
theorem rd_own{w:World}{base n c:Nat}{A:Option Addr}{L:List Int}(h:w.ownsRow base 5 1 (.slice A n c) n (L.map (Value.int .u8))):Rd w A L:=fun hne=>by
 obtain⟨b,o,e,hb,hc⟩:=Row.of_own (enc:=Value.int .u8) h hne;exact⟨⟨b,o,none⟩,e,hb,fun j hj=>by rw[Addr.add_mid];exact hc j hj⟩
theorem i6(c:Cd)(k:Nat)(hk:k<4):(cdC c).extract (k*3) (k*3+3)=#[.int .i64 (c.sd (3*k)),.int .i64 (c.sd (3*k+1)),.int .i64 (c.sd (3*k+2))]:=mO rfl oB fun j hj=>by
 unfold cdF;rw[zL oB];rcases(show j=0∨j=1∨j=2 by omega)with rfl|rfl|rfl
 ·rw[show k*3+0=3*k by omega];rfl
 ·rw[show k*3+1=3*k+1 by omega];rfl
 ·rw[show k*3+2=3*k+2 by omega];rfl
theorem oK:lI Try.prog 35 3:=⟨⟨_,Try.underlying35,rfl⟩,by kernel_rfl⟩
end
section
open Go.RowKit Go.ChangeShapes Go.WideShapes Num
instance:Inhabited Cd:=⟨⟨fun _=>0,false,false,false,fun _=>0,0,0,0,0,0⟩⟩
structure Cds(w:World)(A:Option Addr)(n:Nat)(l:List Cd):Prop where
 len:l.length=n
 max:n≤maxLen
 at_:∀i (h:i<l.length),∃b o,A=some ⟨b,o,none⟩∧b<w.heap.size∧w.rangeAt b (o+i*36) (cdC l[i]).toList
 ok:∀i (h:i<l.length),sU l[i]
theorem Cds.step{w w':World}{A:Option Addr}{n:Nat}{l:List Cd}(h:Cds w A n l)(hb:Below w.heap.size w w'):Cds w' A n l:=
 ⟨h.len,h.max,fun i hi=>by
  obtain⟨b,o,e,lt,r⟩:=h.at_ i hi;exact⟨b,o,e,zG lt hb.size,fun j v hv=>(hb.cell (p:=⟨b,o+i*36+j,none⟩) lt).trans (r j v hv)⟩,h.ok⟩
section
variable {H:Type} {enc:TypeId×Value→H} {W:World} {r:Reach} {base:Nat}
theorem eJ{fuel:Nat}{cs:List Value}{x:DataW H×List MemPlace}(h:DataW.trod enc Try.prog W 0 (fun _=>true) true fuel 35 cs=some x):∃f:Nat→Int,cs=[.int .i64 (f 0),.int .i64 (f 1),.int .i64 (f 2)]∧∀j,v9 (f j):=by
 have hc:Try.prog.cellsOf 35=3:=oT;have hi:Try.prog.cellsOf 3=1:=oT;obtain⟨xs,n,_,hx,hcl,hlen,hg⟩:=DataW.trod_struct Try.underlying35 h;match cs,hcl.trans hc,xs,hlen with
 |[c0,c1,c2],_,[y0,y1,y2],_=>
  have g0:=hg 0 _ rfl
  have g1:=hg 1 _ rfl
  have g2:=hg 2 _ rfl
  simp[hi]at g0 g1 g2
  obtain⟨a0,e0,_,s0⟩:=qG Try.underlying3 g0
  obtain⟨a1,e1,_,s1⟩:=qG Try.underlying3 g1
  obtain⟨a2,e2,_,s2⟩:=qG Try.underlying3 g2
  simp only[List.cons.injEq,and_true]at e0 e1 e2
  subst e0 e1 e2
  refine⟨fun j=>if j=0 then a0 else if j=1 then a1 else a2,rfl,fun j=>?_⟩
  show v9 (if j=0 then a0 else if j=1 then a1 else a2)
  unfold v9
  repeat' split
  ·exact Num.bd_i64 s0
  ·exact Num.bd_i64 s1
  ·exact Num.bd_i64 s2
theorem gR{fuel:Nat}{cs:List Value}{x:DataW H×List MemPlace}(h:DataW.trod enc Try.prog W 0 (fun _=>true) true fuel 36 cs=some x):∃f:Nat→Int,cs=(List.range 12).map (fun j=>Value.int .i64 (f j))∧∀j,v9 (f j):=by
 have hc:Try.prog.cellsOf 36=12:=oT;have hc0:Try.prog.cellsOf 35=3:=oT;obtain⟨xs,n,_,hx,hcl,hlen,hg⟩:=DataW.trod_array Try.underlying36 h;rw[hc]at hcl;have each:∀i,i<4→∃f:Nat→Int,(cs.drop (i*3)).take 3=[.int .i64 (f 0),.int .i64 (f 1),.int .i64 (f 2)]∧∀j,v9 (f j):=by
  intro i hi;have g:=hg i hi;rw[hc0,z8 oB]at g;exact eJ g
 obtain⟨F,hF⟩:=Go.Deep.choose_lt each;refine⟨fun j=>if j<12 then F (j/3) (j%3)else 0,qC fun j=>?_,fun j=>?_⟩
 ·by_cases hj:j<12
  ·have h1:=congrArg (fun l:List Value=>l[j%3]?) (hF (j/3) oB).1;simp only[List.getElem?_take,jR]at h1;rw[zL (qI _ oR),show j/3*3+j%3=j by omega]at h1;rw[h1,qJ,List.getElem?_range hj];simp only[Option.map_some];rw[zL hj];rcases(show j%3=0∨j%3=1∨j%3=2 by omega)with e|e|e<;>rw[e]<;>rfl
  ·rw[z3 oB,z3 oA]
 ·show v9 (if j<12 then F (j/3) (j%3)else 0);split
  ·exact(hF _ oB).2 _
  ·unfold v9;omega
theorem p9{fuel:Nat}{cs:List Value}{x:DataW H×List MemPlace}(h:DataW.trod enc Try.prog W 0 (fun _=>true) true fuel 37 cs=some x):∃f:Nat→Int,cs=(List.range 16).map (fun j=>Value.int .u8 (f j))∧∀j,j<16→0≤f j∧f j≤255:=by
 have hc:Try.prog.cellsOf 37=16:=oT;have hc0:Try.prog.cellsOf 5=1:=oT;obtain⟨xs,n,_,hx,hcl,hlen,hg⟩:=DataW.trod_array Try.underlying37 h;rw[hc]at hcl;have each:∀i,i<16→∃b:Int,cs[i]?=some (.int .u8 b)∧0≤b∧b≤255:=by
  intro i hi;have g:=hg i hi;rw[hc0,Nat.mul_one,z8 oB]at g;obtain⟨a,e,_,s⟩:=qG Try.underlying5 g;have t:=oG s;refine⟨a,?_,t⟩;have e2:=congrArg (fun l:List Value=>l[0]?) e;simpa using e2
 obtain⟨f,hf⟩:=Go.Deep.choose_lt each;refine⟨f,qC fun i=>?_,fun j hj=>(hf j hj).2⟩;by_cases hi:i<16
 ·rw[(hf i hi).1];simp[hi]
 ·rw[z3 oB,z3 oA]
theorem pZ{fuel:Nat}{cs:List Value}{x:DataW H×List MemPlace}(h:DataW.trod enc Try.prog W 0 (fun _=>true) true fuel 30 cs=some x):∃k c p y,cs=(lY k c p y).toList∧v9 k∧v9 c∧v9 p∧v9 y:=by
 have hc:Try.prog.cellsOf 30=4:=oT;have hi:Try.prog.cellsOf 3=1:=oT;have he:Try.prog.cellsOf 28=1:=oT;obtain⟨xs,n,_,hx,hcl,hlen,hg⟩:=DataW.trod_struct Try.underlying30 h;match cs,hcl.trans hc,xs,hlen with
 |[c0,c1,c2,c3],_,[y0,y1,y2,y3],_=>
  have g0:=hg 0 _ rfl
  have g1:=hg 1 _ rfl
  have g2:=hg 2 _ rfl
  have g3:=hg 3 _ rfl
  simp[hi,he]at g0 g1 g2 g3
  obtain⟨a0,e0,_,s0⟩:=qG Try.underlying3 g0
  obtain⟨a1,e1,_,s1⟩:=qG Try.underlying28 g1
  obtain⟨a2,e2,_,s2⟩:=qG Try.underlying3 g2
  obtain⟨a3,e3,_,s3⟩:=qG Try.underlying3 g3
  simp only[List.cons.injEq,and_true]at e0 e1 e2 e3
  subst e0 e1 e2 e3
  exact⟨a0,a1,a2,a3,rfl,Num.bd_i64 s0,Num.bd_i64 s1,Num.bd_i64 s2,Num.bd_i64 s3⟩
theorem yE(cs:List Value)(a n b:Nat)(hb:a+n=b){l:List Value}(h:(cs.drop a).take n=l):cs.drop a=l++cs.drop b:=by
 rw[←h,←hb,←List.drop_drop];exact(List.take_append_drop _ _).symm
theorem i7{fuel:Nat}{cs:List Value}{x:DataW H×List MemPlace}(h:DataW.trod enc Try.prog W 0 (fun _=>true) true fuel 39 cs=some x):∃c:Cd,cs=(cdC c).toList∧sU c:=by
 have hc:Try.prog.cellsOf 39=36:=oT;have hs:Try.prog.cellsOf 36=12:=oT;have ha:Try.prog.cellsOf 37=16:=oT;have hu:Try.prog.cellsOf 5=1:=oT;have hb:Try.prog.cellsOf 4=1:=oT;have ht:Try.prog.cellsOf 30=4:=oT;obtain⟨xs,n,_,hx,hcl,hlen,hg⟩:=DataW.trod_struct Try.underlying39 h;rw[hc]at hcl;match xs,hlen with
 |[y0,y1,y2,y3,y4,y5,y6],_=>
  have g0:DataW.trod enc Try.prog W 0 (fun _=>true) true n 36 ((cs.drop 0).take (Try.prog.cellsOf 36))=some y0:=hg 0 _ rfl
  rw[hs]at g0
  have g1:DataW.trod enc Try.prog W 0 (fun _=>true) true n 4 ((cs.drop 12).take (Try.prog.cellsOf 4))=some y1:=hg 1 _ rfl
  rw[hb]at g1
  have g2:DataW.trod enc Try.prog W 0 (fun _=>true) true n 4 ((cs.drop 13).take (Try.prog.cellsOf 4))=some y2:=hg 2 _ rfl
  rw[hb]at g2
  have g3:DataW.trod enc Try.prog W 0 (fun _=>true) true n 4 ((cs.drop 14).take (Try.prog.cellsOf 4))=some y3:=hg 3 _ rfl
  rw[hb]at g3
  have g4:DataW.trod enc Try.prog W 0 (fun _=>true) true n 37 ((cs.drop 15).take (Try.prog.cellsOf 37))=some y4:=hg 4 _ rfl
  rw[ha]at g4
  have g5:DataW.trod enc Try.prog W 0 (fun _=>true) true n 5 ((cs.drop 31).take (Try.prog.cellsOf 5))=some y5:=hg 5 _ rfl
  rw[hu]at g5
  have g6:DataW.trod enc Try.prog W 0 (fun _=>true) true n 30 ((cs.drop 32).take (Try.prog.cellsOf 30))=some y6:=hg 6 _ rfl
  rw[ht]at g6
  obtain⟨sd,e0,b0⟩:=gR g0
  obtain⟨wi,e1,_⟩:=jT Try.underlying4 g1
  obtain⟨hi,e2,_⟩:=jT Try.underlying4 g2
  obtain⟨so,e3,_⟩:=jT Try.underlying4 g3
  obtain⟨pat,e4,b4⟩:=p9 g4
  obtain⟨pt,e5,_,w5⟩:=qG Try.underlying5 g5
  obtain⟨k,c,p,y,e6,b6,b7,b8,b9⟩:=pZ g6
  refine⟨⟨sd,wi,hi,so,pat,pt,k,c,p,y⟩,?_,⟨fun j _=>b0 j,b4,oG w5,b6,b8,b9,b7⟩⟩
  have E:cs=cs.drop 0:=rfl
  rw[E,yE cs 0 12 12 rfl e0,yE cs 12 1 13 rfl e1,yE cs 13 1 14 rfl e2,yE cs 14 1 15 rfl e3,yE cs 15 16 31 rfl e4,yE cs 31 1 32 rfl e5,yE cs 32 4 36 rfl e6,List.drop_eq_nil_of_le oB]
  rfl
theorem bK{v:Value}{d:DataW H}{p:List MemPlace}(hv:Value.okWide Try.prog W r base 22 v)(h:DataW.Trod enc Try.prog W 0 (fun _=>true) true 22 v d p):∃A n c l,v=.slice A n c∧Cds W A n l:=by
 obtain⟨A,n,c,rfl⟩:=okWide_slice Try.underlying22 hv;obtain⟨fuel,hf⟩:=h;have ce:Try.prog.cellsOf 39=36:=oT;rcases Go.Deep.open_slice Try.underlying22 hf with⟨hcs,_⟩|⟨a,len,cap,m,k,D,Pl,hcs,hb,hl,hm,hmm,_,hi⟩
 ·injection hcs with hcs
  injection hcs with e1 e2 e3
  subst e1;subst e2;subst e3;exact⟨none,0,0,[],rfl,rfl,zD _,fun i hi=>absurd hi (Nat.not_lt_zero i),fun i hi=>absurd hi (Nat.not_lt_zero i)⟩
 ·injection hcs with hcs
  injection hcs with e1 e2 e3
  subst e1;subst e2;subst e3;simp only[if_true]at hmm;have each:∀i,i<n→∃q:Cd,(∀j v,(cdC q).toList[j]?=some v→W.cell? ((a.add (i*36)).add j)=some v)∧sU q:=by
   intro i hin;obtain⟨cs',h1,h2⟩:=hi i oB;rw[ce]at h1;obtain⟨_,hlen,hcell⟩:=World.cells?_some h1;obtain⟨q,e,ok⟩:=i7 h2;refine⟨q,fun j v hv=>?_,ok⟩;have hj:j<36:=by
    have:=(qA.1 hv).1;rw[Array.length_toList]at this;have hs:(cdC q).size=36:=lA;omega
   rw[hcell j hj,e];exact hv
  obtain⟨f,hf⟩:=Go.Deep.choose_lt each
  refine⟨some a,n,c,(List.range n).map f,rfl,by simp,by omega,fun i hin=>?_,fun i hin=>?_⟩
  ·simp only[z6,List.length_range]at hin;simp only[List.getElem_map,List.getElem_range];obtain⟨hc,_⟩:=hf i hin;have h0:=(hf 0 oB).1 0 _ rfl;rw[show(a.add (0*36)).add 0=a from rfl]at h0;have hlt:=World.block_lt_of_cell? W _ h0;have hsp:a.spot=none:=by
    cases hq:a.spot with
    |none=>rfl
    |some z=>
     unfold World.cell? at h0
     rw[hq]at h0
     split at h0<;>simp at h0
   obtain⟨b,o,s⟩:=a;simp only at hsp;subst hsp;refine⟨b,o,rfl,hlt,fun j v hv=>?_⟩;have:=hc j v hv;rwa [Addr.add_mid,Addr.add_mid]at this
  ·simp only[z6,List.length_range]at hin;simp only[List.getElem_map,List.getElem_range];exact(hf i hin).2
end
end
section
open Go.RowKit Num
theorem dL{r:jO}{F:Nat→Nat→Bool}{m h:Nat}(hP:∀i,i<4→r.P i=fwd (F i))(R:Res r.hi m h):rsR r=true↔∀k,k<4→eH (F k) m h:=by
 have e:rsR r=(r.hi||(List.range 4).all fun i=>nL (r.P i)):=rfl;rw[e];rcases R with⟨h1,rfl,rfl⟩|⟨h1,rfl,rfl⟩
 ·rw[h1];exact⟨fun _ k _=>eN _,fun _=>rfl⟩
 ·rw[h1,Bool.false_or,z4];constructor
  ·intro h k hk;exact(tL _).1 (by rw[←hP k hk];exact h k (z9.2 hk))
  ·intro h k hk;rw[hP k (z9.1 hk)];exact(tL _).2 (h k (z9.1 hk))
theorem aU(A:Option Addr)(n cA:Nat)(B:Option Addr)(m cB:Nat)(r:jO):(rrC A n cA B m cB r).extract 5 (5+4)=lY r.k r.c r.p r.y:=rfl
theorem rG(N:Nat)(hN:N=8192)(r:jO)(A:Option Addr)(cA:Nat)(B:Option Addr)(cB:Nat)(gs:List Nat)(F:Nat→Nat→Bool)(pat:Nat→Int)(hP:∀i,i<4→r.P i=fwd (F i))(w:World)(H:gK N A gs F B pat w):
  Calls Try.prog 12 #[.agg (rrC A 4 cA B 16 cB r)] w fun e w'=>e=.returned (.bool (j9 r))∧Below w.heap.size w w':=by
 obtain⟨m,h,RS⟩:∃m h,Res r.hi m h:=⟨_,_,oM r.hi⟩;have RR:=zW RS;obtain⟨v,hv⟩:∃v,j9 r=v:=⟨_,rfl⟩;have E1:=zW (fun k (hk:k<4) i (hi:i<8192) (hf:F k i=true) (hn:¬(i%128<m∧i/128<h))=>show v=false from by
  rw[←hv];unfold j9;cases hq:rsR r
  ·rfl
  ·exact absurd ((dL hP RS).1 hq k hk i hi hf) hn)
 have E2:=zW (fun hA:∀k,k<4→eH (F k) m h=>show v=stB r.k r.c r.p r.y from by
  rw[←hv];unfold j9;rw[(dL hP RS).2 hA,stR_is,Bool.true_and])
 rw[hv];have NN:=zW hN;obtain⟨m0,m1,h0,h1⟩:=RS.bounds;clear hv hP hN RS;go_enter Try.func12,Try.ntmps12;go_upto_region 0 with fail;refine zN ?_;refine kT rfl _ (.tmp 0) rfl _ rfl ?_;simp only[Act.put,zQ,zZ,zJ];have K1:=zW (Blk.new w 32 (rrC A 4 cA B 16 cB r));have ba:=jI w (.cells (rrC A 4 cA B 16 cB r) 32);have HH:=zW (H.step ba);have BB:=zW ba;clear ba H;generalize w.heap.size=g1 at K1⊢;generalize World.alloc w _=w1 at K1 HH BB⊢;have q0:w1.cell? ⟨g1,0,none⟩=some (.slice A 4 cA):=K1.out.cell 0;have q1:w1.cell? ⟨g1,1,none⟩=some (.bool r.hi):=K1.out.cell 1;obtain⟨b,o,rfl,hb,hc⟩:=HH.out.row (by have:=HH.out.len;rintro rfl;simp at this);have HC:=zW (fun k (hk:k<4)=>show w1.cell? ⟨b,o+k,none⟩=some (.slice (some ⟨gs.getD k 0,0,none⟩) N N)from by
  have hl:=HH.out.len;rw[hc k oB,show gs.getD k 0=gs[k]' oB from by simp[show k<gs.length by omega]];rfl)
 clear hb hc;go_wp2_with (first
  |(go_at_call 22;refine(dY RR.out _).mono ?_;rintro e w' ⟨rfl,rfl⟩)
  |(go_at_call 23;refine(tM RR.out _).mono ?_;rintro e w' ⟨rfl,rfl⟩))
 go_loopw [5] (fun i wr=>∃k:Nat,k≤4∧i=.int .i64 (k:Int)∧(∀j,j<k→eH (F j) m h)∧wr=w1) (fun i _=>4-(intOf i).toNat)
 case atStart=>exact⟨0,zD _,rfl,fun j hj=>absurd hj (Nat.not_lt_zero j),rfl⟩
 case round=>
  obtain⟨k,hk,rfl,hf,rfl⟩:=hrel
  have FF:=zW hf
  clear hf
  by_cases hlt:k<4
  ·have JX:=zW hlt
   have ki:(k:Int)<4:=oB
   have ck:=HC.out k hlt
   have PK:=zW (HH.out.px k hlt)
   obtain⟨g,hg⟩:∃g,gs.getD k 0=g:=⟨_,rfl⟩
   obtain⟨f,hf⟩:∃f,F k=f:=⟨_,rfl⟩
   have E1:=zW (fun i (hi:i<8192) (hx:f i=true) (hn:¬(i%128<m∧i/128<h))=>E1.out k hlt i hi (by rw[hf];exact hx) hn)
   have EF:=zW hf
   rw[hg,hf]at PK
   rw[hg]at ck
   clear hg hf
   go_wp2_with fail
   go_loopw [6] (fun i wx=>∃y:Nat,y≤64∧i=.int .i64 (y:Int)∧(∀j,j<128*y→f j=true→j%128<m∧j/128<h)∧wx=wr) (fun i _=>64-(intOf i).toNat)
   case atStart=>exact⟨0,zD _,rfl,fun j hj=>absurd hj (Nat.not_lt_zero j),rfl⟩
   case round=>
    obtain⟨y,hy,rfl,hf,rfl⟩:=hrel
    have FY:=zW hf
    clear hf
    by_cases hyt:y<64
    ·have JY:=zW hyt
     have yi:(y:Int)<64:=oB
     go_wp2_with fail
     go_loopw [7] (fun i wz=>∃x:Nat,x≤128∧i=.int .i64 (x:Int)∧(∀j,j<128*y+x→f j=true→j%128<m∧j/128<h)∧wz=wr) (fun i _=>128-(intOf i).toNat)
     case atStart=>exact⟨0,zD _,rfl,fun j hj=>FY.out j hj,rfl⟩
     case round=>
      obtain⟨x,hx,rfl,hf,rfl⟩:=hrel
      have FX:=zW hf
      clear hf
      by_cases hxt:x<128
      ·have JZ:=zW hxt
       have xi:(x:Int)<128:=oB
       have FN:=zW (fun(q:f (128*y+x)=true→x<m∧y<h)=>show∀j,j<128*y+(x+1)→f j=true→j%128<m∧j/128<h from fun j hj hf=>by
        by_cases e:j=128*y+x
        ·subst e;have:=q hf;omega
        ·exact FX.out j oB hf)
       obtain⟨z,hz⟩:∃z,f (128*y+x)=z:=⟨_,rfl⟩
       have HZ:=zW hz
       clear hz
       rcases(show(m≤x)∨(¬m≤x∧h≤y)∨(¬m≤x∧¬h≤y) by omega)with c1|⟨c1,c2⟩|⟨c1,c2⟩
       ·have d1:(m:Int)≤(x:Int):=oB
        have ia:(128*y+x)%128=x:=oB
        have ib:(128*y+x)/128=y:=oB
        cases z
        ·have FN:=zW (FN.out (fun q=>by rw[HZ.out]at q;cases q))
         have CG:=zW (dM NN.out g f wr PK.out (x:=x) (y:=y) rfl rfl rfl hxt hyt HZ.out)
         clear E1 HZ ia ib c1
         go_wp2_with (go_at_call 24;refine(CG.out).mono ?_;rintro e w' ⟨rfl,rfl⟩)
         go_roundw
         case rel=>exact⟨x+1,JZ.out,by go_num,FN.out,by trivial⟩
         case measure=>have:=JZ.out;simp[intOf];omega
        ·have e:=E1.out (128*y+x) oB HZ.out (by rw[ia,ib];omega)
         have CG:=zW (dM NN.out g f wr PK.out (x:=x) (y:=y) rfl rfl rfl hxt hyt HZ.out)
         subst e
         clear E1 HZ FN ia ib c1
         go_wp2_with (go_at_call 24;refine(CG.out).mono ?_;rintro e w' ⟨rfl,rfl⟩)
         go_returns
         exact⟨rfl,BB.out⟩
       ·have d1:¬(m:Int)≤(x:Int):=oB
        have d2:(h:Int)≤(y:Int):=oB
        have ia:(128*y+x)%128=x:=oB
        have ib:(128*y+x)/128=y:=oB
        cases z
        ·have FN:=zW (FN.out (fun q=>by rw[HZ.out]at q;cases q))
         have CG:=zW (dM NN.out g f wr PK.out (x:=x) (y:=y) rfl rfl rfl hxt hyt HZ.out)
         clear E1 HZ ia ib c1 c2
         go_wp2_with (go_at_call 24;refine(CG.out).mono ?_;rintro e w' ⟨rfl,rfl⟩)
         go_roundw
         case rel=>exact⟨x+1,JZ.out,by go_num,FN.out,by trivial⟩
         case measure=>have:=JZ.out;simp[intOf];omega
        ·have e:=E1.out (128*y+x) oB HZ.out (by rw[ia,ib];omega)
         have CG:=zW (dM NN.out g f wr PK.out (x:=x) (y:=y) rfl rfl rfl hxt hyt HZ.out)
         subst e
         clear E1 HZ FN ia ib c1 c2
         go_wp2_with (go_at_call 24;refine(CG.out).mono ?_;rintro e w' ⟨rfl,rfl⟩)
         go_returns
         exact⟨rfl,BB.out⟩
       ·have d1:¬(m:Int)≤(x:Int):=oB
        have d2:¬(h:Int)≤(y:Int):=oB
        have FN:=zW (FN.out (fun _=>by omega))
        clear E1 HZ c1 c2
        go_wp2_with fail
        go_roundw
        case rel=>exact⟨x+1,JZ.out,by go_num,FN.out,by trivial⟩
        case measure=>have:=JZ.out;simp[intOf];omega
      ·have xi:¬(x:Int)<128:=oB
       have FN:=zW (show∀j,j<128*(y+1)→f j=true→j%128<m∧j/128<h from fun j hj=>FX.out j oB)
       go_wp2_with fail
       go_roundw
       case rel=>exact⟨y+1,JY.out,by go_num,FN.out,by trivial⟩
       case measure=>have:=JY.out;simp[intOf];omega
    ·have yi:¬(y:Int)<64:=oB
     have FN:=zW (show∀j,j<k+1→eH (F j) m h from fun j hj=>by
      by_cases e:j=k
      ·rw[e,EF.out];exact fun i hi=>FY.out i oB
      ·exact FF.out j oB)
     go_wp2_with fail
     go_roundw
     case rel=>exact⟨k+1,JX.out,by go_num,FN.out,by trivial⟩
     case measure=>have:=JX.out;simp[intOf];omega
  ·have ki:¬(k:Int)<4:=oB
   have e:=E2.out fun j hj=>FF.out j oB
   go_upto_region 14 with fail
   refine zN ?_
   iterate 3 go_step
   refine kA (o:=5) vA K1.out (show 5+4≤9 by decide) rfl (.tmp 47) rfl rfl ?_
   rw[aU]
   simp only[Act.put,zQ,zZ,zJ]
   go_wp2_with fail
   refine(tV r.k r.c r.p r.y _).mono ?_
   rintro e w' ⟨rfl,b2⟩
   have BE:=zW (BB.out.trans (b2.mono BB.out.size))
   have EV:=zW e
   clear e b2
   go_wp2_with fail
   go_returns
   exact⟨by rw[EV.out];rfl,BE.out⟩
structure RrFr(base N:Nat)(A:Option Addr)(gs:List Nat)(F:Nat→Nat→Bool)(B:Option Addr)(pat:Nat→Int)(w:World):Prop where
 ok:gK N A gs F B pat w
 g:∀i,i<4→base≤gs.getD i 0
 a:∀ad,A=some ad→base≤ad.block
 b:∀ad,B=some ad→base≤ad.block
theorem eL(N:Nat)(hN:N=8192)(c:Cd)(hc:sU c)(w:World):Calls Try.prog 9 #[.agg (cdC c)] w fun e w'=>∃A cA B cB gs,e=.returned (.agg (rrC A 4 cA B 16 cB (kM c)))∧RrFr w.heap.size N A gs (plF c) B c.pat w'∧Below w.heap.size w w':=by
 have NN:=zW hN;have CO:=zW hc;have PL:=zW (fun i (hi:i<4) w=>eV (c.sd (3*i)) (c.sd (3*i+1)) (c.sd (3*i+2)) c.wi (wM c.wi) (wH c.wi) (oM c.wi) w (hc.sd _ oB) (hc.sd _ oB) (hc.sd _ oB));obtain⟨C,hC⟩:∃C,cdC c=C:=⟨_,rfl⟩;have CE:=zW (show cdC c=C from hC);have cz:C.size=36:=by rw[←hC];exact lA
 rw[hC];clear hC hN hc;go_enter Try.func9,Try.ntmps9;go_upto_region 0 with fail;refine zN ?_;refine kT rfl _ (.tmp 0) rfl C rfl ?_;simp only[Act.put,zQ,zZ,zJ];have K1:=zW (Blk.new w 39 C);have BB:=zW (jI w (.cells C 39));obtain⟨g1,hg1⟩:∃g,w.heap.size=g:=⟨_,rfl⟩;rw[hg1]at K1⊢;clear hg1;generalize World.alloc w _=w1 at K1 BB⊢;refine zI rfl fun K hK=>lW xR rfl (hK _ _ ?_);clear hK K;simp only[Act.put,zQ,zZ,zJ];have R2:=zW (Blk.new w1 32 (rrC none 0 0 none 0 0 kK));have ba:=jI w1 (.cells (rrC none 0 0 none 0 0 kK) 32);have A2:=zW (show w.heap.size≤w1.heap.size from BB.out.size);have K1:=zW (K1.out.step ba);have BB:=zW (BB.out.trans (ba.mono BB.out.size));clear ba;generalize w1.heap.size=g2 at R2 A2⊢;generalize World.alloc w1 _=w2 at K1 R2 BB⊢;have at_:∀j,j<36→w2.cell? ⟨g1,j,none⟩=some (cdF c j):=fun j hj=>(K1.out.cell j).trans (by rw[←CE.out];exact r5 c hj);have q13:=mK.cell (show w2.cell? ⟨g1,13,none⟩=some (.bool c.hi)from at_ 13 oR) K1.out.lt;have q14:=mK.cell (show w2.cell? ⟨g1,14,none⟩=some (.bool c.so)from at_ 14 oR) K1.out.lt;have q31:=mK.cell (show w2.cell? ⟨g1,31,none⟩=some (.int .u8 c.pt)from at_ 31 oR) K1.out.lt;have CQ:=zW (aQ K1.out);have PR:=zW (fun u (bu:Below w2.heap.size w2 u)=>cd_rd (c:=c) (by rw[CE.out];exact K1.out.step bu));clear at_;go_upto_region 1 with fail;refine fM (fun A a' w'=>∃m X c7 g3,a'=((((((((((((((A.put (some 5) (.pointer (some ⟨g1,13,none⟩))).put (some 6) (.bool c.hi)).put (some 7) (.pointer (some ⟨g1,14,none⟩))).put (some 8) (.bool c.so)).put (some 10) (.pointer (some ⟨g1,15,none⟩))).put (some 11) (.slice (some ⟨g1,15,none⟩) 16 16)).put (some 13) (.pointer (some ⟨g1,31,none⟩))).put (some 14) (.int .u8 c.pt)).put (some 15) (.pointer (some ⟨g1,32,none⟩))).put (some 16) (.agg (lY c.k c.c c.p c.y))).put (some 9) (.slice (some ⟨m,0,none⟩) 0 0)).put (some 12) (.slice X 16 c7)).put (some 17) (.agg (rrC none 0 0 X 16 c7 (kM c)))).put (some 3) (.pointer (some ⟨g3,0,none⟩)))∧w2.heap.size≤g3∧Blk g3 32 (rrC none 0 0 X 16 c7 (kM c)) w'∧w'.ownsRow w2.heap.size 5 1 (.slice X 16 c7) 16 ((cH c.pat).map (Value.int .u8))∧Below w2.heap.size w2 w') ?_ ?_
 ·refine yV (C:=fun w'=>∃u:mK w2,w'=u.w) (.branch [0,1,2,3,5,6,8,9,10,11] [4,13] (fun c=>if c=4 then .branch [] [7,13] (fun c=>if c=7 then .branch [12] [13] (fun c=> .branch [] [14] (fun c=> .last []))else .branch [] [7] (fun c=> .branch [12] [14] (fun c=> .last [])))else .branch [] [4] (fun c=> .branch [] [7] (fun c=> .branch [12] [14] (fun c=> .last []))))) oT oT (fun _ _ d _ _ h=>by cases h.1) ⟨⟨w2.drew,(zA _ _).drew⟩,rfl⟩ ?_;intro wn hwd;have CB:=zW (show Below w2.heap.size w2 wn from by rw[hwd];exact(zA _ _).drew);clear hwd;repeat' (first
   |exact fun _ h=>absurd h jE
   |with_reducible refine List.forall_mem_cons.2 ⟨?_,?_⟩
   |with_reducible show uO _ _ _ _ 4 _ _ _
    refine v6 oO oF ?_
    intro K7 hK
    have OW:=zW (show(wn.alloc (.cells #[] 5)).ownsRow w2.heap.size 5 1 (.slice (some ⟨wn.heap.size,0,none⟩) 0 0) 0 (([]:List Int).map (Value.int .u8))from World.ownsRow_made wn #[] 0 CB.out.size oE rfl)
    have bb:=jI wn (.cells #[] 5)
    try have RV:=zW (RV.out.step bb)
    have CB:=zW (CB.out.trans (bb.mono CB.out.size))
    clear bb
    go_wp2_with fail
    generalize wn.heap.size=m at OW⊢
    generalize World.alloc _ _=wn at*
    refine hK _ _ ⟨⟨wn,CB.out⟩,rfl⟩ ?_
    clear hK K7
    try simp only[Act.put,zQ,zZ,zJ]
   |with_reducible show uO _ _ _ _ 7 _ _ _
    refine v6 oO oF ?_
    intro K7 hK
    refine rY (.tmp 9) (.tmp 11) rfl w2.heap.size _ 0 [] oF OW.out (some ⟨g1,15,none⟩) 16 16 (cH c.pat) oF (PR.out _ CB.out) (nU _) oR CB.out.size 12 oF ?_
    intro u6 w6 o6 g6
    have bg:=(show Below w2.heap.size wn w6 from(zA _ _).grown g6 CB.out.size fun j ej=>(OW.out.lt j ej).1)
    try have RV:=zW (show Blk g3 32 (rrC none 0 0 none 0 0 kK) w6 from(g6.block g3 RV.out.lt (fun e=>nN OW.out RV.out oR g3 e.symm rfl)).trans RV.out)
    have CB:=zW (CB.out.trans bg)
    obtain⟨X,c7,rfl⟩:=lD o6
    have OW:=zW (show w6.ownsRow w2.heap.size 5 1 (.slice X 16 c7) 16 ((cH c.pat).map (Value.int .u8))from o6)
    clear o6 g6 bg
    generalize w6=wn at*
    try simp only[qL,zQ,zZ,zJ]
    refine hK _ _ ⟨⟨wn,CB.out⟩,rfl⟩ ?_
    clear hK K7
    try simp only[Act.put,zQ,zZ,zJ]
   |with_reducible show uO _ _ _ _ 13 _ _ _
    refine v6 oO oF ?_
    intro K7 hK
    refine lW xR rfl ?_
    obtain⟨g3,hg⟩:∃g,wn.heap.size=g:=⟨_,rfl⟩
    have RV:=zW (hg▸Blk.new wn 32 (rrC none 0 0 none 0 0 kK))
    have GB:=zW (show w2.heap.size≤g3 from by rw[←hg];exact CB.out.size)
    have bb:=jI wn (.cells (rrC none 0 0 none 0 0 kK) 32)
    try have OW:=zW (j2 OW.out (j5.of_below (O:=fun _=>False) bb) fun b hb c=>c)
    have CB:=zW (CB.out.trans (bb.mono CB.out.size))
    clear bb
    rw[hg]
    clear hg
    generalize World.alloc _ _=wn at*
    refine hK _ _ ⟨⟨wn,CB.out⟩,rfl⟩ ?_
    clear hK K7
    try simp only[Act.put,zQ,zZ,zJ]
   |with_reducible show uO _ _ _ _ 14 _ _ _
    refine v6 oO oF ?_
    intro K7 hK
    refine cD (ds:=rrC none 0 0 X 16 c7 (kM c)) nB RV.out rfl rfl (cP _ _ _ _ _ _ _) (.tmp 3) (.tmp 17) rfl (by simp[Act.eval,Act.put]) (by simp[Act.eval,Act.put]) ?_
    have RW:=zW (RV.out.store (rrC none 0 0 X 16 c7 (kM c)))
    have CB:=zW (mG CB.out GB.out (rrC none 0 0 X 16 c7 (kM c)))
    have OW:=zW (j2 OW.out (m7 (b:=g3) (cs:=rrC none 0 0 X 16 c7 (kM c))) (nN OW.out RV.out oR))
    clear RV
    generalize World.setRow _ _ _=wn at*
    refine hK _ _ ⟨⟨wn,CB.out⟩,rfl⟩ ?_
    clear hK K7
    try simp only[Act.put,zQ,zZ,zJ]
   |with_reducible show mF _ _ _ _ _ _ _
    refine bH (by simp only[kD,zX,zK,zV];rfl) ?_
    refine zF ?_
    exact⟨rfl,_,_,_,_,rfl,GB.out,RW.out,OW.out,CB.out⟩
   |with_reducible show mF _ _ _ _ _ _ _
    refine rU (by simp only[kD,zX,zK,zV];rfl) ?_
    repeat(first
     |(refine mS (o:=32) vA CQ.out ?_ ?_ (.tmp 15) ?_ ?_ ?_;(focus(rw[cz];decide));(focus rfl);(focus rfl);(focus(simp[Act.eval,Act.put];done));rw[←CE.out,cd_sta,CE.out];simp only[Act.put,zQ,zZ,zJ])
     |(refine yL (ty:=32) (parts:=#[(1,.tmp 6),(2,.tmp 8),(3,.tmp 12),(4,.tmp 14),(5,.tmp 16)]) (cs:=rrC none 0 0 X 16 c7 (kM c)) ?_ ?_ ?_ ?_;(focus rfl);(focus rfl);(focus(simp[Act.eval,Act.put];exact aJ X 16 c7 (kM c)));simp only[Act.put,zQ,zZ,zJ])
     |go_big_quiet_step (rfl))
    refine zF ?_)
 rintro _ w3 ⟨m,X,c7,g3,rfl,hg3,r3,ow,bb⟩;have RX:=zW (show Rd w3 X (cH c.pat)from rd_own ow);have XB:=zW (fun ad (e:X=some ad)=>zC (ow.lt ad.block (by rw[e];rfl)).2 (zC (nN ow r3 oR ad.block (by rw[e];rfl)) (show g2<ad.block from zG R2.out.lt (ow.lt ad.block (by rw[e];rfl)).1)));have R3:=zW (show Blk g3 32 (rrC none 0 0 X 16 c7 (kM c)) w3 from r3);have G3:=zW (show g2<g3∧g1<g3∧g3<w3.heap.size from⟨zG R2.out.lt hg3,zG K1.out.lt hg3,R3.out.lt⟩);have K1:=zW (K1.out.step bb);have R2:=zW (R2.out.step bb);have BB:=zW (BB.out.trans (bb.mono BB.out.size));have B3:=zW BB.out.size;have W0:=zW (show w.heap.size≤g3 from zT A2.out (qV G3.out.1));clear ow r3 bb hg3 q13 q14 q31 CQ PR;simp only[Act.put,zQ,zZ,zJ];go_wp2_with fail;go_loopw [4] (fun i wr=>∃k:Nat,k≤4∧i=.int .i64 (k:Int)∧∃(A:Option Addr) (cA:Nat) (gs:List Nat),gs.length=k∧Blk g3 32 (rrC A k cA X 16 c7 (kM c)) wr∧wr.ownsRow w3.heap.size 64 1 (.slice A k cA) k (gs.map (uG N))∧(∀i,i<k→Pxs (gs.getD i 0) (plF c i) wr∧w3.heap.size≤gs.getD i 0)∧Below g3 w3 wr∧Rd wr X (cH c.pat)∧w3.heap.size≤wr.heap.size) (fun i _=>4-(intOf i).toNat)
 case atStart=>exact⟨0,zD _,rfl,none,0,[],rfl,R3.out,jH _ _ _ _,fun i hi=>absurd hi (Nat.not_lt_zero i),zA _ _,RX.out,zP _⟩
 case round=>
  clear R3 RX
  obtain⟨k,hk,rfl,A,cA,gs,hl,hr3,how,hpx,hbw,hrx,hsz⟩:=hrel
  have R3:=zW hr3
  have OW:=zW how
  have PX:=zW (zC hl hpx)
  have BW:=zW hbw
  have RX:=zW hrx
  have SZ:=zW hsz
  have K1:=zW (show Blk g1 39 C wr from(hbw.block g1 G3.out.2.1).trans K1.out)
  clear hl hr3 how hpx hbw hrx hsz
  by_cases hlt:k<4
  ·have JX:=zW hlt
   have ki:(k:Int)<4:=oB
   have kn:k<4:=hlt
   have CK:=zW (fun w' (h:∃u:v3 w3.heap.size wr,w'=u.w)=>show Blk g1 39 C w' from by obtain⟨u,rfl⟩:=h;exact(u.below.block g1 oS).trans K1.out)
   have q0:=fun u=>v3.cell (B:=w3.heap.size) (show wr.cell? ⟨g3,0,none⟩=some (.slice A k cA)from(R3.out.cell 0).trans rfl) G3.out.2.2 u
   have q12:=fun u=>v3.cell (B:=w3.heap.size) (show wr.cell? ⟨g1,12,none⟩=some (.bool c.wi)from(K1.out.cell 12).trans (by rw[←CE.out];exact r5 c oR)) oS u
   have SD:=zW (i6 c k hlt)
   go_upto_region 5 with fail
   refine yS (C:=fun w'=>∃u:v3 w3.heap.size wr,w'=u.w) 12 [([0,1,2,3,4,5,6,7],8,false),([],9,false),([],10,false)] [11] [] oT oT ?_ ?_ ⟨⟨wr.drew,(zA _ _).drew⟩,rfl⟩ ?_
   ·exact fun _ _ d _ _ h=>by cases d<;>exact h
   ·rintro _ w' ⟨u,rfl⟩ hg
    exact⟨⟨w',u.below.trans (hg.mono (zT SZ.out u.below.size))⟩,rfl⟩
   intro wd hwd
   have bd:=show Below wr.heap.size wr wd by rw[hwd];exact(zA _ _).drew
   have BU:=zW (zA w3.heap.size wr)
   have R3:=zW (R3.out.step bd)
   have OW:=zW (j2 OW.out (j5.of_below (O:=fun _=>False) bd) fun b hb c=>c)
   have PX:=zW (show gs.length=k∧∀i,i<k→Pxs (gs.getD i 0) (plF c i) wd∧w3.heap.size≤gs.getD i 0 from⟨PX.out.1,fun i hi=>⟨(PX.out.2 i hi).1.step bd,(PX.out.2 i hi).2⟩⟩)
   have RX:=zW (RX.out.below bd)
   have BW:=zW (BW.out.trans (bd.mono (qV (zG G3.out.2.2 SZ.out))))
   have BU:=zW (BU.out.trans (bd.mono SZ.out))
   have SZ:=zW (zT SZ.out bd.size)
   clear hwd bd
   refine cG ?_
   repeat(first
    |(refine mS (o:=k*3) oK CK.out ?_ ?_ (.tmp 26) ?_ ?_ ?_;(focus(rw[cz];omega));(focus rfl);(focus rfl);(focus(simp[Act.eval];done));rw[←CE.out,SD.out,CE.out];simp only[Act.put,zQ,zZ,zJ])
    |go_big_quiet_step (fail))
   refine zF ?_
   refine xF rfl ?_
   intro w5 b5 _ K hK
   have R3:=zW (R3.out.step b5)
   have OW:=zW (j2 OW.out (j5.of_below (O:=fun _=>False) b5) fun b hb c=>c)
   have PX:=zW (show gs.length=k∧∀i,i<k→Pxs (gs.getD i 0) (plF c i) w5∧w3.heap.size≤gs.getD i 0 from⟨PX.out.1,fun i hi=>⟨(PX.out.2 i hi).1.step b5,(PX.out.2 i hi).2⟩⟩)
   have RX:=zW (RX.out.below b5)
   have BW:=zW (BW.out.trans (b5.mono (qV (zG G3.out.2.2 SZ.out))))
   have BU:=zW (BU.out.trans (b5.mono SZ.out))
   have SZ:=zW (zT SZ.out b5.size)
   clear b5
   have W5:=zW SZ.out
   have OA:=zW (fun b (hb:(Value.slice A k cA).ownBlock=some b)=>(OW.out.lt b hb).2)
   refine gL (g:=18) (caps:=#[]) (args:=#[.agg #[.int .i64 (c.sd (3*k)),.int .i64 (c.sd (3*k+1)),.int .i64 (c.sd (3*k+2))],.bool c.wi]) (.func 18) #[.tmp 27,.tmp 29] _ rfl (enters_of Try.func18 oT rfl) rfl (by simp[Act.eval,Act.put]) ?_
   refine(PL.out k hlt _).mono ?_
   rintro e w6 ⟨_,g,rfl,hg,px,b6⟩
   have NP:=zW px
   have R3:=zW (R3.out.step b6)
   have OW:=zW (j2 OW.out (j5.of_below (O:=fun _=>False) b6) fun b hb c=>c)
   have PX:=zW (show gs.length=k∧∀i,i<k→Pxs (gs.getD i 0) (plF c i) w6∧w3.heap.size≤gs.getD i 0 from⟨PX.out.1,fun i hi=>⟨(PX.out.2 i hi).1.step b6,(PX.out.2 i hi).2⟩⟩)
   have RX:=zW (RX.out.below b6)
   have BW:=zW (BW.out.trans (b6.mono (qV (zG G3.out.2.2 SZ.out))))
   have BU:=zW (BU.out.trans (b6.mono SZ.out))
   have SZ:=zW (zT SZ.out b6.size)
   clear b6 px
   have GW:=zW (show w3.heap.size≤g from zT W5.out hg)
   have GA:=zW (fun b (hb:(Value.slice A k cA).ownBlock=some b)=>zG (OA.out b hb) hg)
   clear hg OA
   refine⟨_,rfl,?_⟩
   refine hK _ _ ⟨⟨w6,BU.out⟩,rfl⟩ ?_
   clear hK K
   simp only[Act.put,zQ,zZ,zJ]
   refine cG ?_
   refine zF ?_
   refine xF rfl ?_
   intro w7 b7 _ K hK
   have R3:=zW (R3.out.step b7)
   have OW:=zW (j2 OW.out (j5.of_below (O:=fun _=>False) b7) fun b hb c=>c)
   have PX:=zW (show gs.length=k∧∀i,i<k→Pxs (gs.getD i 0) (plF c i) w7∧w3.heap.size≤gs.getD i 0 from⟨PX.out.1,fun i hi=>⟨(PX.out.2 i hi).1.step b7,(PX.out.2 i hi).2⟩⟩)
   have RX:=zW (RX.out.below b7)
   have BW:=zW (BW.out.trans (b7.mono (qV (zG G3.out.2.2 SZ.out))))
   have BU:=zW (BU.out.trans (b7.mono SZ.out))
   have SZ:=zW (zT SZ.out b7.size)
   have NP:=zW (NP.out.step b7)
   clear b7
   go_wp2_with fail
   have NW:=zW (show Row (uG 8192) _ _ _ from pH (N:=8192) (g:=g) (T:=64) w7)
   have b8:=jI w7 (.cells #[.slice (some ⟨g,0,none⟩) 8192 8192] 64)
   have R3:=zW (R3.out.step b8)
   have OW:=zW (j2 OW.out (j5.of_below (O:=fun _=>False) b8) fun b hb c=>c)
   have PX:=zW (show gs.length=k∧∀i,i<k→Pxs (gs.getD i 0) (plF c i) _∧w3.heap.size≤gs.getD i 0 from⟨PX.out.1,fun i hi=>⟨(PX.out.2 i hi).1.step b8,(PX.out.2 i hi).2⟩⟩)
   have RX:=zW (RX.out.below b8)
   have BW:=zW (BW.out.trans (b8.mono (qV (zG G3.out.2.2 SZ.out))))
   have BU:=zW (BU.out.trans (b8.mono SZ.out))
   have SZ:=zW (zT SZ.out b8.size)
   have NP:=zW (NP.out.step b8)
   clear b8
   generalize w7.heap.size=q at NW⊢
   rw[show(#[uG 8192 g]:Array Value)=#[.slice (some ⟨g,0,none⟩) 8192 8192]from rfl]at NW
   generalize World.alloc w7 _=w8 at*
   refine hK _ _ ⟨⟨w8,BU.out⟩,rfl⟩ ?_
   clear hK K
   try simp only[Act.put,zQ,zZ,zJ]
   refine cG ?_
   refine zF ?_
   refine xF rfl ?_
   intro w9 b9 _ K hK
   have R3:=zW (R3.out.step b9)
   have OW:=zW (j2 OW.out (j5.of_below (O:=fun _=>False) b9) fun b hb c=>c)
   have PX:=zW (show gs.length=k∧∀i,i<k→Pxs (gs.getD i 0) (plF c i) _∧w3.heap.size≤gs.getD i 0 from⟨PX.out.1,fun i hi=>⟨(PX.out.2 i hi).1.step b9,(PX.out.2 i hi).2⟩⟩)
   have RX:=zW (RX.out.below b9)
   have BW:=zW (BW.out.trans (b9.mono (qV (zG G3.out.2.2 SZ.out))))
   have BU:=zW (BU.out.trans (b9.mono SZ.out))
   have SZ:=zW (zT SZ.out b9.size)
   have NP:=zW (NP.out.step b9)
   have NW:=zW (NW.out.below b9)
   clear b9
   rw[←NN.out]at NW
   refine uE elemPx (fZ N) (.tmp 23) (.tmp 31) rfl w3.heap.size _ k gs oF OW.out (some ⟨q,0,none⟩) 1 1 [g] oF NW.out rfl oB oR SZ.out ?_
   intro v' wa o' gr
   obtain⟨A2,c2,rfl⟩:=lD o'
   have KG:=kF gr
   have PX:=zW (show gs.length=k∧∀i,i<k→Pxs (gs.getD i 0) (plF c i) wa∧w3.heap.size≤gs.getD i 0 from⟨PX.out.1,fun i hi=>⟨(PX.out.2 i hi).1.keptR KG (own_px OW.out oB (PX.out.2 i hi).1),(PX.out.2 i hi).2⟩⟩)
   have NP:=zW (NP.out.keptR KG fun e=>absurd (GA.out g e.symm) (Nat.lt_irrefl _))
   have R3:=zW (show Blk g3 32 (rrC A k cA X 16 c7 (kM c)) wa from(gr.block g3 R3.out.lt (fun e=>nN OW.out R3.out oR g3 e.symm rfl)).trans R3.out)
   have BG:=KG.below (B:=w3.heap.size) SZ.out (fun j ej=>(OW.out.lt j ej.symm).1)
   have RX:=zW (RX.out.kept KG fun ad e c=>by have h1:=(OW.out.lt ad.block c.symm).1;have h2:=(XB.out ad e).1;omega)
   have BW:=zW (BW.out.trans (BG.mono (qV G3.out.2.2)))
   have BU:=zW (BU.out.trans BG)
   have SZ:=zW (zT SZ.out gr.size)
   have OW:=zW (show wa.ownsRow w3.heap.size 64 1 (.slice A2 (k+1) c2) (k+1) ((gs++[g]).map (uG N))from o')
   refine hK _ _ ⟨⟨wa,BU.out⟩,rfl⟩ ?_
   clear hK K KG BG o' gr GA NW BU
   try simp only[Act.put,zQ,zZ,zJ]
   refine bM ?_
   repeat(go_big_quiet_step (fail))
   refine zF ?_
   refine sK rfl ?_
   intro w10 b10 C10 K hK
   clear C10
   have R3:=zW (R3.out.step b10)
   have OW:=zW (j2 OW.out (j5.of_below (O:=fun _=>False) b10) fun b hb c=>c)
   have PX:=zW (show gs.length=k∧∀i,i<k→Pxs (gs.getD i 0) (plF c i) _∧w3.heap.size≤gs.getD i 0 from⟨PX.out.1,fun i hi=>⟨(PX.out.2 i hi).1.step b10,(PX.out.2 i hi).2⟩⟩)
   have RX:=zW (RX.out.below b10)
   have BW:=zW (BW.out.trans (b10.mono (qV (zG G3.out.2.2 SZ.out))))
   have SZ:=zW (zT SZ.out b10.size)
   have NP:=zW (NP.out.step b10)
   clear b10
   have r0:w10.cell? ⟨g3,0,none⟩=some (.slice A k cA):=R3.out.cell 0
   have f0:w10.frozen? ⟨g3,0,none⟩=false:=R3.out.frozen 0
   go_wp2_with fail
   clear r0 f0 q0 q12
   have KC:=kQ (b:=g3) (j:=0) (x:=.slice A2 (k+1) c2) (w:=w10)
   have OW:=zW (j2 OW.out KC (nN OW.out R3.out oR))
   have PX:=zW (show gs.length=k∧∀i,i<k→Pxs (gs.getD i 0) (plF c i) (w10.setCell ⟨g3,0,none⟩ (.slice A2 (k+1) c2))∧w3.heap.size≤gs.getD i 0 from⟨PX.out.1,fun i hi=>⟨(PX.out.2 i hi).1.keptR KC (fun e=>by have h1:=(PX.out.2 i hi).2;have h2:=G3.out.2.2;omega),(PX.out.2 i hi).2⟩⟩)
   have NP:=zW (NP.out.keptR KC fun e=>by have h1:=GW.out;have h2:=G3.out.2.2;omega)
   have RX:=zW (RX.out.kept KC fun ad e=>(XB.out ad e).2.1)
   have BW:=zW (BW.out.trans (KC.below (B:=g3) (qV R3.out.lt) fun k e=>jK e.symm))
   have SZ:=zW (zT SZ.out KC.size)
   have R3:=zW (show Blk g3 32 (rrC A2 (k+1) c2 X 16 c7 (kM c)) (w10.setCell ⟨g3,0,none⟩ (.slice A2 (k+1) c2))from R3.out.put 0 (.slice A2 (k+1) c2))
   clear KC
   generalize World.setCell w10 _ _=w11 at*
   simp only[kD]
   refine zF ?_
   intro w12 b12
   have R3:=zW (R3.out.step b12)
   have OW:=zW (j2 OW.out (j5.of_below (O:=fun _=>False) b12) fun b hb c=>c)
   have PX:=zW (show gs.length=k∧∀i,i<k→Pxs (gs.getD i 0) (plF c i) _∧w3.heap.size≤gs.getD i 0 from⟨PX.out.1,fun i hi=>⟨(PX.out.2 i hi).1.step b12,(PX.out.2 i hi).2⟩⟩)
   have RX:=zW (RX.out.below b12)
   have BW:=zW (BW.out.trans (b12.mono (qV (zG G3.out.2.2 SZ.out))))
   have SZ:=zW (zT SZ.out b12.size)
   have NP:=zW (NP.out.step b12)
   clear b12
   go_wp2_with fail
   go_roundw
   case rel=>
    refine⟨k+1,hlt,by go_num,A2,c2,gs++[g],by rw[zM,PX.out.1];rfl,R3.out,OW.out,?_,BW.out,RX.out,SZ.out⟩
    intro i hi
    by_cases e:i=k
    ·subst e
     rw[show(gs++[g]).getD i 0=g from by rw[jY,qZ (by rw[PX.out.1];exact zP _),PX.out.1,Nat.sub_self];rfl]
     exact⟨NP.out,GW.out⟩
    ·rw[show(gs++[g]).getD i 0=gs.getD i 0 from by rw[jY,qX (by rw[PX.out.1];omega),jY]]
     exact PX.out.2 i oB
   case measure=>simp[intOf];omega
  ·have ki:¬(k:Int)<4:=oB
   obtain rfl:k=4:=by omega
   have R2:=zW (show Blk g2 32 _ wr from(BW.out.block g2 G3.out.1).trans R2.out)
   go_upto_region 6 with fail
   refine zN ?_
   refine j3 nB R3.out rfl rfl (.tmp 3) rfl rfl ?_
   simp only[Act.put,zQ,zZ,zJ]
   refine kX (ds:=rrC A 4 cA X 16 c7 (kM c)) nB R2.out rfl rfl (cP _ _ _ _ _ _ _) rfl (.tmp 2) (.tmp 34) rfl rfl rfl ?_
   have RE:=R2.out.store (rrC A 4 cA X 16 c7 (kM c))
   have KR:=m7 (b:=g2) (cs:=rrC A 4 cA X 16 c7 (kM c)) (w:=wr)
   have OW:=j2 OW.out KR (nN OW.out R2.out oR)
   have BE:=mG (BB.out.trans (BW.out.mono W0.out)) A2.out (rrC A 4 cA X 16 c7 (kM c))
   have OK:gK N A gs (plF c) X c.pat (wr.setRow g2 (rrC A 4 cA X 16 c7 (kM c))):=⟨PX.out.1,Row.of_own OW,fun i hi=>(PX.out.2 i hi).1.keptR KR (fun e=>by have h1:=(PX.out.2 i hi).2;have h2:=G3.out;omega),RX.out.kept KR fun ad e c=>by have h1:=(XB.out ad e).2.2;omega⟩
   have FR:RrFr w.heap.size N A gs (plF c) X c.pat (wr.setRow g2 (rrC A 4 cA X 16 c7 (kM c))):=⟨OK,fun i hi=>zT B3.out (PX.out.2 i hi).2,fun ad e=>zT B3.out (OW.lt ad.block (by rw[e];rfl)).1,fun ad e=>zT A2.out (qV (XB.out ad e).2.2)⟩
   clear OK
   generalize World.setRow wr _ _=we at*
   go_wp2_with fail
   exact qU (qF rfl _ _ g2 _ _ _ _ rfl RE Try.underlying32 rfl nB.i) rfl ⟨A,cA,X,⟨c7,rfl⟩,⟨gs,FR⟩,BE⟩
end
end Go.Proofs.Ytilideoeaecoaaa
