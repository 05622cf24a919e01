/- RecRefA. -/
import Derived.Test.YtilideoeaecoaaaMk2a
set_option maxRecDepth 400000
set_option maxHeartbeats 64000000
set_option linter.unusedVariables false
set_option linter.unusedSimpArgs false
namespace Go.Proofs.Ytilideoeaecoaaa
section
open Go.RowKit Num
def gW(L:List Nat)(w:World)(e:Ending)(w':World):Prop:=∃A c,e=.returned (.slice A L.length c)∧w'.ownsRow w.heap.size 5 1 (.slice A L.length c) L.length (byV L)∧Below w.heap.size w w'
theorem wG(b:Bool)(n:Int)(w:World):Calls Try.prog 29 #[.bool b,.int .i64 n] w fun e w'=>e=.returned (.int .i64 (if b=true then n else 0))∧w=w':=by
 cases b
 all_goals
  go_enter Try.func29,Try.ntmps29
  go_wp2
  go_returns
  exact⟨rfl,rfl⟩
theorem bQ(N:Nat)(hN:N=8192)(g:Nat)(f:Nat→Bool)(w:World)(H:Pxs g f w):Calls Try.prog 30 #[.slice (some ⟨g,0,none⟩) N N] w fun e w'=>e=.returned (.bool (kJ (fwd f)))∧w=w':=by
 obtain⟨r,hr⟩:∃r,kJ (fwd f)=r:=⟨_,rfl⟩;have RR:=zW hr;have NN:=zW hN;have HH:=zW H;rw[hr];clear hr hN H;go_enter Try.func30,Try.ntmps30;go_wp2_with fail;go_loopw [3] (fun i wr=>∃k:Nat,k≤N∧i=.int .i64 (k:Int)∧(∀j,j<k→f j=false)∧wr=w) (fun i _=>N-(intOf i).toNat)
 case atStart=>exact⟨0,zD _,rfl,fun j hj=>absurd hj (Nat.not_lt_zero j),rfl⟩
 case round=>
  obtain⟨k,hk,rfl,hf,rfl⟩:=hrel
  have FF:=zW hf
  clear hf
  by_cases hlt:k<N
  ·have k8:k<8192:=by have:=NN.out;omega
   have c:=HH.out.at_ k k8
   have JX:=zW hlt
   have ki:(k:Int)<(N:Int):=oB
   have k9:(k:Int)≤8192:=oB
   have E:=zW (fun h:f k=true=>show r=false from by
    rw[←RR.out];cases hq:kJ (fwd f)
    ·rfl
    ·rw[(tC f).1 hq k k8]at h;cases h)
   have F:=zW (fun h:f k=false=>show∀j,j<k+1→f j=false from fun j hj=>by
    by_cases e:j=k
    ·rw[e];exact h
    ·exact FF.out j oB)
   cases hb:f k
   ·have F:=zW (F.out hb)
    rw[hb]at c
    clear hb E
    go_wp2
    go_roundw
    case rel=>exact⟨k+1,JX.out,by go_num,F.out,by trivial⟩
    case measure=>have:=JX.out;simp[intOf];omega
   ·have e:=E.out hb
    rw[hb]at c
    subst e
    clear hb E F
    go_wp2
    go_returns
    exact⟨rfl,rfl⟩
  ·have ki:¬(k:Int)<(N:Int):=oB
   have e:r=true:=by
    rw[←RR.out];exact(tC f).2 fun i hi=>FF.out i (by have:=NN.out;omega)
   subst e
   go_wp2
   go_returns
   exact⟨rfl,rfl⟩
def stB(k c p y:Int):Bool:=decide (0≤k∧k≤3∧0≤p∧p≤65535∧0≤y∧y≤4611686018427387904)&&(decide (2≤k)||decide (p=0∧y=0))&&(if k=3 then decide (1≤c∧c≤4)else decide (c=0))
theorem stR_is(r:jO):stR r=stB r.k r.c r.p r.y:=rfl
theorem tV(k c p y:Int)(w:World):Calls Try.prog 25 #[.agg (lY k c p y)] w fun e w'=>e=.returned (.bool (stB k c p y))∧Below w.heap.size w w':=by
 obtain⟨r,hr⟩:∃r,stB k c p y=r:=⟨_,rfl⟩;have RR:=zW hr;rw[hr];clear hr;go_enter Try.func25,Try.ntmps25;go_upto_region 0 with fail;refine zN ?_;refine kT rfl _ (.tmp 0) rfl (lY k c p y) rfl ?_;simp only[Act.put,zQ,zZ,zJ];have K1:=zW (Blk.new w 30 (lY k c p y));have BB:=zW (jI w (.cells (lY k c p y) 30));generalize w.heap.size=g1 at K1⊢;generalize World.alloc w _=w1 at K1 BB⊢;have c0:w1.cell? ⟨g1,0,none⟩=some (.int .i64 k):=(K1.out.cell 0).trans rfl;have c1:w1.cell? ⟨g1,1,none⟩=some (.int .i64 c):=(K1.out.cell 1).trans rfl;have c2:w1.cell? ⟨g1,2,none⟩=some (.int .i64 p):=(K1.out.cell 2).trans rfl;have c3:w1.cell? ⟨g1,3,none⟩=some (.int .i64 y):=(K1.out.cell 3).trans rfl;have hcase:(k<0∧r=false)∨(¬k<0∧(3:Int)<k∧r=false)∨(¬k<0∧¬(3:Int)<k∧p<0∧r=false)∨(¬k<0∧¬(3:Int)<k∧¬p<0∧(65535:Int)<p∧r=false)∨(¬k<0∧¬(3:Int)<k∧¬p<0∧¬(65535:Int)<p∧y<0∧r=false)∨(¬k<0∧¬(3:Int)<k∧¬p<0∧¬(65535:Int)<p∧¬y<0∧(4611686018427387904:Int)<y∧r=false)
   ∨((¬k<0∧¬(3:Int)<k∧¬p<0∧¬(65535:Int)<p∧¬y<0∧¬(4611686018427387904:Int)<y)∧((k≤1∧¬p=0∧r=false)∨(k≤1∧p=0∧¬y=0∧r=false)∨(k≤1∧p=0∧y=0∧¬k=3∧r=decide (c=0))∨(¬k≤1∧¬k=3∧r=decide (c=0))∨(¬k≤1∧k=3∧c<1∧r=false)∨(¬k≤1∧k=3∧¬c<1∧r=decide (c≤4)))):=by
  have e:=RR.out;unfold stB at e;have f0:∀(P Q:Bool),(decide (0≤k∧k≤3∧0≤p∧p≤65535∧0≤y∧y≤4611686018427387904)&&P&&Q)=r→¬(0≤k∧k≤3∧0≤p∧p≤65535∧0≤y∧y≤4611686018427387904)→r=false:=fun P Q h hn=>by rw[←h,z0 hn];rfl
  by_cases hr:0≤k∧k≤3∧0≤p∧p≤65535∧0≤y∧y≤4611686018427387904
  ·rw[zU hr,Bool.true_and]at e;refine .inr (.inr (.inr (.inr (.inr (.inr ⟨by omega,?_⟩)))));by_cases h1:k≤1
   ·rw[z0 (show¬2≤k by omega),Bool.false_or,zY (show¬k=3 by omega)]at e;by_cases h2:p=0
    ·by_cases h3:y=0
     ·rw[zU ⟨h2,h3⟩,Bool.true_and]at e;exact .inr (.inr (.inl ⟨h1,h2,h3,by omega,e.symm⟩))
     ·rw[z0 (fun h=>h3 h.2),Bool.false_and]at e;exact .inr (.inl ⟨h1,h2,h3,e.symm⟩)
    ·rw[z0 (fun h=>h2 h.1),Bool.false_and]at e;exact .inl ⟨h1,h2,e.symm⟩
   ·rw[zU (show 2≤k by omega),Bool.true_or,Bool.true_and]at e;by_cases h3:k=3
    ·rw[zL h3]at e;by_cases h4:c<1
     ·rw[z0 (fun h=>by omega)]at e;exact .inr (.inr (.inr (.inr (.inl ⟨h1,h3,h4,e.symm⟩))))
     ·refine .inr (.inr (.inr (.inr (.inr ⟨h1,h3,h4,?_⟩))));rw[←e];congr 1
      simp
      omega
    ·rw[zY h3]at e;exact .inr (.inr (.inr (.inl ⟨h1,h3,e.symm⟩)))
  ·have hf:=f0 _ _ e hr;by_cases a1:k<0
   ·exact .inl ⟨a1,hf⟩
   by_cases a2:(3:Int)<k
   ·exact .inr (.inl ⟨a1,a2,hf⟩)
   by_cases a3:p<0
   ·exact .inr (.inr (.inl ⟨a1,a2,a3,hf⟩))
   by_cases a4:(65535:Int)<p
   ·exact .inr (.inr (.inr (.inl ⟨a1,a2,a3,a4,hf⟩)))
   by_cases a5:y<0
   ·exact .inr (.inr (.inr (.inr (.inl ⟨a1,a2,a3,a4,a5,hf⟩))))
   exact .inr (.inr (.inr (.inr (.inr (.inl ⟨a1,a2,a3,a4,a5,by omega,hf⟩)))))
 clear RR
 rcases hcase with⟨h1,rfl⟩|⟨h1,h2,rfl⟩|⟨h1,h2,h3,rfl⟩|⟨h1,h2,h3,h4,rfl⟩|⟨h1,h2,h3,h4,h5,rfl⟩|⟨h1,h2,h3,h4,h5,h6,rfl⟩|⟨⟨h1,h2,h3,h4,h5,h6⟩,hc⟩
 all_goals try
  go_wp2
  go_returns
  exact⟨rfl,BB.out⟩
 rcases hc with⟨h7,h8,rfl⟩|⟨h7,rfl,h8,rfl⟩|⟨h7,rfl,rfl,h8,rfl⟩|⟨h7,h8,rfl⟩|⟨h7,rfl,h8,rfl⟩|⟨h7,rfl,h8,rfl⟩
 all_goals
  try have e8:¬(3:Int)=3↔False:=by simp
  go_wp2
  go_returns
  refine⟨?_,BB.out⟩
  first|rfl|(congr 2;simp;done)|(congr 2;simp;omega)
def nbK(n s k:Nat):List Int:=(List.range s).map fun j=>if s≤j+k then((n/256^(s-1-j)%256:Nat):Int)else 0
theorem bW:∀(s n j:Nat),j<s→(nb s n)[j]?=some (n/256^(s-1-j)%256)
 |s+1,n,j,h=>by
  show(nb s (n/256)++[n%256])[j]?=_;by_cases e:j=s
  ·subst e;rw[qZ (by rw[kL];exact zP _),kL,Nat.sub_self,show j+1-1-j=0 by omega,Nat.pow_zero,Nat.div_one];rfl
  ·rw[qX (by rw[kL];omega),bW s (n/256) j oB,show s+1-1-j=(s-1-j)+1 by omega,Nat.pow_succ,Nat.mul_comm,Nat.div_div_eq_div_mul]
theorem fW(n s:Nat):nbK n s 0=List.replicate s 0:=by
 refine qC fun j=>?_;unfold nbK;rw[qJ,List.getElem?_replicate];by_cases h:j<s
 ·rw[List.getElem?_range h,zL h];simp;omega
 ·rw[zY h,z3 oA];rfl
theorem xJ(n s k:Nat):(nbK n s k).length=s:=by unfold nbK;simp
theorem iD(n s k:Nat)(h:k<s):(nbK n s k).set (s-1-k) ((n/256^k%256:Nat):Int)=nbK n s (k+1):=by
 refine qC fun j=>?_;rw[List.getElem?_set];by_cases hj:j<s
 ·unfold nbK;rw[qJ,qJ,List.getElem?_range hj];by_cases e:s-1-k=j
  ·rw[zL e,zL oA];simp only[Option.map_some];rw[zL oB,show s-1-j=k by omega]
  ·rw[zY e];simp only[Option.map_some];by_cases h2:s≤j+k
   ·rw[zL h2,zL oB]
   ·rw[zY h2,zY oB]
 ·rw[zY oB,z3 (by rw[xJ];omega),z3 (by rw[xJ];omega)]
theorem iF(n s:Nat):(nbK n s s).map (Value.int .u8)=byV (nb s n):=by
 refine qC fun j=>?_;unfold nbK byV;rw[List.map_map,qJ,qJ];by_cases hj:j<s
 ·rw[List.getElem?_range hj,bW s n j hj];simp only[Option.map_some,Function.comp];rw[zL oB]
 ·rw[z3 oA,z3 (by rw[kL];omega)];rfl
theorem iG{w:World}{g:Nat}{L:List Int}(base:Nat)(hb:base≤g)(h:Blk g 5 (arr L) w)(hl:L.length≤maxLen):w.ownsRow base 5 1 (.slice (some ⟨g,0,none⟩) L.length L.length) L.length (L.map (Value.int .u8)):=by
 refine⟨by simp,.inr ⟨g,L.length,arr L,rfl,hb,h,zP _,hl,by rw[aL];omega,?_⟩⟩;unfold arr;rw[qE oP]
theorem oZ(L:List Int)(q:Nat)(d:Int):(arr L).setIfInBounds q (.int .u8 d)=arr (L.set q d):=by
 unfold arr;rw[zQ,List.map_set]
theorem bN{n s g:Nat}{w w':World}(hg:w.heap.size≤g)(hs:s≤8)(h:Blk g 5 (arr (nbK n s s)) w')(hb:Below w.heap.size w w'):gW (nb s n) w (.returned (.slice (some ⟨g,0,none⟩) s s)) w':=by
 have ho:=iG w.heap.size hg h (by rw[xJ];unfold maxLen;omega);rw[xJ,iF]at ho;unfold gW;rw[kL];exact⟨_,_,rfl,ho,hb⟩
theorem vB(n s:Nat)(hn:n≤9223372036854775807)(hs:s≤8)(w:World):Calls Try.prog 28 #[.int .i64 (n:Int),.int .i64 (s:Int)] w (gW (nb s n) w):=by
 have mk:=bY s s rfl oB w;go_enter Try.func28,Try.ntmps28;have ws:IntKind.i64.wrap ((s:Int)-1)=(s:Int)-1:=by rw[zS];omega
 have B0:=zW (show Blk w.heap.size 5 (arr (nbK n s 0)) (w.alloc (.cells (arr (List.replicate s 0)) 5))from by rw[fW];exact Blk.new w _ _);have bb:=zW (jI w (.cells (arr (List.replicate s 0)) 5));go_wp2_with fail;obtain⟨g,hg⟩:∃g,w.heap.size=g:=⟨_,rfl⟩;have GE:=zW (jK hg);rw[hg]at B0⊢;clear hg mk;generalize World.alloc w _=w1 at B0 bb⊢;go_loopw [0,6] (fun v i wr=>∃k:Nat,k≤s∧v=.int .i64 ((n/256^k:Nat):Int)∧i=.int .i64 ((s:Int)-1-(k:Int))∧Blk g 5 (arr (nbK n s k)) wr∧Below w.heap.size w wr) (fun _ i _=>(intOf i+1).toNat)
 case atStart=>exact⟨0,zD _,by simp,by simp,B0.out,bb.out⟩
 case round=>
  clear B0 bb
  obtain⟨k,hk,rfl,rfl,hB,hb⟩:=hrel
  have BG:=zW hB
  have BB:=zW hb
  clear hB hb
  by_cases hlt:k<s
  ·obtain⟨m,hm⟩:∃m,n/256^k=m:=⟨_,rfl⟩
   have m1:m≤9223372036854775807:=by rw[←hm];exact zT (Nat.div_le_self _ _) hn
   have NS:=zW (iD n s k hlt)
   have M2:=zW (show n/256^(k+1)=m/256 by rw[Nat.pow_succ,←Nat.div_div_eq_div_mul,hm])
   rw[hm]at NS
   rw[hm]
   clear hm
   obtain⟨q,hq⟩:∃q,s-1-k=q:=⟨_,rfl⟩
   have Q:=zW (show q<s∧q=s-1-k∧k<s by omega)
   have iq:(s:Int)-1-(k:Int)=(q:Int):=oB
   rw[hq]at NS
   rw[iq]
   clear hq iq
   have qi:(q:Int)<(s:Int):=by have:=Q.out;omega
   have q0:¬(q:Int)<0:=oB
   have q0':(0:Int)≤(q:Int):=oB
   have ql:=Q.out.1
   have t1:(m:Int).tmod 256=((m%256:Nat):Int):=by rw[tZ _ _ oB];simp
   have t2:(m:Int).tdiv 256=((m/256:Nat):Int):=by rw[Int.tdiv_eq_ediv_of_nonneg oB];simp
   obtain⟨d,hd⟩:∃d,m%256=d:=⟨_,rfl⟩
   obtain⟨e,he⟩:∃e,m/256=e:=⟨_,rfl⟩
   have D2:=zW (show d<256 from by rw[←hd];exact qI _ oR)
   rw[hd]at NS t1
   rw[he]at M2 t2
   have w1:IntKind.i64.wrap (d:Int)=(d:Int):=by rw[zS];omega
   have d2:d<256:=D2.out
   have w2:IntKind.u8.wrap (d:Int)=(d:Int):=by rw[qQ];omega
   have w3:IntKind.i64.wrap (e:Int)=(e:Int):=by rw[zS];omega
   have w4:IntKind.i64.wrap ((q:Int)-1)=(q:Int)-1:=by rw[zS];omega
   have c1:wr.cell? ⟨g,q,none⟩=some (.int .u8 ((nbK n s k)[q]'(by rw[xJ];exact ql))):=(BG.out.cell q).trans (oJ _ _ _)
   have f1:wr.frozen? ⟨g,q,none⟩=false:=BG.out.frozen q
   clear hd he
   go_wp2
   refine⟨⟨k+1,by have:=Q.out;omega,by rw[M2.out],by congr 1;have:=Q.out;omega,(BG.out.put q (.int .u8 (d:Int))).eq ?_,BB.out.setCell (p:=⟨g,q,none⟩) GE.out _⟩,by first|(simp[intOf];done)|(simp[intOf];omega)⟩
   rw[oZ,NS.out]
  ·obtain rfl:k=s:=by omega
   have e1:((k:Int)-1-(k:Int))= -1:=oB
   rw[e1]
   go_wp2
   go_ret
   exact bN GE.out hs BG.out BB.out
def pxB(f:Nat→Bool)(n:Nat):List Nat:=(List.range n).map fun j=>acc (fun k=>f (8*j+k)) 8
theorem pP(f:Nat→Bool)(n:Nat):pxB f (n+1)=pxB f n++[acc (fun k=>f (8*n+k)) 8]:=by unfold pxB;rw[List.range_succ,qD];rfl
theorem aZ(L:List Nat)(b:Nat):byV (L++[b])=byV L++[.int .u8 (b:Int)]:=by unfold byV;rw[qD];rfl
theorem tW(N:Nat)(hN:N=8192)(g:Nat)(f:Nat→Bool)(w:World)(H:Pxs g f w):Calls Try.prog 31 #[.slice (some ⟨g,0,none⟩) N N] w (gW (plB (fwd f)) w):=by
 obtain⟨i0,hi,hz0,hz1,hz2⟩:=jB vP;have NN:=zW hN;have HH:=zW H;clear hN H;go_enter Try.func31,Try.ntmps31;go_wp2_with fail;go_loopw [3,4] (fun o i wr=>∃j:Nat,j≤1024∧i=.int .i64 ((8*j:Nat):Int)∧wr.ownsRow w.heap.size 5 1 o j (byV (pxB f j))∧Below w.heap.size w wr) (fun _ i _=>8192-(intOf i).toNat)
 case atStart=>exact⟨0,zD _,rfl,jH _ _ _ _,zA _ _⟩
 case round=>
  obtain⟨j,hj,rfl,hown,hB⟩:=hrel
  have OB:=zW (zC hown hB)
  clear hown hB
  by_cases hlt:j<1024
  ·have JX:=zW hlt
   have n8:((8*j:Nat):Int)≤8192:=oB
   obtain⟨m,hm⟩:∃m,8*j=m:=⟨_,rfl⟩
   have MX:=zW (show 8*j=m∧m+8≤8192 from⟨hm,by omega⟩)
   have PS:=zW (pP f j)
   rw[hm]at n8 PS
   rw[hm]
   clear hm
   have mi:(m:Int)<(N:Int):=by have:=MX.out;have:=NN.out;omega
   have wm:IntKind.i64.wrap ((m:Int)+8)=((m+8:Nat):Int):=by rw[zS];omega
   go_wp2_with fail
   obtain⟨wo,hwo⟩:∃wo,wo=wr:=⟨_,rfl⟩
   subst hwo
   go_loopw [5,6] (fun v i wi=>∃k:Nat,k≤8∧i=.int .i64 (k:Int)∧v=.int .i64 ((acc (fun k=>f (m+k)) k:Nat):Int)∧wi=wo) (fun _ i _=>8-(intOf i).toNat)
   case atStart=>exact⟨0,zD _,rfl,rfl,rfl⟩
   case round=>
    obtain⟨k,hk,rfl,rfl,rfl⟩:=hrel
    have AL:=x7 (fun k=>f (m+k)) k
    obtain⟨a,ha⟩:∃a,acc (fun k=>f (m+k)) k=a:=⟨_,rfl⟩
    rw[ha]at AL
    by_cases htt:k<8
    ·have a1:a<256:=zG AL (Nat.pow_le_pow_right oR (show k≤8 by omega))
     have tI:(k:Int)<8:=oB
     have KX:=zW htt
     obtain⟨p,hp⟩:∃p,m+k=p:=⟨_,rfl⟩
     have AS:=zW (show acc (fun k=>f (m+k)) (k+1)=2*a+(f p).toNat from by rw[acc,ha,hp])
     have p8:p<8192:=by have:=MX.out;omega
     have pN:(p:Int)<(N:Int):=by have:=NN.out;omega
     have pn:p<N:=by have:=NN.out;omega
     have wp:IntKind.i64.wrap ((m:Int)+(k:Int))=(p:Int):=by rw[zS];omega
     have w2:IntKind.i64.wrap (2*(a:Int))=((2*a:Nat):Int):=by rw[zS];omega
     have w3:IntKind.i64.wrap (((2*a:Nat):Int)+1)=((2*a+1:Nat):Int):=by rw[zS];omega
     have c:=(show Pxs g f _ from HH.out.step OB.out.2).at_ p p8
     rw[ha]
     clear ha AL hp
     obtain⟨e,he⟩:∃e,2*a=e:=⟨_,rfl⟩
     rw[he]at w2 w3 AS
     clear he
     cases hb:f p
     ·rw[hb]at c AS
      clear hb
      go_wp2
      exact⟨⟨k+1,by have:=KX.out;omega,by go_num,by rw[AS.out];rfl,by trivial⟩,by have:=KX.out;simp[intOf];omega⟩
     ·rw[hb]at c AS
      clear hb
      go_wp2
      exact⟨⟨k+1,by have:=KX.out;omega,by go_num,by rw[AS.out];rfl,by trivial⟩,by have:=KX.out;simp[intOf];omega⟩
    ·obtain rfl:k=8:=by omega
     have a1:a<256:=AL
     have wa:IntKind.u8.wrap (a:Int)=(a:Int):=by rw[qQ];omega
     rw[ha]at PS
     rw[ha]
     clear ha AL
     have hown:=OB.out.1
     have hB:=OB.out.2
     clear OB
     obtain⟨A,c,rfl⟩:=lD hown
     go_wp2_with ((at_builtin;refine wpList_append_own _ rfl _ _ 27 rfl w.heap.size 5 i0 (.int .u8 0) 1 1 Try.underlying27 hi hz0 hz1 hz2 rfl oR _ _ _ rfl (hown.alloc _) ⟨_,0,none⟩ 1 1 [.int .u8 (a:Int)] rfl rfl (cell_one_new _ _ _) (by simp[Value.oneCell']) oE oB (by have:=hB.size;simp;omega) ?_;intro v' w1 hown' hgrow _))
     refine⟨⟨j+1,JX.out,by congr 1;have:=MX.out;omega,by rw[PS.out,aZ];exact hown',(hB.alloc hB.size _).grown hgrow (by have:=hB.size;simp;omega) fun j ej=>(hown.lt j ej).1⟩,by have:=MX.out;simp[intOf];omega⟩
  ·obtain rfl:j=1024:=by omega
   have ki:¬((8*1024:Nat):Int)<(N:Int):=by have:=NN.out;omega
   obtain⟨m,hm⟩:∃m,8*1024=m:=⟨_,rfl⟩
   rw[hm]at ki
   rw[hm]
   clear hm
   have hown:=OB.out.1
   obtain⟨A,c,rfl⟩:=lD hown
   clear hown
   go_wp2
   go_ret
   unfold gW
   rw[cO,iW]
   exact⟨A,c,rfl,OB.out.1,OB.out.2⟩
end
end Go.Proofs.Ytilideoeaecoaaa
