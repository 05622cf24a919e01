/- PixRef, PlaneRef, PlaneWords, PlaneRefDr, PixRefSp, PlaneRefSc, Pix2, PlaneBits, PlaneRefSpr, PlaneRefPl. -/
import Derived.Test.YtilideoeaecoaaaMPix
set_option maxRecDepth 400000
set_option maxHeartbeats 64000000
set_option linter.unusedVariables false
set_option linter.unusedSimpArgs false
namespace Go.Proofs.Ytilideoeaecoaaa
section
open Go.RowKit Num
structure Pix(g:Nat)(f:Nat→Bool)(w:World):Prop where
 lt:g<w.heap.size
 at_:∀j,j<128→w.cell? ⟨g,j,none⟩=some (.bool (f j))
 fz:∀j,j<128→w.frozen? ⟨g,j,none⟩=false
section
variable {g:Nat} {f f':Nat→Bool} {w w':World}
theorem Pix.below(H:Pix g f w){n:Nat}(hb:Below n w w')(hn:g<n):Pix g f w':=
 ⟨zG H.lt hb.size,fun j hj=>(hb.cell (p:=⟨g,j,none⟩) hn).trans (H.at_ j hj),fun j hj=>(hb.frozen (p:=⟨g,j,none⟩) hn).trans (H.fz j hj)⟩
theorem Pix.step(H:Pix g f w)(hb:Below w.heap.size w w'):Pix g f w':=H.below hb H.lt
theorem Pix.congr(H:Pix g f w)(h:∀j,j<128→f j=f' j):Pix g f' w:=⟨H.lt,fun j hj=>by rw[←h j hj];exact H.at_ j hj,H.fz⟩
theorem Pix.set(H:Pix g f w){k:Nat}(hk:k<128)(v:Bool):Pix g (fun j=>if j=k then v else f j) (w.setCell ⟨g,k,none⟩ (.bool v)):=by
 exact o5
theorem Pix.other(H:Pix g f w){b:Nat}(hb:b≠g)(o:Nat)(v:Value):Pix g f (w.setCell ⟨b,o,none⟩ v):=
 ⟨by simpa using H.lt,fun j hj=>by rw[qW _ _ _ _ (by simp[hb])];exact H.at_ j hj,fun j hj=>by rw[World.frozen?_setCell];exact H.fz j hj⟩
end
def oH:Array Value:=madeCells #[.bool false] 128
theorem Pix.new(w:World)(t:TypeId):Pix w.heap.size (fun _=>false) (w.alloc (.cells oH t)):=
 ⟨by simp,fun j hj=>by rw[World.cell?_alloc_at _ _ _ _ rfl];simp[oH,madeCells,hj,Nat.mod_one],fun j hj=>World.frozen?_alloc_at _ _ _ _ rfl⟩
theorem fB:(Try.prog.info? 4).map (fun i=>(i.zero,i.bytes,i.size))=some (some (.bool false),1,1):=by kernel_rfl
structure Pxs(g:Nat)(f:Nat→Bool)(w:World):Prop where
 lt:g<w.heap.size
 at_:∀j,j<8192→w.cell? ⟨g,j,none⟩=some (.bool (f j))
 fz:∀j,j<8192→w.frozen? ⟨g,j,none⟩=false
section
variable {g:Nat} {f f':Nat→Bool} {w w':World}
theorem Pxs.below(H:Pxs g f w){n:Nat}(hb:Below n w w')(hn:g<n):Pxs g f w':=
 ⟨zG H.lt hb.size,fun j hj=>(hb.cell (p:=⟨g,j,none⟩) hn).trans (H.at_ j hj),fun j hj=>(hb.frozen (p:=⟨g,j,none⟩) hn).trans (H.fz j hj)⟩
theorem Pxs.step(H:Pxs g f w)(hb:Below w.heap.size w w'):Pxs g f w':=H.below hb H.lt
theorem Pxs.drew(H:Pxs g f w):Pxs g f w.drew:=H.step (zA _ _).drew
theorem Pxs.congr(H:Pxs g f w)(h:∀j,j<8192→f j=f' j):Pxs g f' w:=⟨H.lt,fun j hj=>by rw[←h j hj];exact H.at_ j hj,H.fz⟩
theorem Pxs.set(H:Pxs g f w){k:Nat}(hk:k<8192)(v:Bool):Pxs g (fun j=>if j=k then v else f j) (w.setCell ⟨g,k,none⟩ (.bool v)):=by
 exact o5
def x8(f:Nat→Bool)(w:World)(e:Ending)(w':World):Prop:=
 ∃g,e=.returned (.slice (some ⟨g,0,none⟩) 8192 8192)∧w.heap.size≤g∧Pxs g f w'∧Below w.heap.size w w'
theorem x8.congr{e:Ending}(H:x8 f w e w')(h:∀j,j<8192→f j=f' j):x8 f' w e w':=by
 obtain⟨g,h1,h2,h3,h4⟩:=H;exact⟨g,h1,h2,h3.congr h,h4⟩
end
theorem fN(n j:Nat)(h:j<n):(madeCells #[.bool false] n)[j]?=some (.bool false):=by simp[madeCells,h,Nat.mod_one]
def aK:Array Value:=madeCells #[.bool false] 8192
theorem Pxs.new(w:World)(t:TypeId):Pxs w.heap.size (fun _=>false) (w.alloc (.cells aK t)):=
 ⟨by simp,fun j hj=>by rw[World.cell?_alloc_at _ _ _ _ rfl];exact fN 8192 j hj,fun j hj=>World.frozen?_alloc_at _ _ _ _ rfl⟩
theorem tO(w:World):(Instr.makeSlice 64 (.int .i64 8192) (.int .i64 8192)).run Try.prog w=.ok (.slice (some ⟨w.heap.size,0,none⟩) 8192 8192) (w.alloc (.cells aK 4)):=by
 have hi:=fB;cases hq:Try.prog.info? 4 with
 |none=>rw[hq]at hi;cases hi
 |some i=>
  rw[hq]at hi
  simp only[Option.map_some,jN,jW]at hi
  obtain⟨hz,hb,hs⟩:=hi
  have h:=run_make (P:=Try.prog) w 64 4 i (.bool false) Try.underlying64 hq hz .i64 .i64 8192 8192 oR oR (by rw[hb];decide) oR
  rw[h,hs]
  rfl
theorem sS(w:World):Calls Try.prog 35 #[] w (x8 (fun _=>false) w):=by
 have mk:=tO;go_enter Try.func35,Try.ntmps35;go_wp2;go_ret;exact⟨_,rfl,zP _,Pxs.new w _,nY w _⟩
theorem x9(b:Bool)(w:World):Calls Try.prog 23 #[.bool b] w fun e w'=>e=.returned (.int .i64 (if b then 64 else 32))∧w=w':=by
 cases b
 all_goals
  go_enter Try.func23,Try.ntmps23
  go_wp2
  go_ret
  exact⟨rfl,rfl⟩
theorem y9(g:Nat)(f:Nat→Bool)(w:World)(H:Pxs g f w){x y k:Nat}{xi yi:Int}(hx:xi=(x:Int))(hy:yi=(y:Int))(hk:k=128*y+x)(x1:x<128)(y1:y<64):
  Calls Try.prog 24 #[.slice (some ⟨g,0,none⟩) 8192 8192,.int .i64 xi,.int .i64 yi] w fun e w'=>e=.returned (.bool (f k))∧w=w':=by
 subst hx hy;have h1:=H.at_ k oB;have ek:128*(y:Int)+(x:Int)=(k:Int):=oB;have k1:k<8192:=oB;clear H;obtain⟨v,hv⟩:∃v,v=f k:=⟨_,rfl⟩;rw[←hv]at h1⊢;clear hv hk;go_enter Try.func24,Try.ntmps24;go_wp2;go_ret;exact⟨rfl,rfl⟩
theorem rX(g:Nat→Bool)(k:Nat)(hk:k<64):(acc g k:Int)≤9223372036854775807:=by
 have h:=x7 g k;have h2:2^k≤2^63:=Nat.pow_le_pow_right oR oB;omega
def wW(f:Nat→Bool)(y:Nat):BitVec 64:=wd (fun i=>f (128*y+i))
def wV(f:Nat→Bool)(y:Nat):BitVec 64:=wd (fun i=>f (128*y+(64+i)))
theorem eQ(g:Nat)(f:Nat→Bool)(w:World)(H:Pxs g f w){y:Nat}{yi:Int}(hy:yi=(y:Int))(y1:y<64):
  Calls Try.prog 19 #[.slice (some ⟨g,0,none⟩) 8192 8192,.int .i64 yi] w fun e w'=>e=.returned (.tuple #[.int .u64 ((wW f y).toNat:Int),.int .u64 ((wV f y).toNat:Int)])∧w=w':=by
 subst hy;have HH:=zW H;have EH:Hid ((wW f y).toNat=acc (fun i=>f (128*y+i)) 64):=zW (yP _);have EL:Hid ((wV f y).toNat=acc (fun i=>f (128*y+(64+i))) 64):=zW (yP _);generalize (wW f y).toNat=U at*;generalize (wV f y).toNat=V at*;clear H;go_enter Try.func19,Try.ntmps19;go_wp2;go_loop [6,7,8] (fun a b i=>∃k X Y:Nat,k≤64∧a=.int .u64 (X:Int)∧b=.int .u64 (Y:Int)∧i=.int .i64 (k:Int)∧X=acc (fun i=>f (128*y+i)) k∧Y=acc (fun i=>f (128*y+(64+i))) k) (fun _ _ i=>64-(intOf i).toNat)
 case atStart=>exact⟨0,0,0,by omega,rfl,rfl,rfl,rfl,rfl⟩
 case round=>
  obtain⟨k,X,Y,hk,rfl,rfl,rfl,hX,hY⟩:=hrel
  by_cases hlt:k<64
  ·have hi:(k:Int)<64:=oB
   have X1:(X:Int)≤9223372036854775807:=by rw[hX];exact rX _ _ hlt
   have Y1:(Y:Int)≤9223372036854775807:=by rw[hY];exact rX _ _ hlt
   have C1:=zW (y9 g f w HH.out (x:=k) (y:=y) rfl rfl rfl oB y1)
   have C2:=zW (y9 g f w HH.out (x:=64+k) (y:=y) (xi:=64+(k:Int)) oB rfl rfl oB y1)
   have XX:=zW hX
   have YY:=zW hY
   clear hX hY
   cases e1:f (128*y+k)
   all_goals
    have E1:=zW e1
    rw[e1]at C1
    clear e1
    cases e2:f (128*y+(64+k))
    all_goals
     have E2:=zW e2
     rw[e2]at C2
     clear e2
     go_wp2_with fail
     refine C1.out.mono ?_
     rintro e w' ⟨rfl,rfl⟩
     go_wp2_with fail
     refine C2.out.mono ?_
     rintro e w' ⟨rfl,rfl⟩
     go_wp2
     go_round
     case rel=>
      refine⟨k+1,_,_,by omega,by go_num,by go_num,by go_num,?_,?_⟩
      ·first|(rw[d8 (fun i=>f (128*y+i)) k E1.out,XX.out])|(rw[rJ (fun i=>f (128*y+i)) k E1.out,XX.out])
      ·first|(rw[d8 (fun i=>f (128*y+(64+i))) k E2.out,YY.out])|(rw[rJ (fun i=>f (128*y+(64+i))) k E2.out,YY.out])
     case measure=>simp[intOf];omega
  ·have K64:=zW (show k=64 by omega)
   have hi:¬(k:Int)<64:=oB
   have XX:=zW hX
   have YY:=zW hY
   clear hX hY
   go_wp2
   go_ret2
   have e1:X=U:=by rw[XX.out,EH.out,K64.out]
   have e2:Y=V:=by rw[YY.out,EL.out,K64.out]
   rw[←e1,←e2]
   exact⟨rfl,rfl⟩
theorem zeroPw:j0 (fun _=>0#128)=Array.replicate 128 (.int .u64 0):=by
 apply qM
 intro j
 by_cases hj:j<128
 ·rw[kE _ _ hj];unfold lQ;simp[hj,hi,lo]
 ·rw[zO (by simp[j1];omega),zO oA]
theorem xC:(Try.prog.info? 45).map (fun i=>(i.zero,i.size))=some (some (.agg (j0 fun _=>0#128)),128):=by
 rw[zeroPw];kernel_rfl
theorem d9(w:World):(zeroValue 45).run Try.prog w=.ok (.agg (j0 fun _=>0#128)) w:=(zero_of_info xC).1 w
theorem eZ:(Try.prog.info? 45).map (·.size)=some 128:=by kernel_rfl
theorem blankN{N:Nat}(hN:N=8192)(w:World):Calls Try.prog 35 #[] w fun e w'=>∃g,e=.returned (.slice (some ⟨g,0,none⟩) N N)∧w.heap.size≤g∧Pxs g (fun _=>false) w'∧Below w.heap.size w w':=by
 subst hN;exact sS w
theorem yU(b:Bool)(w:World):Calls Try.prog 22 #[.bool b] w fun e w'=>e=.returned (.int .i64 (if b then 128 else 64))∧w=w':=by
 cases b
 all_goals
  go_enter Try.func22,Try.ntmps22
  go_wp2
  go_ret
  exact⟨rfl,rfl⟩
def Res(b:Bool)(m h:Nat):Prop:=(b=true∧m=128∧h=64)∨(b=false∧m=64∧h=32)
theorem Res.bounds{b:Bool}{m h:Nat}(r:Res b m h):16≤m∧m≤128∧16≤h∧h≤64:=by
 rcases r with⟨_,rfl,rfl⟩|⟨_,rfl,rfl⟩<;>decide
theorem dY{b:Bool}{m h:Nat}(r:Res b m h)(w:World):Calls Try.prog 22 #[.bool b] w fun e w'=>e=.returned (.int .i64 (m:Int))∧w=w':=by
 rcases r with⟨rfl,rfl,_⟩|⟨rfl,rfl,_⟩
 ·exact yU true w
 ·exact yU false w
theorem tM{b:Bool}{m h:Nat}(r:Res b m h)(w:World):Calls Try.prog 23 #[.bool b] w fun e w'=>e=.returned (.int .i64 (h:Int))∧w=w':=by
 rcases r with⟨rfl,_,rfl⟩|⟨rfl,_,rfl⟩
 ·exact x9 true w
 ·exact x9 false w
theorem dM{N:Nat}(hN:N=8192)(g:Nat)(f:Nat→Bool)(w:World)(H:Pxs g f w){x y k:Nat}{v:Bool}{xi yi:Int}(hx:xi=(x:Int))(hy:yi=(y:Int))(hk:k=128*y+x)(x1:x<128)(y1:y<64)(hv:f k=v):
  Calls Try.prog 24 #[.slice (some ⟨g,0,none⟩) N N,.int .i64 xi,.int .i64 yi] w fun e w'=>e=.returned (.bool v)∧w=w':=by
 subst hN;rw[←hv];exact y9 g f w H hx hy hk x1 y1
def gY(B:Nat)(W:World):Type:={w':World//Below B W w'}
def gY.w{B:Nat}{W:World}(x:gY B W):World:=x.1
theorem gY.below{B:Nat}{W:World}(x:gY B W):Below B W x.w:=x.2
instance(B:Nat)(W:World):Nonempty (gY B W):=⟨⟨W,zA _ _⟩⟩


def stI(m M d n0:Nat):Nat→Nat×(Nat→Bool)
 |0=>(n0,fun _=>false)
 |k+1=>(((stI m M d n0 k).1+1+d)%M,fun j=>if j=128*((stI m M d n0 k).1/m)+(stI m M d n0 k).1%m then true else(stI m M d n0 k).2 j)
def dW(a1 a2 a3:Int)(m h:Nat):Nat→Bool:=(stI m (m*h) ((a2.tmod 1000+1000)%1000).toNat (a1.tmod ((m*h:Nat):Int)).toNat (min a3 3000).toNat).2
def aG(F:Nat→Bool)(m h:Nat)(w:World)(e:Ending)(w':World):Prop:=rV F m h∧x8 F w e w'
theorem dX(a:Int)(M:Int)(hM:0<M): -M<a.tmod M∧a.tmod M<M:=by
 have h:=Int.tmod_lt_of_pos a hM;have h2:=Int.lt_tmod_of_pos a hM;omega
theorem eV(a1 a2 a3:Int)(b:Bool)(m h:Nat)(hr:Res b m h)(w:World)(b1: -9223372036854775808≤a1∧a1≤9223372036854775807)(b2: -9223372036854775808≤a2∧a2≤9223372036854775807)(b3: -9223372036854775808≤a3∧a3≤9223372036854775807):
  Calls Try.prog 18 #[.agg #[.int .i64 a1,.int .i64 a2,.int .i64 a3],.bool b] w (aG (dW a1 a2 a3 m h) m h w):=by
 obtain⟨b1,b1'⟩:=b1;obtain⟨b2,b2'⟩:=b2;obtain⟨b3,b3'⟩:=b3;obtain⟨N,hN⟩:∃N,N=8192:=⟨_,rfl⟩;obtain⟨m0,m1,h0,h1⟩:=hr.bounds;obtain⟨M,hM⟩:∃M,M=m*h:=⟨_,rfl⟩;have M0:0<(M:Int):=by have:=Nat.mul_pos (show 0<m by omega) (show 0<h by omega);omega
 have M1:(M:Int)≤10000:=by have:=Nat.mul_le_mul m1 h1;omega
 have eM:(m:Int)*(h:Int)=(M:Int):=by rw[hM];simp
 have BB:=zW fun w=>blankN hN w;have RR:=zW hr;have NN:=zW (zC hN hM);obtain⟨t0,ht0⟩:∃t0,a1.tmod (M:Int)=t0:=⟨_,rfl⟩;have t1:=dX a1 M M0;rw[ht0]at t1;obtain⟨t1,t2⟩:=t1;obtain⟨s0,hs0⟩:∃s0,a2.tmod 1000=s0:=⟨_,rfl⟩;have s1:=dX a2 1000 oR;rw[hs0]at s1;obtain⟨s1,s2⟩:=s1;obtain⟨d,hd⟩:∃d:Nat,(s0+1000)%1000=(d:Int):=⟨((s0+1000)%1000).toNat,by omega⟩;have d1:(d:Int)<1000:=oB;obtain⟨N0,hN0⟩:∃N0,t0.toNat=N0:=⟨_,rfl⟩;obtain⟨KK,hKK⟩:∃K,(min a3 3000).toNat=K:=⟨_,rfl⟩;have SF:dW a1 a2 a3 m h=(stI m M d N0 KK).2:=by
  unfold dW;rw[←hM,ht0,hs0,hd,hN0,hKK,Int.toNat_natCast]
 rw[SF];have KE:=zW (show KK≤3000∧((KK:Int)=a3∨(KK=3000∧3000≤a3)∨(KK=0∧a3≤0))from by omega);have NE:=zW hN0;clear SF hN0 hKK;have TS:=zW hs0;have TD:=zW hd;unfold aG x8;rw[←hN];clear hN hr hM hs0 hd;go_enter Try.func18,Try.ntmps18;go_wp2_with fail;refine(BB.out _).mono ?_;rintro e w1 ⟨G,rfl,hG,hP0,hb0⟩;have X:Below (w.heap.size+1) (w.alloc (.cells #[.int .i64 a1,.int .i64 a2,.int .i64 a3] 35)) w1:=by simpa using hb0
 have q1:w1.cell? ⟨w.heap.size,0,none⟩=some (.int .i64 a1):=(X.cell (p:=⟨w.heap.size,0,none⟩) oP).trans oU;have q2:w1.cell? ⟨w.heap.size,1,none⟩=some (.int .i64 a2):=(X.cell (p:=⟨w.heap.size,1,none⟩) oP).trans oU;have q3:w1.cell? ⟨w.heap.size,2,none⟩=some (.int .i64 a3):=(X.cell (p:=⟨w.heap.size,2,none⟩) oP).trans oU;have G0:=zW (show w.heap.size<G by simp at hG;omega);have P0:=zW hP0;have b0:=zW ((nY w (.cells #[.int .i64 a1,.int .i64 a2,.int .i64 a3] 35)).trans (hb0.mono oP));have Q0:=zW (zC q2 q3);clear hG hP0 hb0 X;go_wp2_with fail;refine(dY RR.out w1).mono ?_;rintro e w' ⟨rfl,rfl⟩;go_wp2_with fail;refine(tM RR.out w1).mono ?_;rintro e w' ⟨rfl,rfl⟩;rcases Int.lt_or_le t0 0 with ht|ht
 all_goals
  go_wp2
  go_loopw [8,9] (fun nv i wr=>∃(n k:Nat) (f:Nat→Bool),n<M∧k≤3000∧nv=.int .i64 (n:Int)∧i=.int .i64 (k:Int)∧rV f m h∧Pxs G f wr∧Below w.heap.size w wr∧Below (w.heap.size+1) w1 wr∧stI m M d N0 k=(n,f)∧k≤KK) (fun _ i _=>3000-(intOf i).toNat)
  case atStart=>
   first
    |exact⟨0,0,_,by omega,by omega,rfl,rfl,yZ m h,P0.out,b0.out,zA _ _,by have:=NE.out;rw[show N0=0 by omega];rfl,zD _⟩
    |(obtain⟨n0,rfl⟩:=Int.eq_ofNat_of_zero_le ht;exact⟨n0,0,_,by omega,by omega,rfl,rfl,yZ m h,P0.out,b0.out,zA _ _,by have:=NE.out;rw[show N0=n0 by omega];rfl,zD _⟩)
  case round=>
   clear P0 b0 ht0 q1 q2 q3 ht t1 t2
   obtain⟨n,k,f,hn,hk,rfl,rfl,hf,hP,hB,hS,hst,hkk⟩:=hrel
   have ST:=zW (zC hst hkk)
   clear hst hkk
   have q2:=(hS.cell (p:=⟨w.heap.size,1,none⟩) oP).trans Q0.out.1
   have q3:=(hS.cell (p:=⟨w.heap.size,2,none⟩) oP).trans Q0.out.2
   have PB:=zW (zC hP (zC hB (zC hS hf)))
   clear hP hB hS hf
   rcases(show((k:Int)<a3∧(k:Int)<3000)∨¬(k:Int)<a3∨((k:Int)<a3∧¬(k:Int)<3000) by omega)with⟨i1,i2⟩|i1|⟨i1,i2⟩
   ·obtain⟨q,hq⟩:∃q,n/m=q:=⟨_,rfl⟩
    obtain⟨r,hr⟩:∃r,n%m=r:=⟨_,rfl⟩
    obtain⟨p1,p2,p3⟩:=pI n m h m1 oB (by have:=NN.out.2;omega)
    rw[hq,hr]at p1 p2 p3
    obtain⟨p,hp⟩:∃p,128*q+r=p:=⟨_,rfl⟩
    rw[hp]at p1 p2 p3
    have p8:p<8192:=oB
    have pN:(p:Int)<(N:Int):=by have:=NN.out.1;omega
    have pn:p<N:=oB
    have e1:(n:Int).tdiv (m:Int)=(q:Int):=by rw[Int.tdiv_eq_ediv_of_nonneg oB,←hq];simp
    have e2:(n:Int).tmod (m:Int)=(r:Int):=by rw[tZ _ _ oB,←hr];simp
    have e3:IntKind.i64.wrap (128*(q:Int))=128*(q:Int):=xT _ oB oB
    have e4:IntKind.i64.wrap (128*(q:Int)+(r:Int))=(p:Int):=by rw[xT _ oB oB];omega
    have e5:IntKind.i64.wrap (q:Int)=(q:Int):=xT _ oB oB
    have e6:(n:Int)/(m:Int)=(q:Int):=by rw[←hq];simp
    have e7:(n:Int)%(m:Int)=(r:Int):=by rw[←hr];simp
    obtain⟨n',hn'⟩:∃n',(n+1+d)%M=n':=⟨_,rfl⟩
    have n1:n'<M:=by rw[←hn'];exact qI _ oB
    have e8:((n:Int)+1+(d:Int))%(M:Int)=(n':Int):=by rw[←hn'];simp
    have PP:=zW (zC p1 (zC p2 p8))
    have SN:=zW (show stI m M d N0 (k+1)=(n',fun j=>if j=p then true else f j)from by
     show(((stI m M d N0 k).1+1+d)%M,fun j=>if j=128*((stI m M d N0 k).1/m)+(stI m M d N0 k).1%m then true else(stI m M d N0 k).2 j)=_;rw[ST.out.1];simp only;rw[hn',hq,hr,hp])
    have KN:=zW (show k+1≤KK from by have:=KE.out;omega)
    clear hq hr hp hn' p1 p2 p3 p8
    have NM:(n:Int)≤10000:=oB
    have mm:m≠0:=oB
    have mm2:((m:Int)==0)=false:=by simp;omega
    have mm3:(M:Int)≠0:=oB
    go_wp2
    refine tJ 10 oT oT ?_
    intro wd hwd
    have PD0:(Pxs G f wd∧Below w.heap.size w wd∧Below (w.heap.size+1) w1 wd∧rV f m h)∧wd.cell? ⟨w.heap.size,1,none⟩=some (.int .i64 a2):=by rw[hwd];exact⟨⟨PB.out.1.drew,PB.out.2.1.drew,PB.out.2.2.1.drew,PB.out.2.2.2⟩,q2⟩
    have q2d:=PD0.2
    have PD:=zW PD0.1
    have c3:=PD.out.1.at_ p PP.out.2.2
    have c4:=PD.out.1.fz p PP.out.2.2
    clear hwd PB PD0 q2 q3
    simp only[List.take_succ_cons,List.take_zero,List.drop_succ_cons,List.drop_zero]
    repeat still_step
    refine wpStill_nil ?_
    have ts:=TS.out
    have td:=TD.out
    have gw:(⟨G,p,none⟩:Addr).block≠w.heap.size:=by have:=G0.out;simp;omega
    go_wp2
    go_roundw
    case rel=>
     exact⟨n',k+1,_,n1,by omega,by go_num,by go_num,sV PD.out.2.2.2 p true PP.out.1 PP.out.2.1,PD.out.1.set PP.out.2.2 true,PD.out.2.1.setCell (p:=⟨G,p,none⟩) (qV G0.out) _,PD.out.2.2.1.setCell (p:=⟨G,p,none⟩) G0.out _,SN.out,KN.out⟩
    case measure=>simp[intOf];omega
   ·go_wp2
    go_ret
    have EK:=(show k=KK from by have:=KE.out;have:=ST.out.2;omega)
    rw[←EK,ST.out.1]
    exact⟨PB.out.2.2.2,G,rfl,qV G0.out,PB.out.1,PB.out.2.1⟩
   ·go_wp2
    go_ret
    have EK:=(show k=KK from by have:=KE.out;have:=ST.out.2;omega)
    rw[←EK,ST.out.1]
    exact⟨PB.out.2.2.2,G,rfl,qV G0.out,PB.out.1,PB.out.2.1⟩
end
end Go.Proofs.Ytilideoeaecoaaa
