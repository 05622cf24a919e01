/- RecL3, RecL4, RecL5, RecL6, RecL7, RecL8, RecDm, RecDn, RecL9, RecV, RecW, RecX, RecAw. -/
import Derived.Test.YtilideoeaecoaaaMRecRefA
set_option maxRecDepth 400000
set_option maxHeartbeats 64000000
set_option linter.unusedVariables false
set_option linter.unusedSimpArgs false
namespace Go.Proofs.Ytilideoeaecoaaa
section
open Go.RowKit Num
theorem bA(k:Int):Try.prog.built 30 [(0,.int .i64 k)]=some (lY k 0 0 0):=by kernel_rfl
def yM(x:Int):Prop:= -9223372036854775808≤x∧x≤9223372036854775807
theorem yW(k c p y:Int)(y0:yM y)(w:World):Calls Try.prog 21 #[.agg (lY k c p y)] w fun e w'=>e=.returned (.bool (stB k c p y))∧Below w.heap.size w w':=by
 obtain⟨r,hr⟩:∃r,stB k c p y=r:=⟨_,rfl⟩;have RR:=zW hr;rw[hr];clear hr;obtain⟨Y,hY⟩:∃Y:Int,IntKind.u64.wrap y=Y:=⟨_,rfl⟩;have YY:(4611686018427387904<Y)↔¬(0≤y∧y≤4611686018427387904):=by
  rw[IntKind.wrap_u64]at hY;unfold yM at y0;omega
 have hcase:(p<0∧r=false)∨(¬p<0∧(65536:Int)≤p∧r=false)∨(¬p<0∧¬(65536:Int)≤p∧(4611686018427387904:Int)<Y∧r=false)∨
   ((¬p<0∧¬(65536:Int)≤p∧¬(4611686018427387904:Int)<Y)∧((k=0∧r=u0 0 c p y 0 0 0 0)∨(k=1∧r=u0 1 c p y 1 0 0 0)∨(k=2∧r=decide (c=0))∨(k=3∧c<1∧r=false)∨(k=3∧¬c<1∧r=decide (c≤4))∨(¬k=0∧¬k=1∧¬k=2∧¬k=3∧r=false))):=by
  have e:=RR.out;unfold stB at e;by_cases hr:0≤p∧p≤65535∧0≤y∧y≤4611686018427387904
  ·refine .inr (.inr (.inr ⟨⟨by omega,by omega,by omega⟩,?_⟩));have ex:∀d:Int,u0 d c p y d 0 0 0=decide (c=0∧p=0∧y=0):=fun d=>by
    unfold u0;rw[Bool.eq_iff_iff];simp
   rcases(show k=0∨k=1∨k=2∨k=3∨(¬k=0∧¬k=1∧¬k=2∧¬k=3) by omega)with rfl|rfl|rfl|rfl|h
   ·refine .inl ⟨rfl,?_⟩;rw[ex,←e,Bool.eq_iff_iff];simp;omega
   ·refine .inr (.inl ⟨rfl,?_⟩);rw[ex,←e,Bool.eq_iff_iff];simp;omega
   ·refine .inr (.inr (.inl ⟨rfl,?_⟩));rw[←e,Bool.eq_iff_iff];simp;omega
   ·by_cases hc:c<1
    ·refine .inr (.inr (.inr (.inl ⟨rfl,hc,?_⟩)));rw[←e,Bool.eq_false_iff];simp;omega
    ·refine .inr (.inr (.inr (.inr (.inl ⟨rfl,hc,?_⟩))));rw[←e,Bool.eq_iff_iff];simp;omega
   ·refine .inr (.inr (.inr (.inr (.inr ⟨h.1,h.2.1,h.2.2.1,h.2.2.2,?_⟩))));rw[←e,z0 (fun q=>by omega)];rfl
  ·have hf:r=false:=by
    rw[←e,z0 (fun q=>by omega)];rfl
   by_cases a1:p<0
   ·exact .inl ⟨a1,hf⟩
   by_cases a2:(65536:Int)≤p
   ·exact .inr (.inl ⟨a1,a2,hf⟩)
   exact .inr (.inr (.inl ⟨a1,a2,by omega,hf⟩))
 clear RR
 have hY2:=zW YY;clear YY y0;go_enter Try.func21,Try.ntmps21;go_upto_region 0 with fail;refine zN ?_;refine kT rfl _ (.tmp 0) rfl (lY k c p y) rfl ?_;simp only[Act.put,zQ,zZ,zJ];have K1:=zW (Blk.new w 30 (lY k c p y));have BB:=zW (jI w (.cells (lY k c p y) 30));generalize w.heap.size=g1 at K1⊢;generalize World.alloc w _=w1 at K1 BB⊢;have c0:w1.cell? ⟨g1,0,none⟩=some (.int .i64 k):=(K1.out.cell 0).trans rfl;have c1:w1.cell? ⟨g1,1,none⟩=some (.int .i64 c):=(K1.out.cell 1).trans rfl;have c2:w1.cell? ⟨g1,2,none⟩=some (.int .i64 p):=(K1.out.cell 2).trans rfl;have c3:w1.cell? ⟨g1,3,none⟩=some (.int .i64 y):=(K1.out.cell 3).trans rfl;rcases hcase with⟨h1,rfl⟩|⟨h1,h2,rfl⟩|⟨h1,h2,h3,rfl⟩|⟨⟨h1,h2,h3⟩,hc⟩
 iterate 3
  ·go_wp2
   go_returns
   exact⟨rfl,BB.out⟩
 rcases hc with⟨rfl,rfl⟩|⟨rfl,rfl⟩|⟨rfl,rfl⟩|⟨rfl,h4,rfl⟩|⟨rfl,h4,rfl⟩|⟨h4,h5,h6,h7,rfl⟩
 iterate 2
  ·go_upto_region 6 with fail
   refine zN ?_
   refine j3 vA K1.out rfl rfl (.tmp 1) rfl rfl ?_
   simp only[Act.put,zQ,zZ,zJ]
   iterate 6 go_step
   refine mJ rfl rfl (by simp[Act.eval,Act.put];exact bA _) ?_
   refine uW rfl _ (bT (.tmp 22) (.tmp 25) _ rfl _ _ _ _ _ _ _ _ rfl rfl) ?_
   go_wp2
   go_returns
   exact⟨rfl,BB.out⟩
 all_goals
  go_wp2
  go_returns
  refine⟨?_,BB.out⟩
  first|rfl|(congr 2;simp;done)|(congr 2;simp;omega)
theorem wB(r:jO)(i:Nat)(hi:i<4):(jA r).extract (i*128) (i*128+128)=j0 (r.P i):=mO (j1 _) oB fun j hj=>by
 rw[kE _ _ hj];unfold kI;rw[zL oB,show(i*128+j)/128=i by omega,show(i*128+j)%128=j by omega]
theorem rsR_is(r:jO):rsR r=true↔∀i,i<4→(r.hi||nL (r.P i))=true:=by
 have e:rsR r=(r.hi||(List.range 4).all fun i=>nL (r.P i)):=rfl;rw[e];cases r.hi
 ·simp only[Bool.false_or,z4,z9]
 ·simp
theorem xD(r:jO)(y0:yM r.y)(w:World):Calls Try.prog 11 #[.agg (jA r)] w fun e w'=>e=.returned (.bool (j9 r))∧Below w.heap.size w w':=by
 obtain⟨Z,hZ⟩:∃Z,j9 r=Z:=⟨_,rfl⟩;have ZZ:=zW (show(rsR r&&stB r.k r.c r.p r.y)=Z from hZ);rw[hZ];clear hZ;have RS:=zW (rsR_is r);have ES:=zW (rD r);have EP:=zW (wB r);have Y0:=zW y0;have CH:=zW (show(jA r)[512]?=some (.bool r.hi)from j6 r oB);obtain⟨C,hC⟩:∃C,jA r=C:=⟨_,rfl⟩;have cz:C.size=535:=by rw[←hC];exact jU r
 rw[hC]at ES EP CH⊢;clear hC y0;go_enter Try.func11,Try.ntmps11;go_upto_region 0 with fail;refine zN ?_;refine kT rfl _ (.tmp 0) rfl C rfl ?_;simp only[Act.put,zQ,zZ,zJ];have K1:=zW (Blk.new w 48 C);have BB:=zW (jI w (.cells C 48));generalize w.heap.size=g1 at K1⊢;generalize World.alloc w _=w1 at K1 BB⊢;go_wp2_with fail;go_loopw [4] (fun i wr=>∃k:Nat,k≤4∧i=.int .i64 (k:Int)∧(∀j,j<k→(r.hi||nL (r.P j))=true)∧Blk g1 48 C wr∧Below w.heap.size w wr) (fun i _=>4-(intOf i).toNat)
 case atStart=>exact⟨0,zD _,rfl,fun j hj=>absurd hj (Nat.not_lt_zero j),K1.out,BB.out⟩
 case round=>
  clear K1 BB
  obtain⟨k,hk,rfl,hf,k1,bb⟩:=hrel
  have K1:=zW k1
  have BB:=zW bb
  have HF:=zW hf
  clear k1 bb hf
  by_cases hlt:k<4
  ·have JX:=zW hlt
   have ki:(k:Int)<4:=oB
   have QB:=zW (fun w' (h:∃x:mK wr,w'=x.w)=>show Blk g1 48 C w' from by obtain⟨x,rfl⟩:=h;exact K1.out.step x.below)
   have q12:=mK.cell (show wr.cell? ⟨g1,512,none⟩=some (.bool r.hi)from(K1.out.cell 512).trans CH.out) K1.out.lt
   have ep:=EP.out k hlt
   obtain⟨z,hz⟩:∃z,(r.hi||nL (r.P k))=z:=⟨_,rfl⟩
   have FT:=zW (fun u=>show Calls Try.prog 20 #[.agg (j0 (r.P k)),.bool r.hi] u fun e w'=>e=.returned (.bool z)∧Below u.heap.size u w' from by rw[←hz];exact fD (r.P k) r.hi u)
   have HZ:=zW hz
   clear hz
   go_upto_region 4 with fail
   refine mT oT oT ?_
   repeat(first
    |(refine mS (o:=k*128) xM QB.out (by rw[cz];omega) ?_ (.tmp 9) ?_ ?_ ?_;(focus rfl);(focus rfl);(focus(simp[Act.eval];done));rw[ep];simp only[Act.put,zQ,zZ,zJ])
    |go_big_quiet_step ((go_at_call 20;exact xA (FT.out _))))
   refine zF ?_
   intro _ hw'
   obtain⟨x,rfl⟩:=hw'
   have xb:=x.below
   have K1:=zW (K1.out.step xb)
   have BB:=zW (BB.out.trans (xb.mono BB.out.size))
   clear xb
   generalize x.w=wz at K1 BB⊢
   clear q12 QB ep
   cases z
   ·have e:Z=false:=by
     rw[←ZZ.out];cases hq:rsR r
     ·rfl
     ·have:=(RS.out.1 hq) k JX.out;rw[HZ.out]at this;cases this
    subst e
    go_wp2
    go_returns
    exact⟨rfl,BB.out⟩
   ·go_wp2
    go_roundw
    case rel=>exact⟨k+1,JX.out,by go_num,fun j hj=>by
     by_cases e:j=k
     ·rw[e];exact HZ.out
     ·exact HF.out j oB,K1.out,BB.out⟩
    case measure=>have:=JX.out;simp[intOf];omega
  ·have ki:¬(k:Int)<4:=oB
   have hv:=yW r.k r.c r.p r.y Y0.out wr
   have e:stB r.k r.c r.p r.y=Z:=by
    rw[←ZZ.out,(RS.out).2 fun i hi=>HF.out i oB,Bool.true_and]
   rw[e]at hv
   have VS:=zW hv
   clear hv e
   go_upto_region 7 with fail
   refine zN ?_
   iterate 3 go_step
   refine kA (o:=531) vA K1.out (by rw[cz];decide) rfl (.tmp 16) rfl rfl ?_
   rw[ES.out]
   simp only[Act.put,zQ,zZ,zJ]
   go_wp2_with fail
   refine VS.out.mono ?_
   rintro e w' ⟨rfl,hb⟩
   have BB:=zW (BB.out.trans (hb.mono BB.out.size))
   clear hb VS
   go_wp2
   go_returns
   exact⟨rfl,BB.out⟩
theorem fX:∀s n m,n%256^s=m%256^s→nb s n=nb s m
 |0,_,_,_=>rfl
 |s+1,n,m,h=>by
  show nb s (n/256)++[n%256]=nb s (m/256)++[m%256];have e:∀x:Nat,x%256=x%256^(s+1)%256:=fun x=>by
   rw[Nat.pow_succ,Nat.mod_mul_left_mod]
  have e2:∀x:Nat,x/256%256^s=x%256^(s+1)/256:=fun x=>by
   rw[Nat.pow_succ,Nat.mul_comm,Nat.mod_mul_right_div_self]
  rw[fX s (n/256) (m/256) (by rw[e2,e2,h]),e n,e m,h]
theorem fK(a:Nat):∀b n,nb (a+b) n=nb a (n/256^b)++nb b n
 |0,n=>by rw[Nat.add_zero,Nat.pow_zero,Nat.div_one];exact(z5 _).symm
 |b+1,n=>by
  show nb (a+b) (n/256)++[n%256]=nb a (n/256^(b+1))++(nb b (n/256)++[n%256]);rw[fK a b,zB,Nat.pow_succ,Nat.mul_comm,Nat.div_div_eq_div_mul]
theorem bV(r:BitVec 128):nb 16 r.toNat=nb 8 (hi r).toNat++nb 8 (lo r).toNat:=by
 have h:r.toNat=(hi r).toNat*2^64+(lo r).toNat:=by
  exact ZJ
 have hl:=(lo r).isLt;have e:(256:Nat)^8=2^64:=oR;rw[fK 8 8,e,fX 8 r.toNat (lo r).toNat (by rw[e];omega)];congr 2
 omega
theorem iT(s n k:Nat)(h:k<s):(nb s n).take (k+1)=(nb s n).take k++[n/256^(s-1-k)%256]:=by
 rw[List.take_add_one,bW s n k h];rfl
theorem lJ(x s:Nat)(hx:x<18446744073709551616)(hs:s≤8)(base:Nat)(A:Option Addr)(n c:Nat)(M:List Nat)(w0 w:World)(v0:Value)(H:ApK base v0 w0 w (.slice A n c) M)(hM:M.length+s≤1000000):
  Calls Try.prog 26 #[.slice A n c,.int .u64 (x:Int),.int .i64 (s:Int)] w fun e w'=>∃A' n' c',e=.returned (.slice A' n' c')∧ApK base v0 w0 w' (.slice A' n' c') (M++nb s x):=by
 have HH:=zW H;have XX:=zW hx;clear H hx;go_enter Try.func26,Try.ntmps26;go_wp2_with fail;go_loopw [0,9] (fun v i wr=>∃k A' n' c',k≤s∧v=.slice A' n' c'∧i=.int .i64 ((k:Nat):Int)∧ApK base v0 w0 wr (.slice A' n' c') (M++(nb s x).take k)) (fun _ i _=>s-(intOf i).toNat)
 case atStart=>exact⟨0,_,_,_,zD _,rfl,rfl,by rw[List.take_zero,z5];exact HH.out⟩
 case round=>
  clear HH
  obtain⟨k,A',n',c',hk,rfl,rfl,hap⟩:=hrel
  have AP:=zW hap
  clear hap
  by_cases hlt:k<s
  ·have JX:=zW hlt
   have ki:(k:Int)<(s:Int):=oB
   have NT:=zW (iT s x k hlt)
   obtain⟨q,hq⟩:∃q,s-1-k=q:=⟨_,rfl⟩
   have Q:=zW (show q+k+1=s by omega)
   have e1:IntKind.i64.wrap ((s:Int)-1)=(s:Int)-1:=by rw[zS];omega
   have e2:IntKind.i64.wrap ((s:Int)-1-(k:Int))=(q:Int):=by rw[zS];omega
   have e3:IntKind.i64.wrap ((q:Int)*8)=((q*8:Nat):Int):=by rw[zS];omega
   rw[hq]at NT
   clear hq
   obtain⟨m,hm⟩:∃m,x/256^q=m:=⟨_,rfl⟩
   have m1:m<18446744073709551616:=by rw[←hm];exact Nat.lt_of_le_of_lt (Nat.div_le_self _ _) XX.out
   have e4:(x:Int)/2^min (q*8) 64=(m:Int):=by
    rw[←hm,show min (q*8) 64=8*q by have:=Q.out;omega,show(256:Nat)=2^8 from rfl,←Nat.pow_mul];simp
   rw[hm]at NT
   clear hm
   have e5:IntKind.u8.wrap (m:Int)=((m%256:Nat):Int):=by rw[qQ];omega
   obtain⟨q8,hq8⟩:∃q8,q*8=q8:=⟨_,rfl⟩
   rw[hq8]at e3 e4
   clear hq8
   obtain⟨d,hd⟩:∃d,m%256=d:=⟨_,rfl⟩
   rw[hd]at NT e5
   clear hd
   go_wp2_with ((at_builtin;refine kZ rfl _ _ rfl (AP.out.step (jI _ _)) rfl _ 1 1 [d] rfl (vT _ [d]) rfl oR (by rw[zM,qH,kL];have:=Q.out;omega) ?_;intro A2 n2 c2 w2 hap2))
   refine⟨⟨k+1,A2,n2,c2,JX.out,rfl,by go_num,by rw[NT.out,←zB];exact hap2⟩,by have:=JX.out;simp[intOf];omega⟩
  ·obtain rfl:k=s:=by omega
   go_wp2
   go_ret
   refine⟨_,_,_,rfl,?_⟩
   have h:=AP.out
   rw[qE (by rw[kL];exact zP _)]at h
   exact h
def lC(P:Pl)(k:Nat):List Nat:=(List.range k).flatMap fun y=>nb 16 (P y).toNat
theorem eY(P:Pl)(k:Nat):(lC P k).length=k*16:=uM _ 16 k fun i _=>kL 16 _
theorem cK(P:Pl)(k:Nat):lC P (k+1)=lC P k++nb 8 (hi (P k)).toNat++nb 8 (lo (P k)).toNat:=by
 unfold lC;rw[List.range_succ,List.flatMap_append,zB,←bV];simp
theorem uT(P:Pl)(base:Nat)(A:Option Addr)(n c:Nat)(M:List Nat)(w0 w:World)(v0:Value)(H:ApK base v0 w0 w (.slice A n c) M)(hM:M.length+1024≤1000000):
  Calls Try.prog 39 #[.slice A n c,.agg (j0 P)] w fun e w'=>∃A' n' c',e=.returned (.slice A' n' c')∧ApK base v0 w0 w' (.slice A' n' c') (M++plB P):=by
 have X:=zW (kO.new w P 45);have HH:=zW (H.step (nY w (.cells (j0 P) 45)));clear H;go_enter Try.func39,Try.ntmps39;go_upto_region 1 with fail;refine zN ?_;iterate 3 go_step
 refine wpList_load_row rfl 43 (.tmp 7) rfl w.heap.size oD _ _ _ _ X.out Try.underlying43 rfl (by rw[yC,j1]) ?_;have IX:=zW (wP P);generalize w.alloc (.cells (j0 P) 45)=w1 at*;generalize j0 P=C at*;clear X;go_wp2;go_loopw [0,9] (fun v i wr=>∃k A' n' c',k≤64∧v=.slice A' n' c'∧i=.int .i64 ((k:Nat):Int)∧ApK base v0 w0 wr (.slice A' n' c') (M++lC P k)) (fun _ i _=>64-(intOf i).toNat)
 case atStart=>exact⟨0,_,_,_,zD _,rfl,rfl,by unfold lC;simpa using HH.out⟩
 case round=>
  clear HH
  obtain⟨k,A',n',c',hk,rfl,rfl,hap⟩:=hrel
  have AP:=zW hap
  clear hap
  by_cases hlt:k<64
  ·have JX:=zW hlt
   have ki:(k:Int)<64:=oB
   have ix:=IX.out k hlt
   have RS:=zW (cK P k)
   have RL:=zW (eY P k)
   have HL:=zW (zC (hi (P k)).isLt (lo (P k)).isLt)
   generalize (hi (P k)).toNat=h at*
   generalize (lo (P k)).toNat=l at*
   have hz:mW Try.prog 42 #[.int .u64 0,.int .u64 0]:=by unfold mW;kernel_rfl
   have RB:=zW (Blk.new wr 42 #[.int .u64 (h:Int),.int .u64 (l:Int)])
   have OL:=zW (show∀g,(Value.slice A' n' c').ownBlock=some g→¬wr.heap.size=g from fun g e=>by have:=(AP.out.own.lt g e).2;omega)
   have AP:=zW (AP.out.step (nY wr (.cells #[.int .u64 (h:Int),.int .u64 (l:Int)] 42)))
   go_wp2_with fail
   generalize wr.heap.size=g1 at RB OL⊢
   generalize World.alloc wr _=w2 at AP RB⊢
   have M1:(M++lC P k).length+16≤1000000:=by rw[zM,RL.out];omega
   have bl:=AP.out.own
   refine(lJ h 8 HL.out.1 oR base A' n' c' _ w2 w2 _ (.refl (zT AP.out.base_le AP.out.grown.size) bl) oB).mono ?_
   rintro e w3 ⟨A3,n3,c3,rfl,hap⟩
   have AP3:=zW (AP.out.trans hap)
   have RB:=zW (show Blk g1 42 _ w3 from(hap.kept.block g1 RB.out.lt (fun e=>OL.out _ e.symm rfl)).trans RB.out)
   have LE:=zW (show(M++lC P k++nb 8 h).length+8≤1000000 by rw[zM,kL];omega)
   clear hap bl AP OL M1
   have c1:w3.cell? ⟨g1,1,none⟩=some (.int .u64 (l:Int)):=RB.out.cell 1
   go_wp2_with fail
   refine(lJ l 8 HL.out.2 oR base A3 n3 c3 _ _ w3 _ AP3.out LE.out).mono ?_
   rintro e w4 ⟨A4,n4,c4,rfl,hap⟩
   have AP4:=zW hap
   clear hap c1 RB AP3
   go_wp2_with fail
   go_roundw
   case rel=>exact⟨k+1,A4,n4,c4,JX.out,rfl,by go_num,by rw[RS.out];simpa only[zB]using AP4.out⟩
   case measure=>have:=JX.out;simp[intOf];omega
  ·obtain rfl:k=64:=by omega
   go_wp2
   go_ret
   exact⟨_,_,_,rfl,AP.out⟩
def b4c(f:Nat→Bool):Array Value:=mZ 4 fun j=> .bool (f j)
theorem rZ:lI Try.prog 84 4:=⟨⟨_,Try.underlying84,rfl⟩,by kernel_rfl⟩
theorem rW:mW Try.prog 84 (b4c fun _=>false):=by unfold mW;kernel_rfl
theorem r6(f:Nat→Bool):vI (b4c f):=by unfold vI b4c mZ;simp[Value.oneCell']
theorem mX(f:Nat→Bool):(b4c f).size=4:=lA
theorem xL(f:Nat→Bool){j:Nat}(hj:j<4):(b4c f)[j]?=some (.bool (f j)):=mQ hj
theorem oQ(f g:Nat→Bool)(k:Nat)(h:∀j,j<4→g j=if j=k then g k else f j):(b4c f).setIfInBounds k (.bool (g k))=b4c g:=lL k _ fun j hj=>by
 rw[h j hj];split<;>rfl
theorem tK(P:Pl):mY P (fun _=>0#128)=kJ P:=by
 rw[Bool.eq_iff_iff,nO,nX]
theorem sM{o:Oper}{ρ:Operand→Value}{w:World}(x y:Operand)(z:TypeId)(ho:o.op=.binOp .neq 45 x y z)(A B:Pl)(hx:ρ x=.agg (j0 A))(hy:ρ y=.agg (j0 B)):(execOp ρ o).run Try.prog w=.ok (.value (.bool (!mY A B))) w:=by
 unfold execOp;simp only[ho,hx,hy];rw[zH,zH,run_eqGuard_agg w .neq 45 x y _ _ r4,Result.andThen_ok,e9,Result.andThen_ok,Sem.run_pure]
theorem yX(P:Nat→Pl)(w:World):Calls Try.prog 38 #[.agg (kP P)] w fun e w'=>e=.returned (.agg (b4c fun i=> !kJ (P i)))∧Below w.heap.size w w':=by
 have EP:=zW (yH P);obtain⟨C,hC⟩:∃C,kP P=C:=⟨_,rfl⟩;have cz:C.size=512:=by rw[←hC];exact vS P
 rw[hC]at EP⊢;clear hC;go_enter Try.func38,Try.ntmps38;go_upto_region 0 with fail;refine zN ?_;refine kT rfl _ (.tmp 0) rfl C rfl ?_;simp only[Act.put,zQ,zZ,zJ];have K1:=zW (Blk.new w 46 C);have BB:=zW (jI w (.cells C 46));have G1:=zW (show w.heap.size≤w.heap.size from zP _);generalize hg1:w.heap.size=g1 at K1⊢;clear hg1;generalize World.alloc w _=w1 at K1 BB⊢;refine zI rfl fun K hK=>lW rW rfl (hK _ _ ?_);clear hK K;simp only[Act.put,zQ,zZ,zJ];have R2:=zW (Blk.new w1 84 (b4c fun _=>false));have ba:=jI w1 (.cells (b4c fun _=>false) 84);have A2:=zW (show w.heap.size≤w1.heap.size from BB.out.size);have K1:=zW (K1.out.step ba);have BB:=zW (BB.out.trans (ba.mono BB.out.size));clear ba;generalize w1.heap.size=g2 at R2 A2⊢;generalize World.alloc w1 _=w2 at K1 R2 BB⊢;go_upto_region 1 with fail;refine zN ?_;refine zI rfl fun K hK=>lW rW rfl (hK _ _ ?_);clear hK K;simp only[Act.put,zQ,zZ,zJ];have R3:=zW (Blk.new w2 84 (b4c fun _=>false));have ba:=jI w2 (.cells (b4c fun _=>false) 84);have A3:=zW (show w.heap.size≤w2.heap.size from BB.out.size);have G3:=zW (show g1<w2.heap.size∧g2<w2.heap.size from⟨K1.out.lt,R2.out.lt⟩);have K1:=zW (K1.out.step ba);have R2:=zW (R2.out.step ba);have BB:=zW (BB.out.trans (ba.mono BB.out.size));clear ba;generalize w2.heap.size=g3 at R3 A3 G3⊢;generalize World.alloc w2 _=w3 at K1 R2 R3 BB⊢;go_wp2_with fail;go_loopw [5] (fun i wr=>∃k:Nat,k≤4∧i=.int .i64 (k:Int)∧Blk g1 46 C wr∧Blk g2 84 (b4c fun _=>false) wr∧Blk g3 84 (b4c fun j=>if j<k then !kJ (P j)else false) wr∧Below w.heap.size w wr) (fun i _=>4-(intOf i).toNat)
 case atStart=>exact⟨0,zD _,rfl,K1.out,R2.out,R3.out,BB.out⟩
 case round=>
  clear K1 R2 R3 BB
  obtain⟨k,hk,rfl,k1,r2,r3,bb⟩:=hrel
  have K1:=zW k1
  have R2:=zW r2
  have R3:=zW r3
  have BB:=zW bb
  clear k1 r2 r3 bb
  by_cases hlt:k<4
  ·have JX:=zW hlt
   have ki:(k:Int)<4:=oB
   have ep:=EP.out k hlt
   go_upto_region 5 with fail
   refine zN ?_
   iterate 9 go_step
   refine kA (o:=k*128) xM K1.out (by rw[cz];omega) rfl (.tmp 10) rfl oD ?_
   rw[ep]
   simp only[Act.put,zQ,zZ,zJ]
   refine bL rfl rfl ?_
   refine uW rfl _ (sM (.tmp 11) (.tmp 12) _ rfl (P k) (fun _=>0#128) rfl rfl) ?_
   rw[tK]
   have PT:=zW (oQ (fun j=>if j<k then !kJ (P j)else false) (fun j=>if j<k+1 then !kJ (P j)else false) k (fun j hj=>by
    by_cases e:j=k
    ·rw[zL e,e]
    ·rw[zY e];by_cases e2:j<k
     ·rw[zL e2,zL oB]
     ·rw[zY e2,zY oB]))
   simp only[show k<k+1 by omega,if_true]at PT
   have f3:=R3.out.frozen k
   have c3:=(R3.out.cell k).trans (xL _ hlt)
   generalize (!kJ (P k))=z at PT⊢
   clear ep
   go_wp2_with fail
   go_roundw
   case rel=>exact⟨k+1,JX.out,by go_num,K1.out.other (g:=g3) oS _ _,R2.out.other (g:=g3) oS _ _,(R3.out.put k _).eq PT.out,BB.out.setCell (p:=⟨g3,k,none⟩) A3.out _⟩
   case measure=>have:=JX.out;simp[intOf];omega
  ·have ki:¬(k:Int)<4:=oB
   obtain rfl:k=4:=by omega
   have R3:=zW (R3.out.eq (show b4c (fun j=>if j<4 then !kJ (P j)else false)=b4c (fun j=> !kJ (P j))from cW fun j hj=>by
    show Value.bool (if j<4 then !kJ (P j)else false)=_;rw[zL hj]))
   go_upto_region 7 with fail
   refine zN ?_
   refine j3 rZ R3.out (mX _) rfl (.tmp 3) rfl rfl ?_
   simp only[Act.put,zQ,zZ,zJ]
   refine kX (ds:=b4c fun j=> !kJ (P j)) rZ R2.out (mX _) (mX _) (r6 _) rfl (.tmp 2) (.tmp 16) rfl rfl rfl ?_
   have RE:=R2.out.store (b4c fun j=> !kJ (P j))
   have BE:=mG BB.out A2.out (b4c fun j=> !kJ (P j))
   generalize World.setRow wr _ _=we at RE BE⊢
   go_wp2_with fail
   exact qU (qF rfl _ _ g2 _ _ _ _ rfl RE Try.underlying84 rfl (by rw[rZ.i,mX])) rfl ⟨rfl,BE⟩
def lN(g:Nat)(T:TypeId)(cs:Array Value):Type:={w:World//Blk g T cs w}
def lN.w{g:Nat}{T:TypeId}{cs:Array Value}(x:lN g T cs):World:=x.1
theorem lN.cell{g:Nat}{T:TypeId}{cs:Array Value}{j:Nat}{v:Value}(h:cs[j]?=some v)(x:lN g T cs):x.w.cell? ⟨g,j,none⟩=some v:=(x.2.cell j).trans h
theorem lN.is{g:Nat}{T:TypeId}{cs:Array Value}{w:World}(h:Blk g T cs w):∃x:lN g T cs,w=x.w:=⟨⟨w,h⟩,rfl⟩
theorem ApK.keepB{base g:Nat}{v v1:Value}{w w1:World}{M:List Nat}{T:TypeId}{cs:Array Value}(h:ApK base v w w1 v1 M)(hn:∀b,v.ownBlock=some b→¬b=g)(B:Blk g T cs w):Blk g T cs w1∧∀b,v1.ownBlock=some b→¬b=g:=
 ⟨(h.grown.block g B.lt fun e=>hn g e.symm rfl).trans B,fun b e=>by
  rcases h.blk with c|⟨x,c,hx⟩
  ·exact hn b (c▸e)
  ·rw[c]at e;injection e with e
   have:=B.lt;omega⟩
theorem ApK.start{base:Nat}{v0 v:Value}{w w1:World}{M:List Nat}(h:ApK base v0 w w1 v M):ApK base v w1 w1 v M:=.refl (zT h.base_le h.grown.size) h.own
theorem fR(F:Nat→Bool)(k:Nat)(hk:k<4)(w:World):(Instr.index 84 (.agg (b4c F)) (.int .i64 (k:Int))).run Try.prog w=.ok (.bool (F k)) w:=by
 have hn:(0:Int)≤(k:Int)∧(k:Int)<((4:Nat):Int):=oB;have hp:=kN 4 _ Try.underlying4 rfl (b4c F) k _ (xL F hk) w;have hs:(Try.prog.info? 4).map (·.size)=some 1:=oT;cases hq:Try.prog.info? 4 with
 |none=>rw[hq]at hs;cases hs
 |some i=>
  have hs:i.size=1:=by simpa [hq]using hs
  simp[Instr.index,z7 Try.underlying84,asIntOf,hn,go_sem,sizeOf,typeInfo,hq,hs,hp]
  rw[zL hk,xL F hk]
  rfl
theorem t8{o:Oper}{ρ:Operand→Value}{F:Nat→Bool}{k:Nat}(hk:k<4)(w:World)(x y:Operand)(ho:o.op=.index 84 x y)(hx:ρ x=.agg (b4c F))(hy:ρ y=.int .i64 (k:Int)):(execOp ρ o).run Try.prog w=.ok (.value (.bool (F k))) w:=by
 unfold execOp;simp only[ho,hx,hy,zH,fR F k hk,Result.andThen_ok,Sem.run_pure]
def lT(r:jO)(k:Nat):List Nat:=(List.range k).flatMap (plK r)
theorem vX(r:jO):lT r 4=pU r:=by
 unfold lT pU;rw[show List.range 4=[0,1,2,3]from rfl];simp
theorem mM(r:jO)(k:Nat):lT r (k+1)=lT r k++plK r k:=by
 unfold lT;rw[List.range_succ,List.flatMap_append];simp
theorem xS(r:jO)(k:Nat):(lT r k).length≤k*1024:=by
 induction k with
 |zero=>exact zD _
 |succ k ih=>
  rw[mM,zM,vK]
  split<;>omega
def lM(r:jO):List Nat:=(List.range 16).map fun j=>(r.pat j).toNat
theorem tP(r:jO)(h:OkR r):toI (lM r)=cH r.pat:=by
 unfold toI lM cH;rw[List.map_map];refine List.map_congr_left fun j hj=>?_;have:=(h.pat j (z9.1 hj)).1;show(((r.pat j).toNat:Nat):Int)=r.pat j;omega
theorem rec_rd{g:Nat}{T:TypeId}{r:jO}{w:World}(H:Blk g T (jA r) w)(h:OkR r):Rd w (some ⟨g,514,none⟩) (toI (lM r)):=fun _=>⟨_,rfl,H.lt,fun j hj=>by
 rw[lG]at hj;have hj:j<16:=by unfold lM at hj;simpa using hj
 simp only[tP r h];rw[t4 _ _ hj,xO,H.cell,j6 r oB];unfold kI;rw[zY oB,zY oB,zY oB,zL oB,show 514+j-514=j by omega]⟩
theorem dP(f:Nat→Bool):cmb f 2=b2n (f 0)+2*b2n (f 1):=by
 unfold b2n;simp only[cmb];cases f 0<;>cases f 1<;>rfl
theorem hE(r:jO):cmb (fun i=> !kJ (r.P i)) 4=lK r:=by
 unfold lK;simp only[cmb];cases kJ (r.P 0)<;>cases kJ (r.P 1)<;>cases kJ (r.P 2)<;>cases kJ (r.P 3)<;>rfl
theorem xU(r:jO)(hr:OkE r)(base:Nat)(A:Option Addr)(n c:Nat)(M:List Nat)(w0 w:World)(v0:Value)(H:ApK base v0 w0 w (.slice A n c) M)(hM:M.length+8000≤1000000):
  Calls Try.prog 27 #[.slice A n c,.agg (jA r)] w fun e w'=>∃A' n' c',e=.returned (.slice A' n' c')∧ApK base v0 w0 w' (.slice A' n' c') (M++kS r):=by
 have OK:=zW hr;obtain⟨pt,hpt⟩:∃x:Nat,r.pt=(x:Int):=⟨r.pt.toNat,by have:=hr.n.pt;omega⟩;obtain⟨kn,hkn⟩:∃x:Nat,r.k=(x:Int):=⟨r.k.toNat,by have:=hr.k;omega⟩;obtain⟨cn,hcn⟩:∃x:Nat,r.c=(x:Int):=⟨r.c.toNat,by have:=hr.c;omega⟩;obtain⟨pn,hpn⟩:∃x:Nat,r.p=(x:Int):=⟨r.p.toNat,by have:=hr.p;omega⟩;obtain⟨yn,hyn⟩:∃x:Nat,r.y=(x:Int):=⟨r.y.toNat,by have:=hr.y;omega⟩;have NS:=zW (show pt<256∧kn<256∧cn<256∧pn<65536∧yn≤4611686018427387904 from by
  have h1:=hr.n.pt;have h2:=hr.k;have h3:=hr.c;have h4:=hr.p;have h5:=hr.y;omega)
 have EN:=zW (show kS r=([b2n r.hi+2*b2n r.so,pt]++(lM r++([kn,cn]++(nb 2 pn++(nb 8 yn++[lK r])))))++lT r 4 from by
  rw[vX];unfold kS yJ lM;rw[hpt,hkn,hcn,hpn,hyn];rfl)
 have e512:=zW (show(jA r)[512]?=some (.bool r.hi)from j6 r oB);have e513:=zW (show(jA r)[513]?=some (.bool r.so)from j6 r oB);have e530:=zW (show(jA r)[530]?=some (.int .u8 (pt:Int))from by rw[←hpt];exact j6 r oB);have e531:=zW (show(jA r)[531]?=some (.int .i64 (kn:Int))from by rw[←hkn];exact j6 r oB);have e532:=zW (show(jA r)[532]?=some (.int .i64 (cn:Int))from by rw[←hcn];exact j6 r oB);have e533:=zW (show(jA r)[533]?=some (.int .i64 (pn:Int))from by rw[←hpn];exact j6 r oB);have e534:=zW (show(jA r)[534]?=some (.int .i64 (yn:Int))from by rw[←hyn];exact j6 r oB);have AP:=zW (H.step (jI w (.cells (jA r) 48)));have K1:=zW (Blk.new w 48 (jA r));have OL:=zW (show∀b,(Value.slice A n c).ownBlock=some b→¬b=w.heap.size from fun b e q=>by have:=(H.own.lt b e).2;omega);have ML:=zW hM;clear hr hpt hkn hcn hpn hyn H hM;obtain⟨C,hC⟩:∃C,jA r=C:=⟨_,rfl⟩;have CE:=zW hC;rw[hC]at e512 e513 e530 e531 e532 e533 e534 AP K1⊢;clear hC;go_enter Try.func27,Try.ntmps27;go_upto_region 0 with fail;refine zN ?_;refine kT rfl _ (.tmp 1) rfl C rfl ?_;simp only[Act.put,zQ,zZ,zJ];generalize w.heap.size=g1 at K1 OL⊢;generalize World.alloc w _=w1 at AP K1⊢;have q512:=fun x=>lN.cell (g:=g1) (T:=48) e512.out x;have q513:=fun x=>lN.cell (g:=g1) (T:=48) e513.out x;have q530:=fun x=>lN.cell (g:=g1) (T:=48) e530.out x;haveI:Nonempty (lN g1 48 C):=⟨⟨w1,K1.out⟩⟩;go_upto_region 1 with fail;refine lB (C:=fun w'=>∃x:lN g1 48 C,w'=x.w) [([0,1,2,3,4,7,8],5),([],6),([],9),([],10)] [11] oT oT (fun _ _ d _ _ h=>by cases d<;>exact h) (lN.is K1.out.drew) ?_;intro wd hwd;have bd:=zA w1.heap.size w1|>.drew
 rw[←hwd]at bd;have AP:=zW (AP.out.step bd);have K1:=zW (K1.out.step bd);clear hwd bd;refine kG ?_;repeat(go_big_quiet_step (fail))
 refine zF ?_;refine kB oF ?_;intro K hK;have B5:=zW (Blk.new wd 4 #[.bool r.hi,.bool r.so]);have ba:=jI wd (.cells #[.bool r.hi,.bool r.so] 4);go_wp2_with fail;have AP:=zW (AP.out.step ba);have K1:=zW (K1.out.step ba);clear ba;generalize wd.heap.size=g5 at B5⊢;generalize World.alloc wd _=w5 at AP K1 B5⊢;refine hK _ _ (lN.is K1.out) ?_;clear hK K;refine kG ?_;refine zF ?_;refine kB oF ?_;intro K hK;have CN:=nG (fun j=>if j=0 then r.hi else r.so) 2 g5 2 oR w5 (fun j hj=>by
  rw[B5.out.cell];rcases(show j=0∨j=1 by omega)with rfl|rfl<;>rfl)
 rw[dP]at CN;have CM:=zW (show Calls Try.prog 37 #[.slice (some ⟨g5,0,none⟩) 2 2] w5 fun e w'=>e=.returned (.int .u8 ((b2n r.hi+2*b2n r.so:Nat):Int))∧w5=w' from CN);clear CN;obtain⟨d,hd⟩:∃d,b2n r.hi+2*b2n r.so=d:=⟨_,rfl⟩;rw[hd]at CM EN;clear hd;go_wp2_with fail;refine CM.out.mono ?_;rintro e w' ⟨rfl,rfl⟩;clear CM B5;refine hK _ _ (lN.is K1.out) ?_;clear hK K;try simp only[Act.put,zQ,zZ,zJ]
 refine kG ?_;refine zF ?_;refine kB oF ?_;intro K hK;have B6:=zW (vT w5 [d,pt]);have ba:=jI w5 (.cells (byV [d,pt]).toArray 5);have AQ:=zW (AP.out.start.step ba);have K0:=K1;have K1:=zW (K1.out.step ba);clear ba;go_wp2_with fail;refine hK _ _ (lN.is K1.out) ?_;clear hK K;try simp only[Act.put,zQ,zZ,zJ]
 refine kG ?_;refine zF ?_;refine kB oF ?_;intro K hK;refine mC (.tmp 8) (.tmp 17) rfl AQ.out oF (some ⟨w5.heap.size,0,none⟩) 2 2 [d,pt] oF B6.out rfl oR (by have:=ML.out;omega) 18 oF ?_;intro A2 n2 c2 w6 hap;have kb:=hap.keepB OL.out (show Blk g1 48 C w5 from K0.out);have AP:=zW (AP.out.trans hap);have K1:=zW kb.1;have OL:=zW kb.2;clear hap kb AQ B6 K0;refine hK _ _ (lN.is K1.out) ?_;clear hK K;try simp only[Act.put,zQ,zZ,zJ]
 refine nA ?_;repeat(go_big_quiet_step (fail))
 refine zF ?_;clear q512 q513 q530 this;have L1:=zW (show(M++[d,pt]).length=M.length+2 by rw[zM];rfl);have L2:=zW (show(M++[d,pt]++lM r).length=M.length+18 by rw[zM,L1.out];unfold lM;simp);have L3:=zW (show(M++[d,pt]++lM r++[kn,cn]).length=M.length+20 by rw[zM,L2.out];rfl);have L4:=zW (show(M++[d,pt]++lM r++[kn,cn]++nb 2 pn).length=M.length+22 by rw[zM,L3.out,kL]);have L5:=zW (show(M++[d,pt]++lM r++[kn,cn]++nb 2 pn++nb 8 yn).length=M.length+30 by rw[zM,L4.out,kL]);go_upto_region 2 with fail;go_upto_region 3 with((at_builtin;refine kZ rfl _ _ rfl AP.out.start rfl (some ⟨g1,514,none⟩) 16 16 (lM r) rfl (rec_rd (by rw[CE.out];exact K1.out) OK.out.n) (by unfold lM;simp) oR (by have:=L1.out;have:=ML.out;omega) ?_;intro A3 n3 c3 w7 hap));have kb:=hap.keepB OL.out K1.out;have AP:=zW (AP.out.trans hap);have K1:=zW kb.1;have OL:=zW kb.2;clear hap kb;have q531:w7.cell? ⟨g1,531,none⟩=some (.int .i64 (kn:Int)):=(K1.out.cell 531).trans e531.out;have q532:w7.cell? ⟨g1,532,none⟩=some (.int .i64 (cn:Int)):=(K1.out.cell 532).trans e532.out;have u1:IntKind.u8.wrap (kn:Int)=(kn:Int):=by rw[qQ];have:=NS.out;omega
 have u2:IntKind.u8.wrap (cn:Int)=(cn:Int):=by rw[qQ];have:=NS.out;omega
 go_upto_region 4 with((at_builtin;refine kZ rfl _ _ rfl (AP.out.start.step (jI _ _)) rfl _ 2 2 [kn,cn] rfl (vT _ [kn,cn]) rfl oR (by have:=L2.out;have:=ML.out;omega) ?_;intro A4 n4 c4 w8 hap));have kb:=hap.keepB OL.out K1.out;have AP:=zW (AP.out.trans hap);have K1:=zW kb.1;have OL:=zW kb.2;clear hap kb;clear q531 q532 u1 u2;have q533:w8.cell? ⟨g1,533,none⟩=some (.int .i64 (pn:Int)):=(K1.out.cell 533).trans e533.out;have u1:IntKind.u64.wrap (pn:Int)=(pn:Int):=by rw[IntKind.wrap_u64];have:=NS.out;omega
 go_wp2_with fail;refine(lJ pn 2 (by have:=NS.out;omega) oR base A4 n4 c4 _ w8 w8 _ AP.out.start (by have:=L3.out;have:=ML.out;omega)).mono ?_;rintro e w9 ⟨A5,n5,c5,rfl,hap⟩;have kb:=hap.keepB OL.out K1.out;have AP:=zW (AP.out.trans hap);have K1:=zW kb.1;have OL:=zW kb.2;clear hap kb;clear q533 u1;have q534:w9.cell? ⟨g1,534,none⟩=some (.int .i64 (yn:Int)):=(K1.out.cell 534).trans e534.out;have u1:IntKind.u64.wrap (yn:Int)=(yn:Int):=by rw[IntKind.wrap_u64];have:=NS.out;omega
 go_wp2_with fail;refine(lJ yn 8 (by have:=NS.out;omega) oR base A5 n5 c5 _ w9 w9 _ AP.out.start (by have:=L4.out;have:=ML.out;omega)).mono ?_;rintro e wa ⟨A6,n6,c6,rfl,hap⟩;have kb:=hap.keepB OL.out K1.out;have AP:=zW (AP.out.trans hap);have K1:=zW kb.1;have OL:=zW kb.2;clear hap kb;clear q534 u1;have EP:=zW (show C.extract 0 (0+512)=kP r.P from by rw[←CE.out];exact vZ r);have CZ:=zW (show C.size=535 from by rw[←CE.out];exact jU r);go_upto_region 6 with fail;refine zN ?_;iterate 3 go_step
 refine kA (o:=0) r7 K1.out (by rw[CZ.out];decide) rfl (.tmp 46) rfl oD ?_;rw[EP.out];simp only[Act.put,zQ,zZ,zJ];go_wp2_with fail;refine(yX r.P _).mono ?_;rintro e wb ⟨rfl,hb⟩;have AP:=zW (AP.out.step hb);have AP0:=AP;have K1:=zW (K1.out.step hb);clear hb;simp only[];go_at_K
 go_step
 refine kU rZ rW (mX _) (mX _) (r6 _) rfl rfl rfl (.tmp 5) (.tmp 48) rfl oF oF ?_;simp only[Act.put,zQ,zZ,zJ];have B5:=zW (Blk.new wb 84 (b4c fun i=> !kJ (r.P i)));have ba:=jI wb (.cells (b4c fun i=> !kJ (r.P i)) 84);have AP:=zW (AP.out.step ba);have OG:=zW (show∀b,(Value.slice A6 n6 c6).ownBlock=some b→¬b=wb.heap.size from fun b e q=>by have:=(AP0.out.own.lt b e).2;omega);have K1:=zW (K1.out.step ba);clear ba AP0;generalize wb.heap.size=g6 at B5 OG⊢;generalize World.alloc wb _=wc at AP K1 B5⊢;have CM:=zW (show Calls Try.prog 37 #[.slice (some ⟨g6,0,none⟩) 4 4] wc fun e w'=>e=.returned (.int .u8 ((lK r:Nat):Int))∧wc=w' from by
  rw[←hE];exact nG (fun i=> !kJ (r.P i)) 4 g6 4 oR wc (fun j hj=>(B5.out.cell j).trans (xL _ hj)))
 obtain⟨u,hu⟩:∃u,lK r=u:=⟨_,rfl⟩;rw[hu]at CM EN;clear hu;go_wp2_with fail;refine CM.out.mono ?_;rintro e w' ⟨rfl,rfl⟩;clear CM;go_upto_region 8 with((at_builtin;refine kZ rfl _ _ rfl (AP.out.start.step (jI _ _)) rfl _ 1 1 [u] rfl (vT _ [u]) rfl oR (by have:=L5.out;have:=ML.out;omega) ?_;intro A7 n7 c7 wd' hap));have kc:=hap.keepB OG.out B5.out;have kb:=hap.keepB OL.out K1.out;have AP:=zW (AP.out.trans hap);have K1:=zW kb.1;have OL:=zW kb.2;clear hap kb;have B5:=zW kc.1;have OG:=zW kc.2;clear kc;refine zN ?_;refine j3 rZ B5.out (mX _) rfl (.tmp 5) rfl rfl ?_;simp only[Act.put,zQ,zZ,zJ];clear EP CZ L1 L2 L3 L4 L5 B5 OG e512 e513 e530 e531 e532 e533 e534 NS;have EQ:=zW (wB r);have CZ:=zW (jU r);rw[CE.out]at EQ CZ;have EM:=zW (show M++[d,pt]++lM r++[kn,cn]++nb 2 pn++nb 8 yn++[u]++lT r 4=M++kS r from by rw[EN.out];simp only[zB]);have LM:=zW (show(M++[d,pt]++lM r++[kn,cn]++nb 2 pn++nb 8 yn++[u]).length=M.length+31 from by
  simp only[zM,kL];unfold lM;simp)
 generalize M++[d,pt]++lM r++[kn,cn]++nb 2 pn++nb 8 yn++[u]=M6 at AP EM LM;go_wp2_with fail;go_loopw [0,55] (fun v i wr=>∃k A' n' c',k≤4∧v=.slice A' n' c'∧i=.int .i64 ((k:Nat):Int)∧ApK base v0 w0 wr (.slice A' n' c') (M6++lT r k)∧Blk g1 48 C wr∧(∀b,(Value.slice A' n' c').ownBlock=some b→¬b=g1)) (fun _ i _=>4-(intOf i).toNat)
 case atStart=>exact⟨0,_,_,_,zD _,rfl,rfl,by unfold lT;simpa using AP.out,K1.out,OL.out⟩
 case round=>
  clear AP K1 OL
  obtain⟨k,A',n',c',hk,rfl,rfl,hap,hk1,hol⟩:=hrel
  have AP:=zW hap
  have K1:=zW hk1
  have OL:=zW hol
  clear hap hk1 hol
  by_cases hlt:k<4
  ·have JX:=zW hlt
   have ki:(k:Int)<4:=oB
   have PS:=zW (mM r k)
   have PL:=zW (xS r k)
   have ep:=EQ.out k hlt
   go_upto_region 10 with fail
   refine zN ?_
   iterate 3 go_step
   refine uW rfl (.bool (!kJ (r.P k))) (t8 (F:=fun i=> !kJ (r.P i)) hlt _ (.tmp 54) (.tmp 55) rfl oD oD) ?_
   have PK:=zW (show plK r k=if kJ (r.P k)=true then[]else plB (r.P k)from rfl)
   cases hb:kJ (r.P k)
   ·rw[hb]at PK
    go_upto_region 12 with fail
    refine zN ?_
    iterate 12 go_step
    refine kA (o:=k*128) xM K1.out (by rw[CZ.out];omega) rfl (.tmp 63) rfl oD ?_
    rw[ep]
    simp only[Act.put,zQ,zZ,zJ]
    go_wp2_with fail
    refine(uT (r.P k) base A' n' c' _ wr wr _ AP.out.start (by rw[zM];have:=LM.out;have:=ML.out;have:=PL.out;omega)).mono ?_
    rintro e wz ⟨A8,n8,c8,rfl,hap⟩
    have kb:=hap.keepB OL.out K1.out
    have AP:=zW (AP.out.trans hap)
    have K1:=zW kb.1
    have OL:=zW kb.2
    clear hap kb ep
    go_wp2_with fail
    go_roundw
    case rel=>exact⟨k+1,A8,n8,c8,JX.out,rfl,by go_num,by rw[PS.out,PK.out,←zB];simpa using AP.out,K1.out,OL.out⟩
    case measure=>have:=JX.out;simp[intOf];omega
   ·rw[hb]at PK
    go_wp2_with fail
    go_roundw
    case rel=>exact⟨k+1,A',n',c',JX.out,rfl,by go_num,by rw[PS.out,PK.out];simpa using AP.out,K1.out,OL.out⟩
    case measure=>have:=JX.out;simp[intOf];omega
  ·obtain rfl:k=4:=by omega
   have e:=AP.out
   rw[EM.out]at e
   have AP:=zW e
   clear e
   go_wp2_with fail
   go_ret
   exact⟨_,_,_,rfl,AP.out⟩
structure OkI(r:jO):Prop where
 n:OkR r
 y:yM r.y
def mE(l:List jO):Bool:=l.all j9
theorem sA{l:List jO}{k:Nat}(hk:k<l.length)(h:∀j (hj:j<l.length),j<k→j9 l[j]=true)(hv:j9 l[k]=true):∀j (hj:j<l.length),j<k+1→j9 l[j]=true:=fun j hj hj2=>by
 by_cases e:j=k
 ·subst e;exact hv
 ·exact h j hj oB
theorem gJ{l:List jO}:mE l=true↔∀j (hj:j<l.length),j9 l[j]=true:=by
 unfold mE;rw[z4];constructor
 ·exact fun h j hj=>h _ (jV hj)
 ·intro h r hr;obtain⟨j,hj,rfl⟩:=List.getElem_of_mem hr;exact h j hj
theorem wE{l:List jO}{k:Nat}(hk:k<l.length):(l.take (k+1)).flatMap kS=(l.take k).flatMap kS++kS l[k]:=by
 rw[List.take_add_one,List.flatMap_append,z8 hk];simp
theorem rI(l:List jO)(k:Nat):((l.take k).flatMap kS).length≤(l.flatMap kS).length:=by
 conv=>rhs;rw[←List.take_append_drop k l]
 rw[List.flatMap_append,zM];omega
theorem wQ{r:jO}(h:OkI r)(hv:j9 r=true):OkE r:=by
 unfold j9 at hv;rw[zR]at hv;exact okE_of h.n hv.2
def Enc(l:List jO)(w:World)(e:Ending)(w':World):Prop:=
 Below w.heap.size w w'∧((mE l=true∧∃A c,e=.returned (.tuple #[.slice A (mN l).length c,.int .i64 0])∧w'.ownsRow w.heap.size 5 1 (.slice A (mN l).length c) (mN l).length (byV (mN l)))∨(mE l=false∧e=.returned (.tuple #[.slice none 0 0,.int .i64 5])))
theorem xW(l:List jO)(A:Option Addr)(n c:Nat)(hn:l.length=n)(w:World)(H:mD A l w)(ok:∀r∈l,OkI r)(h1:n≤30000)(h2:(l.flatMap kS).length≤900000):
  Calls Try.prog 13 #[.slice A n c] w (Enc l w):=by
 have OK:=zW (fun j (hj:j<l.length)=>ok l[j] (jV hj));have HN:=zW hn;have H0:=zW H;have LF:=zW h2;have FL:=zW (rI l);have cv:=Lib.run_convert_bytes_const (P:=Try.prog) w 27 5 #[.int .u8 67,.int .u8 56,.int .u8 82,.int .u8 49] 4 4 Try.underlying27 Try.underlying5;have ba:Below w.heap.size w (w.alloc (.cells #[.int .u8 67,.int .u8 56,.int .u8 82,.int .u8 49] 5 (4,5))):=jI w _;have BB:=zW ba;have AP:=zW (show ApK w.heap.size (.slice (some ⟨w.heap.size,0,none⟩) 4 4) (w.alloc (.cells #[.int .u8 67,.int .u8 56,.int .u8 82,.int .u8 49] 5 (4,5))) (w.alloc (.cells #[.int .u8 67,.int .u8 56,.int .u8 82,.int .u8 49] 5 (4,5))) (.slice (some ⟨w.heap.size,0,none⟩) 4 4) sgn from
  .refl ba.size (.inr ⟨_,rfl,zP _,qP w _,rfl,rfl⟩))
 clear ok hn H h2 ba;have n1:¬(1048576:Int)<(n:Int):=oB;have u1:IntKind.u64.wrap (n:Int)=(n:Int):=by rw[IntKind.wrap_u64];omega
 go_enter Try.func13,Try.ntmps13;go_wp2_with fail;refine(lJ n 4 oB oR w.heap.size _ 4 4 _ _ _ _ AP.out (by have e:sgn.length=4:=rfl;omega)).mono ?_;rintro e w2 ⟨A2,n2,c2,rfl,hap⟩;have BB:=zW (BB.out.trans (hap.below (fun g e=>by injection e with e;have e:w.heap.size=g:=e;omega)));have EL:=zW (show sgn++nb 4 n++(l.take n).flatMap kS=mN l from by
  rw[←HN.out,List.take_length];unfold mN sgn;rw[zB])
 have LH:=zW (show(sgn++nb 4 n).length=8 from by rw[zM,kL];rfl);have AP:=zW hap;clear hap cv u1;generalize sgn++nb 4 n=H at AP EL LH;have AP:=zW AP.out.start;clear n1;go_wp2_with fail;go_loopw [4,17] (fun v i wr=>∃k A' n' c',k≤n∧v=.slice A' n' c'∧i=.int .i64 ((k:Nat):Int)∧ApK w.heap.size (.slice A2 n2 c2) w2 wr (.slice A' n' c') (H++(l.take k).flatMap kS)∧(∀j (hj:j<l.length),j<k→j9 l[j]=true)∧Below w.heap.size w wr) (fun _ i _=>n-(intOf i).toNat)
 case atStart=>exact⟨0,_,_,_,zD _,rfl,rfl,by simpa using AP.out,fun j _ h=>absurd h (Nat.not_lt_zero j),BB.out⟩
 case round=>
  have OA:=zW (fun g e=>(AP.out.own.lt g e).1)
  clear AP BB
  obtain⟨k,A',n',c',hk,rfl,rfl,hap,hv,hb⟩:=hrel
  have AP:=zW hap
  have VV:=zW hv
  have BB:=zW hb
  clear hap hv hb
  by_cases hlt:k<n
  ·have JX:=zW hlt
   have hl:k<l.length:=by rw[HN.out];exact hlt
   have ki:(k:Int)<(n:Int):=oB
   have k1:(k:Int)≤30000:=oB
   obtain⟨g,e,hg,hat⟩:=(H0.out.step BB.out).at_ hl
   subst e
   have AT:=zW (zC hg hat)
   have OI:=zW (OK.out k hl)
   have FT:=zW (wE hl)
   have AV:=zW (sA hl VV.out)
   have NV:=zW (fun(h:j9 l[k]=false)=>show mE l=false from by
    cases hq:mE l
    ·rfl
    ·rw[gJ.1 hq k hl]at h;cases h)
   have VO:=zW (fun(h:j9 l[k]=true)=>wQ OI.out h)
   have FK:=zW (FL.out k)
   generalize l[k]=r at AT OI FT AV NV VO
   clear hg hat
   go_upto_region 7 with fail
   refine zN ?_
   iterate 9 go_step
   refine mI (o:=k*535) j8 AT.out.2 (jU r) rfl (.tmp 22) rfl oD ?_
   simp only[Act.put,zQ,zZ,zJ]
   go_wp2_with fail
   refine(xD r OI.out.y _).mono ?_
   rintro e w3 ⟨rfl,hb⟩
   have AT:=zW (show w3.rangeAt g (k*535) (jA r).toList from fun j v hv=>(hb.cell (p:=⟨g,k*535+j,none⟩) AT.out.1).trans (AT.out.2 j v hv))
   have AP:=zW (AP.out.step hb)
   have BB:=zW (BB.out.trans (hb.mono BB.out.size))
   clear hb
   cases hb:j9 r
   ·have e:=NV.out hb
    clear hb
    go_wp2_with fail
    go_ret2
    exact⟨BB.out,.inr ⟨e,rfl⟩⟩
   ·have VK:=zW (VO.out hb)
    have AV:=zW (AV.out hb)
    clear hb
    go_upto_region 9 with fail
    refine zN ?_
    iterate 12 go_step
    refine mI (o:=k*535) j8 AT.out (jU r) rfl (.tmp 29) rfl oD ?_
    simp only[Act.put,zQ,zZ,zJ]
    go_wp2_with fail
    refine(xU r VK.out w.heap.size A' n' c' _ _ w3 _ AP.out.start (by rw[zM];have:=LH.out;have:=FK.out;have:=LF.out;omega)).mono ?_
    rintro e w4 ⟨A3,n3,c3,rfl,hap⟩
    have BB:=zW (BB.out.trans (hap.below fun g e=>(AP.out.own.lt g e).1))
    have AP:=zW (AP.out.trans hap)
    clear hap
    go_wp2_with fail
    go_roundw
    case rel=>exact⟨k+1,A3,n3,c3,JX.out,rfl,by go_num,by rw[FT.out,←zB];exact AP.out,AV.out,BB.out⟩
    case measure=>have:=JX.out;simp[intOf];omega
  ·obtain rfl:k=n:=by omega
   have ho:=AP.out.own
   rw[EL.out]at ho
   have hp:=ho.plain (by rw[←EL.out,zM];have:=LH.out;omega)
   obtain⟨A4,c4,e4⟩:=lD hp
   injection e4 with e1 e2 e3
   subst e1 e2 e3
   have hv:=gJ.2 fun j hj=>VV.out j hj (by rw[←HN.out];exact hj)
   have RE:=zW (zC hv hp)
   clear ho hp hv
   go_wp2_with fail
   go_ret2
   exact⟨BB.out,.inl ⟨RE.out.1,_,_,rfl,RE.out.2⟩⟩
theorem fU(A D:Option Addr)(n c m:Nat)(hm:m≤n)(hc:n≤c)(h9:c≤maxLen)(hD:D=if c=m then A else A.map (·.add m))(w:World):
  (Instr.sliceAt 27 (.slice A n c) (some (.int .i64 (m:Int))) none none).run Try.prog w=.ok (.slice D (n-m) (c-m)) w:=by
 rw[run_sliceAt_slice (P:=Try.prog) w 27 _ _ _ _ Try.underlying27,run_slice_l (P:=Try.prog) w 27 _ n c Try.underlying27 .i64 m oB oB,hD];show Result.ok (sliced _ _ _ _ 1) w=_;unfold sliced;by_cases h:c=m
 ·subst h;simp
 ·rw[zY h];simp[h]
theorem fA(A:Option Addr)(n c m:Nat)(hm:m≤c)(w:World):
  (Instr.sliceAt 27 (.slice A n c) none (some (.int .i64 (m:Int))) none).run Try.prog w=.ok (.slice A m c) w:=by
 rw[run_sliceAt_slice (P:=Try.prog) w 27 _ _ _ _ Try.underlying27,run_slice_h (P:=Try.prog) w 27 _ n c Try.underlying27 .i64 m oB oB];show Result.ok (sliced _ _ _ _ 1) w=_;unfold sliced;by_cases h:c=0
 ·subst h;obtain rfl:m=0:=by omega
  simp
 ·simp[h,Addr.add]
abbrev RSt:=List Nat×Bool
def rdB(s:Nat)(q:RSt):List Nat×RSt:=if s≤q.1.length then(q.1.take s,(q.1.drop s,q.2))else([],(q.1,true))
def j4(s:Nat)(q:RSt):Nat×RSt:=(un (rdB s q).1,(rdB s q).2)
theorem Rd.keptN{O:Nat→Prop}{w w':World}{A:Option Addr}{L:List Nat}(h:Rd w A (toI L))(k:j5 O w w')(hn:L≠[]→∀ad,A=some ad→¬O ad.block):Rd w' A (toI L):=fun hne=>h.kept k (hn fun e=>hne (by rw[e];rfl)) hne
structure Rdr(B g:Nat)(q:RSt)(w:World):Prop where
 base:B≤g
 by_:∀b∈q.1,b<256
 blk:∃A n c,Blk g 88 #[.slice A n c,.bool q.2] w∧q.1.length=n∧n≤c∧c≤maxLen∧Rd w A (toI q.1)∧(q.1≠[]→∀ad,A=some ad→ad.block<B)
theorem Rdr.lt{B g:Nat}{q:RSt}{w:World}(h:Rdr B g q w):g<w.heap.size:=by
 obtain⟨_,_,_,hb,_⟩:=h.blk;exact hb.lt
theorem Rdr.kept{B g:Nat}{q:RSt}{w w':World}{O:Nat→Prop}(h:Rdr B g q w)(k:j5 O w w')(hg:¬O g)(hO:∀x,O x→B≤x):Rdr B g q w':=by
 refine⟨h.base,h.by_,?_⟩;obtain⟨A,n,c,hb,h1,h2,h3,h4,h5⟩:=h.blk;exact⟨A,n,c,(k.block g hb.lt hg).trans hb,h1,h2,h3,h4.keptN k fun hne ad e c=>(by have:=h5 hne ad e;have:=hO _ c;omega),h5⟩
theorem Rdr.step{B g:Nat}{q:RSt}{w w':World}(h:Rdr B g q w)(hb:Below w.heap.size w w'):Rdr B g q w':=h.kept (O:=fun _=>False) (j5.of_below hb) id (fun _ c=>c.elim)
theorem aggRdr:lI Try.prog 88 2:=⟨⟨_,Try.underlying88,rfl⟩,by kernel_rfl⟩
theorem rS(s:Nat)(q:RSt):(rdB s q).1.length≤s:=by
 unfold rdB;split
 ·simp;omega
 ·exact zD _
theorem vF(s:Nat)(q:RSt)(h:∀b∈q.1,b<256):(∀b∈(rdB s q).1,b<256)∧∀b∈(rdB s q).2.1,b<256:=by
 unfold rdB;by_cases hs:s≤q.1.length
 ·rw[zL hs];exact⟨fun b hb=>h b (List.mem_of_mem_take hb),fun b hb=>h b (List.mem_of_mem_drop hb)⟩
 ·rw[zY hs];exact⟨fun b hb=>(by cases hb),h⟩
structure RdS(B:Nat)(L:List Nat)(A:Option Addr)(n c:Nat)(w:World):Prop where
 len:L.length=n
 cap:n≤c
 max:c≤maxLen
 rd:Rd w A (toI L)
 off:L≠[]→∀ad,A=some ad→ad.block<B
theorem Rd.to_drop{w:World}{A D:Option Addr}{L:List Nat}{c m:Nat}(h:Rd w A (toI L))(hc:L.length≤c)(hD:D=if c=m then A else A.map (·.add m)):Rd w D (toI (L.drop m)):=by
 have e:toI (L.drop m)=(toI L).drop m:=by unfold toI;rw[List.map_drop]
 rw[e,hD];exact h.cut (by rw[lG];exact hc)
theorem Rd.to_take{w:World}{A:Option Addr}{L:List Nat}{m:Nat}(h:Rd w A (toI L)):Rd w A (toI (L.take m)):=fun hne=>by
 have e:toI (L.take m)=(toI L).take m:=by unfold toI;rw[List.map_take]
 rw[e]at hne;obtain⟨ad,rfl,hb,hc⟩:=h (by intro c;rw[c]at hne;simp at hne);exact⟨ad,rfl,hb,fun j hj=>by
  simp only[e]at hj⊢;rw[qH]at hj;rw[hc j oB,jD]⟩
theorem yK(s:Nat)(hs:s≤10000)(B g:Nat)(q:RSt)(w:World)(H:Rdr B g q w):Calls Try.prog 40 #[.pointer (some ⟨g,0,none⟩),.int .i64 (s:Int)] w fun e w'=>
  ∃A n c,e=.returned (.slice A n c)∧RdS B (rdB s q).1 A n c w'∧Rdr B g (rdB s q).2 w'∧j5 (fun k=>k=g) w w':=by
 obtain⟨L,f⟩:=q;have HB:=zW (zC H.base H.by_);obtain⟨A,n,c,hb,h1,h2,h3,h4,h5⟩:=H.blk;have K1:=zW hb;have RR:=zW (zC h4 h5);have NN:=zW (zC h1 (zC h2 h3));clear H hb h4 h5;replace h1:L.length=n:=h1;have n9:(n:Int)≤9223372036854775807:=by unfold maxLen at h3;omega
 have c0:w.cell? ⟨g,0,none⟩=some (.slice A n c):=K1.out.cell 0;have f1:w.frozen? ⟨g,1,none⟩=false:=K1.out.frozen 1;have f0:w.frozen? ⟨g,0,none⟩=false:=K1.out.frozen 0;have k0:w.cell? ⟨g,1,none⟩=some (.bool f):=K1.out.cell 1;by_cases hlt:n<s
 ·have hi:(n:Int)<(s:Int):=oB;have E:=zW (show rdB s (L,f)=([],(L,true))from zY (by show¬s≤L.length;omega));go_enter Try.func40,Try.ntmps40;go_wp2;go_ret;rw[E.out];refine⟨none,0,0,rfl,⟨rfl,zP _,zD _,Rd.nil,fun c=>absurd rfl c⟩,⟨HB.out.1,HB.out.2,A,n,c,K1.out.put 1 (.bool true),NN.out.1,NN.out.2.1,NN.out.2.2,RR.out.1.keptN kQ fun hne ad e c=>(by have:=RR.out.2 hne ad e;have:=HB.out.1;omega),RR.out.2⟩,kQ⟩
 ·have hi:¬(n:Int)<(s:Int):=oB;have E:=zW (show rdB s (L,f)=(L.take s,(L.drop s,f))from zL (by show s≤L.length;omega));obtain⟨D,hD⟩:∃D,D=if c=s then A else A.map (·.add s):=⟨_,rfl⟩;have HD:=zW hD;have cl:=fun w=>fU A D n c s oB h2 h3 hD w;have cu:=fun w=>fA A n c s oB w;have SX:=zW (show s≤n by omega);clear hD;go_enter Try.func40,Try.ntmps40;go_wp2;go_ret;rw[E.out];have rk:=RR.out.1.keptN (kQ (b:=g) (j:=0) (x:=.slice D (n-s) (c-s))) fun hne ad e c=>(by have:=RR.out.2 hne ad e;have:=HB.out.1;omega);refine⟨A,s,c,rfl,⟨by rw[qH];have:=SX.out;omega,by have:=SX.out;omega,h3,rk.to_take,fun hne=>RR.out.2 fun c=>hne (by rw[c];exact List.take_nil)⟩,⟨HB.out.1,fun b hb=>HB.out.2 b (List.mem_of_mem_drop hb),D,n-s,c-s,K1.out.put 0 _,by show(L.drop s).length=n-s;rw[jP,h1],by omega,by omega,rk.to_drop oB HD.out,fun hne ad e=>?_⟩,kQ⟩;have hL:L≠[]:=fun c=>hne (by rw[c];exact List.drop_nil);rw[HD.out]at e;split at e
  ·exact RR.out.2 hL ad e
  ·cases A with
   |none=>cases e
   |some a=>
    injection e with e
    rw[←e,v7]
    exact RR.out.2 hL a rfl
theorem shl_or(n b:Nat)(hn:n<2^56)(hb:b<256):bits .or .u64 ((n*256:Nat):Int) (b:Int)=((n*256+b:Nat):Int):=by
 rw[(bits_nat .u64 64 oR (fun x h0 h1=>by rw[IntKind.wrap_u64];omega) (n*256) b oB oB).2];have h:=Nat.shiftLeft_add_eq_or_of_lt (show b<2^8 by omega) n;rw[Nat.shiftLeft_eq]at h;rw[show n*256=n*2^8 from rfl,←h]
theorem aS(L:List Nat)(k:Nat)(h:k<L.length):un (L.take (k+1))=un (L.take k)*256+L[k]:=by
 rw[List.take_add_one,z8 h];exact yN _ _
theorem vV(s:Nat)(hs:s≤8)(B g:Nat)(q:RSt)(w:World)(H:Rdr B g q w):Calls Try.prog 41 #[.pointer (some ⟨g,0,none⟩),.int .i64 (s:Int)] w fun e w'=>
  e=.returned (.int .u64 ((j4 s q).1:Int))∧(j4 s q).1<256^s∧Rdr B g (j4 s q).2 w'∧j5 (fun k=>k=g) w w':=by
 have HH:=zW H;have BY:=zW (vF s q H.by_).1;have LN:=zW (rS s q);have E:=zW (show(j4 s q).1=un (rdB s q).1∧(j4 s q).2=(rdB s q).2 from⟨rfl,rfl⟩);have BA:=zW (yK s oB B g q w H);have S8:=zW hs;clear H hs;generalize (j4 s q).1=x at E⊢;generalize (j4 s q).2=q2 at E⊢;generalize (rdB s q).1=M at BY LN E BA;generalize (rdB s q).2=q3 at E BA;obtain rfl:q2=q3:=E.out.2;have UL:=zW (show x<256^s from by
  rw[E.out.1];exact zG (dJ M BY.out) (Nat.pow_le_pow_right oR LN.out))
 go_enter Try.func41,Try.ntmps41;go_wp2_with fail;refine BA.out.mono ?_;rintro e w2 ⟨A,n,c,rfl,hr,hq,hk⟩;have RS:=zW hr;have RQ:=zW (zC hq hk);have NL:=zW hr.len;have n8:n≤8:=by have:=NL.out;have:=LN.out;have:=S8.out;omega
 clear hr hq hk BA;go_wp2_with fail;go_loopw [5,12] (fun v i wr=>∃k:Nat,k≤n∧v=.int .u64 ((un (M.take k):Nat):Int)∧i=.int .i64 (k:Int)∧wr=w2) (fun _ i _=>n-(intOf i).toNat)
 case atStart=>exact⟨0,zD _,rfl,rfl,rfl⟩
 case round=>
  obtain⟨k,hk,rfl,rfl,rfl⟩:=hrel
  by_cases hlt:k<n
  ·have JX:=zW hlt
   have ki:(k:Int)<(n:Int):=oB
   have hl:k<M.length:=by have:=NL.out;omega
   have UT:=zW (aS M k hl)
   have um:un (M.take k)<2^56:=by
    refine zG (dJ (M.take k) fun b hb=>BY.out b (List.mem_of_mem_take hb)) ?_;rw[qH];exact zT (Nat.pow_le_pow_right oR (show min k M.length≤7 by omega)) oR
   have bb:=BY.out _ (jV hl)
   obtain⟨ad,e,hlt2,hc⟩:=RS.out.rd.at_ (k:=k) (by rw[lG];exact hl)
   subst e
   have cq:wr.cell? (ad.add k)=some (.int .u8 ((M[k]:Nat):Int)):=by
    rw[hc];unfold toI;rw[List.getElem_map]
   clear hc hlt2
   generalize M[k]=b at UT bb cq
   generalize un (M.take k)=m at UT um⊢
   have OR:=shl_or m b um bb
   have e1:IntKind.u64.wrap ((m:Int)*256)=((m*256:Nat):Int):=by rw[IntKind.wrap_u64];omega
   have e2:IntKind.u64.wrap (b:Int)=(b:Int):=by rw[IntKind.wrap_u64];omega
   obtain⟨d,hd⟩:∃d,m*256=d:=⟨_,rfl⟩
   have UT:=zW (show un (M.take (k+1))=d+b from by rw[UT.out,hd])
   rw[hd]at OR e1
   clear hd
   go_wp2
   refine⟨⟨k+1,JX.out,by rw[UT.out];go_num,by go_num,by trivial⟩,by have:=JX.out;simp[intOf];omega⟩
  ·obtain rfl:k=n:=by omega
   have e:un (M.take k)=x:=by rw[E.out.1,←NL.out,List.take_length]
   rw[e]
   go_wp2
   go_ret
   exact⟨rfl,UL.out,RQ.out.1,RQ.out.2⟩
def nQ(q:RSt):BitVec 128×RSt:=(BitVec.ofNat 64 (j4 8 q).1++BitVec.ofNat 64 (j4 8 (j4 8 q).2).1,(j4 8 (j4 8 q).2).2)
def j7(q:RSt):Nat→Pl×RSt
 |0=>(fun _=>0#128,q)
 |k+1=>(nI (j7 q k).1 k (nQ (j7 q k).2).1,(nQ (j7 q k).2).2)
theorem j5.cellN{O:Nat→Prop}{g j:Nat}{x:Value}{u w:World}(h:j5 O u w)(hg:u.heap.size≤g):j5 O u (w.setCell ⟨g,j,none⟩ x):=
 h.trans (kQ (b:=g)) fun k e=> .inr (by rw[e];exact hg)
theorem j5.rowN{O:Nat→Prop}{g:Nat}{cs:Array Value}{u w:World}(h:j5 O u w)(hg:u.heap.size≤g):j5 O u (w.setRow g cs):=
 h.trans (m7 (b:=g)) fun k e=> .inr (by rw[e];exact hg)
theorem j5.more{O:Nat→Prop}{u w w':World}(h:j5 O u w)(hb:Below w.heap.size w w'):j5 O u w':=h.trans (O':=O) (j5.of_below hb) uP.refl
theorem j5.then_{O:Nat→Prop}{u w w':World}(h:j5 O u w)(k:j5 O w w'):j5 O u w':=h.trans k uP.refl
theorem Rdr.cellN{B g g2 j:Nat}{q:RSt}{w:World}{x:Value}(h:Rdr B g q w)(hn:g≠g2)(hb:B≤g2):Rdr B g q (w.setCell ⟨g2,j,none⟩ x):=h.kept kQ (by exact hn) fun k e=>by rw[e];exact hb
theorem Rdr.rowN{B g g2:Nat}{q:RSt}{w:World}{cs:Array Value}(h:Rdr B g q w)(hn:g≠g2)(hb:B≤g2):Rdr B g q (w.setRow g2 cs):=h.kept m7 (by exact hn) fun k e=>by rw[e];exact hb
theorem Blk.kept{O:Nat→Prop}{g:Nat}{T:TypeId}{cs:Array Value}{w w':World}(h:Blk g T cs w)(k:j5 O w w')(hn:¬O g):Blk g T cs w':=(k.block g h.lt hn).trans h
theorem rF(B g:Nat)(q:RSt)(w:World)(H:Rdr B g q w):Calls Try.prog 44 #[.func (.func 41) #[.pointer (some ⟨g,0,none⟩)] #[]] w fun e w'=>
  e=.returned (.agg (j0 (j7 q 64).1))∧Rdr B g (j7 q 64).2 w'∧j5 (fun k=>k=g) w w':=by
 have GB:=zW (zC H.base H.lt);have HH:=zW H;clear H;go_enter Try.func44,Try.ntmps44;go_upto_region 0 with fail;refine zN ?_;refine zI rfl fun K hK=>lW sI rfl (hK _ _ ?_);clear hK K;simp only[Act.put,zQ,zZ,zJ];have R2:=zW (Blk.new w 45 (j0 fun _=>0#128));have ba:=jI w (.cells (j0 fun _=>0#128) 45);have KK:=zW (j5.of_below (O:=fun k=>k=g) ba);have HH:=zW (HH.out.step ba);have G2:=zW (show w.heap.size≤w.heap.size from zP _);clear ba;obtain⟨n0,hn0⟩:∃n,w.heap.size=n:=⟨_,rfl⟩;have NE:=zW hn0;obtain⟨g2,hg2⟩:∃g,w.heap.size=g:=⟨_,rfl⟩;rw[hg2]at R2⊢;have G2:=zW (show w.heap.size≤g2 from jK hg2);clear hg2 hn0;generalize World.alloc w _=w1 at R2 KK HH⊢;go_upto_region 1 with fail;refine zN ?_;refine zI rfl fun K hK=>lW sI rfl (hK _ _ ?_);clear hK K;simp only[Act.put,zQ,zZ,zJ];have R3:=zW (Blk.new w1 45 (j0 fun _=>0#128));have ba:=jI w1 (.cells (j0 fun _=>0#128) 45);have G3:=zW (show w.heap.size≤w1.heap.size∧g2≠w1.heap.size from⟨KK.out.size,by have:=R2.out.lt;omega⟩);have KK:=zW (KK.out.more ba);have HH:=zW (HH.out.step ba);have R2:=zW (R2.out.step ba);clear ba;generalize w1.heap.size=g3 at R3 G3⊢;generalize World.alloc w1 _=w2 at R2 R3 KK HH⊢;go_wp2_with fail;go_loopw [5] (fun i wr=>∃k:Nat,k≤64∧i=.int .i64 (k:Int)∧Blk g2 45 (j0 fun _=>0#128) wr∧Blk g3 45 (j0 (j7 q k).1) wr∧Rdr B g (j7 q k).2 wr∧j5 (fun k=>k=g) w wr) (fun i _=>64-(intOf i).toNat)
 case atStart=>exact⟨0,zD _,rfl,R2.out,R3.out,HH.out,KK.out⟩
 case round=>
  clear R2 R3 HH KK
  obtain⟨k,hk,rfl,r2,r3,hh,kk⟩:=hrel
  have R2:=zW r2
  have R3:=zW r3
  have HH:=zW hh
  have KK:=zW kk
  clear r2 r3 hh kk
  have NG:=zW (show g≠g2∧g≠g3∧B≤g3∧g2≠g3 from⟨by have:=GB.out;have:=G2.out;omega,by have:=GB.out;have:=G3.out;omega,by have:=GB.out;have:=G3.out;omega,G3.out.2⟩)
  by_cases hlt:k<64
  ·have JX:=zW hlt
   have ki:(k:Int)<64:=oB
   have RE:=zW (show j7 q (k+1)=(nI (j7 q k).1 k (nQ (j7 q k).2).1,(nQ (j7 q k).2).2)from rfl)
   obtain⟨qa,hqa⟩:∃x,(j7 q k).2=x:=⟨_,rfl⟩
   obtain⟨P,hP⟩:∃x,(j7 q k).1=x:=⟨_,rfl⟩
   rw[hqa]at HH RE
   rw[hP]at R3 RE
   clear hqa hP
   have DE:=zW (show nQ qa=(BitVec.ofNat 64 (j4 8 qa).1++BitVec.ofNat 64 (j4 8 (j4 8 qa).2).1,(j4 8 (j4 8 qa).2).2)from rfl)
   have N1:=zW (fun w (h:Rdr B g qa w)=>vV 8 (zP _) B g qa w h)
   have N2:=zW (fun w (h:Rdr B g (j4 8 qa).2 w)=>vV 8 (zP _) B g (j4 8 qa).2 w h)
   generalize (j4 8 qa).1=h at N1 DE
   generalize (j4 8 qa).2=qb at N1 N2 DE
   generalize (j4 8 qb).1=l at N2 DE
   generalize (j4 8 qb).2=qc at N2 DE
   rw[DE.out]at RE
   clear DE
   go_wp2_with fail
   refine(N1.out wr HH.out).mono ?_
   rintro e w3 ⟨rfl,lh,hq,hk⟩
   have R2:=zW (R2.out.kept hk (fun e=>NG.out.1 e.symm))
   have R3:=zW (R3.out.kept hk (fun e=>NG.out.2.1 e.symm))
   have KK:=zW (KK.out.then_ hk)
   have HH:=zW hq
   have LH:=zW lh
   clear hq hk lh N1
   have f1:=R3.out.frozen (k*2)
   have c1:w3.cell? ⟨g3,k*2,none⟩=some (.int .u64 (lQ P (k*2))):=(R3.out.cell (k*2)).trans (kE P _ oB)
   go_wp2_with fail
   clear f1 c1
   have R3:=zW (R3.out.put (k*2) (.int .u64 (h:Int)))
   have R2:=zW (R2.out.other NG.out.2.2.2 (k*2) (.int .u64 (h:Int)))
   have HH:=zW (HH.out.cellN (j:=k*2) (x:=.int .u64 (h:Int)) NG.out.2.1 NG.out.2.2.1)
   have KK:=zW (KK.out.cellN (j:=k*2) (x:=.int .u64 (h:Int)) G3.out.1)
   generalize World.setCell w3 _ _=w4 at R2 R3 HH KK⊢
   refine(N2.out w4 HH.out).mono ?_
   rintro e w5 ⟨rfl,ll,hq,hk⟩
   have R2:=zW (R2.out.kept hk (fun e=>NG.out.1 e.symm))
   have R3:=zW (R3.out.kept hk (fun e=>NG.out.2.1 e.symm))
   have KK:=zW (KK.out.then_ hk)
   have HH:=zW hq
   have LL:=zW ll
   clear hq hk ll N2
   have f1:=R3.out.frozen (k*2+1)
   have c1:w5.cell? ⟨g3,k*2+1,none⟩=some (.int .u64 (lQ P (k*2+1))):=by
    rw[R3.out.cell,Array.getElem?_setIfInBounds_ne oB];exact kE P _ oB
   go_wp2_with fail
   clear f1 c1
   have R3:=zW (show Blk g3 45 (j0 (j7 q (k+1)).1) _ from(R3.out.put (k*2+1) (.int .u64 (l:Int))).eq (by
    rw[RE.out];have e:=uJ P k (BitVec.ofNat 64 h) (BitVec.ofNat 64 l) JX.out;rw[BitVec.toNat_ofNat,BitVec.toNat_ofNat,qR LH.out,qR LL.out,Nat.mul_comm 2 k]at e;exact e))
   have R2:=zW (R2.out.other NG.out.2.2.2 (k*2+1) (.int .u64 (l:Int)))
   have HH:=zW (show Rdr B g (j7 q (k+1)).2 _ from by rw[RE.out];exact HH.out.cellN (j:=k*2+1) (x:=.int .u64 (l:Int)) NG.out.2.1 NG.out.2.2.1)
   have KK:=zW (KK.out.cellN (j:=k*2+1) (x:=.int .u64 (l:Int)) G3.out.1)
   clear RE
   generalize World.setCell w5 _ _=w6 at R2 R3 HH KK⊢
   go_roundw
   case rel=>exact⟨k+1,JX.out,by go_num,R2.out,R3.out,HH.out,KK.out⟩
   case measure=>have:=JX.out;simp[intOf];omega
  ·obtain rfl:k=64:=by omega
   have ki:¬((64:Nat):Int)<64:=oB
   go_upto_region 8 with fail
   refine zN ?_
   refine j3 xM R3.out (j1 _) rfl (.tmp 3) rfl rfl ?_
   simp only[Act.put,zQ,zZ,zJ]
   refine kX (ds:=j0 (j7 q 64).1) xM R2.out (j1 _) (j1 _) (cM _) rfl (.tmp 2) (.tmp 21) rfl rfl rfl ?_
   have RE:=R2.out.store (j0 (j7 q 64).1)
   have HE:=HH.out.rowN (cs:=j0 (j7 q 64).1) NG.out.1 oC
   have KE:=KK.out.rowN (cs:=j0 (j7 q 64).1) G2.out
   generalize World.setRow wr _ _=we at RE HE KE⊢
   go_wp2_with fail
   exact qU (qF rfl _ _ g2 _ _ _ _ rfl RE Try.underlying45 rfl (by rw[xM.i,j1])) rfl ⟨rfl,HE,KE⟩
def lX(m:Nat)(q:RSt):Nat→(Nat→Pl)×RSt
 |0=>(fun _ _=>0#128,q)
 |k+1=>if m.testBit k=true then(fun i=>if i=k then(j7 (lX m q k).2 64).1 else(lX m q k).1 i,(j7 (lX m q k).2 64).2)else lX m q k
def vH(L:List Nat)(j:Nat):Int:=if j<L.length then((L.getD j 0:Nat):Int)else 0
structure RdX where
 x:jO
 n:Nat
 m:Nat
 q:RSt
def rdX(q:RSt):RdX:=
 let a1:=j4 1 q
 let a2:=j4 1 a1.2
 let b3:=rdB 16 a2.2
 let a4:=j4 1 b3.2
 let a5:=j4 1 a4.2
 let a6:=j4 2 a5.2
 let a7:=j4 8 a6.2
 let a8:=j4 1 a7.2
 let p:=lX a8.1 a8.2 4
 ⟨⟨p.1,a1.1.testBit 0,a1.1.testBit 1,vH b3.1,a2.1,a4.1,a5.1,a6.1,IntKind.i64.wrap a7.1⟩,a1.1,a8.1,p.2⟩
def okX(t:RdX):Bool:=decide (t.n=b2n t.x.hi+2*b2n t.x.so)&&(decide (t.m=lK t.x)&&j9 t.x)
def vN(q:RSt):RSt:=((rdX q).q.1,(rdX q).q.2|| !okX (rdX q))
theorem rP{s:Nat}{M N:List Nat}{f:Bool}(h:M.length=s):rdB s (M++N,f)=(M,(N,f)):=by
 unfold rdB;have e:s≤(M++N).length:=by rw[zM];omega
 rw[zL e,List.take_left' h,List.drop_left' h]
theorem m4{s n:Nat}{N:List Nat}{f:Bool}(h:n<256^s):j4 s (nb s n++N,f)=(n,(N,f)):=by
 unfold j4;rw[rP (kL s n),oY s n h]
theorem nC{b:Nat}{N:List Nat}{f:Bool}(h:b<256):j4 1 (b::N,f)=(b,(N,f)):=by
 have e:nb 1 b=[b]:=by show[]++[b%256]=_;rw[qR h];rfl
 have:=m4 (s:=1) (n:=b) (N:=N) (f:=f) (by rw[Nat.pow_one];exact h);rw[e]at this;exact this
theorem tB{s:Nat}{q:RSt}(h:(rdB s q).2.2=false):q.2=false∧s≤q.1.length∧q.1=(rdB s q).1++(rdB s q).2.1∧(rdB s q).1.length=s:=by
 unfold rdB at h⊢;by_cases e:s≤q.1.length
 ·rw[zL e]at h⊢;exact⟨h,e,(List.take_append_drop s q.1).symm,by simp[e]⟩
 ·rw[zY e]at h;cases h
theorem lV{s:Nat}{q:RSt}(hb:∀b∈q.1,b<256)(h:(j4 s q).2.2=false):q.2=false∧q.1=nb s (j4 s q).1++(j4 s q).2.1∧(j4 s q).1<256^s:=by
 obtain⟨h1,h2,h3,h4⟩:=tB (s:=s) (q:=q) h;have hy:=(vF s q hb).1;have e:=nb_un _ hy;rw[h4]at e;have ul:=dJ _ hy;rw[h4]at ul;refine⟨h1,?_,ul⟩;show q.1=nb s (un (rdB s q).1)++(rdB s q).2.1;rw[e];exact h3
theorem kH(s:Nat)(q:RSt)(h:∀b∈q.1,b<256):∀b∈(j4 s q).2.1,b<256:=(vF s q h).2
theorem vD(q:RSt)(k:Nat):j7 q (k+1)=(nI (j7 q k).1 k (nQ (j7 q k).2).1,(nQ (j7 q k).2).2):=rfl
theorem uZ(q:RSt):nQ q=(BitVec.ofNat 64 (j4 8 q).1++BitVec.ofNat 64 (j4 8 (j4 8 q).2).1,(j4 8 (j4 8 q).2).2):=rfl
theorem cU{m k:Nat}{q:RSt}(h:m.testBit k=true):lX m q (k+1)=(fun i=>if i=k then(j7 (lX m q k).2 64).1 else(lX m q k).1 i,(j7 (lX m q k).2 64).2):=by rw[lX,zL h]
theorem cI{m k:Nat}{q:RSt}(h:¬m.testBit k=true):lX m q (k+1)=lX m q k:=by rw[lX,zY h]
theorem pR(q:RSt)(h:∀b∈q.1,b<256):∀b∈(nQ q).2.1,b<256:=by
 rw[uZ];exact kH 8 _ (kH 8 _ h)
theorem wR(q:RSt)(h:∀b∈q.1,b<256)(k:Nat):∀b∈(j7 q k).2.1,b<256:=by
 induction k with
 |zero=>exact h
 |succ k ih=>
  rw[vD]
  exact pR _ ih
theorem dH(m:Nat)(q:RSt)(h:∀b∈q.1,b<256)(k:Nat):∀b∈(lX m q k).2.1,b<256:=by
 induction k with
 |zero=>exact h
 |succ k ih=>
  by_cases hm:m.testBit k=true
  ·rw[cU hm]
   have h2:=wR (lX m q k).2 ih 64
   generalize j7 (lX m q k).2 64=p at h2⊢
   exact h2
  ·rw[cI hm]
   exact ih
theorem fT(a b:Nat)(ha:a<256^8)(hb:b<256^8):nb 16 (BitVec.ofNat 64 a++BitVec.ofNat 64 b).toNat=nb 8 a++nb 8 b:=by
 have e:(256:Nat)^8=2^64:=oR;rw[e]at ha hb;rw[bV,m8,m6,BitVec.toNat_ofNat,BitVec.toNat_ofNat,qR ha,qR hb]
theorem cV(P:Pl)(k:Nat):lC P (k+1)=lC P k++nb 16 (P k).toNat:=by rw[cK,zB,←bV]
theorem tY{P Q:Pl}(k:Nat):(∀y,y<k→P y=Q y)→lC P k=lC Q k:=by
 induction k with
 |zero=>exact fun _=>by unfold lC;rw[List.range_zero,List.flatMap_nil,List.flatMap_nil]
 |succ k ih=>
  intro h
  rw[cV,cV,ih fun y hy=>h y oB,h k oB]
theorem eW(P:Pl)(k:Nat)(r:BitVec 128):lC (nI P k r) (k+1)=lC P k++nb 16 r.toNat:=by
 rw[cV,mR,tY k fun y hy=>nE P k y r oB]
theorem gI(q:RSt)(hb:∀b∈q.1,b<256)(h:(nQ q).2.2=false):q.2=false∧q.1=nb 16 (nQ q).1.toNat++(nQ q).2.1:=by
 rw[uZ]at h⊢;have by2:=kH 8 _ hb;obtain⟨a1,a2,a3⟩:=lV (s:=8) by2 h;obtain⟨b1,b2,b3⟩:=lV (s:=8) hb a1;refine⟨b1,?_⟩;show q.1=nb 16 (BitVec.ofNat 64 (j4 8 q).1++BitVec.ofNat 64 (j4 8 (j4 8 q).2).1).toNat++(j4 8 (j4 8 q).2).2.1;rw[fT _ _ b3 a3,zB,←a2,←b2]
theorem tG(q:RSt)(hb:∀b∈q.1,b<256)(k:Nat):(j7 q k).2.2=false→q.2=false∧q.1=lC (j7 q k).1 k++(j7 q k).2.1:=by
 induction k with
 |zero=>exact fun h=>⟨h,rfl⟩
 |succ k ih=>
  intro h
  rw[vD]at h⊢
  obtain⟨b1,b2⟩:=gI _ (wR q hb k) h
  obtain⟨c1,c2⟩:=ih b1
  refine⟨c1,?_⟩
  show q.1=lC (nI (j7 q k).1 k (nQ (j7 q k).2).1) (k+1)++(nQ (j7 q k).2).2.1
  rw[eW,zB,←b2,←c2]
theorem eD(r:BitVec 128)(R:List Nat)(f:Bool):nQ (nb 8 (hi r).toNat++(nb 8 (lo r).toNat++R),f)=(r,(R,f)):=by
 have e8:(256:Nat)^8=2^64:=oR;rw[uZ,m4 (by rw[e8];exact(hi r).isLt),m4 (by rw[e8];exact(lo r).isLt)];refine Prod.ext ?_ rfl;show BitVec.ofNat 64 (hi r).toNat++BitVec.ofNat 64 (lo r).toNat=r;rw[BitVec.ofNat_toNat,BitVec.ofNat_toNat,BitVec.setWidth_eq,BitVec.setWidth_eq,t5]
theorem gA(P:Pl)(f:Bool)(k:Nat):∀R,j7 (lC P k++R,f) k=((fun y=>if y<k then P y else 0#128),(R,f)):=by
 induction k with
 |zero=>
  intro R
  show((fun _=>0#128),(([]:List Nat)++R,f))=_
  simp
 |succ k ih=>
  intro R
  have e:lC P (k+1)++R=lC P k++(nb 8 (hi (P k)).toNat++(nb 8 (lo (P k)).toNat++R)):=by rw[cK];simp only[zB]
  rw[e,vD,ih,eD]
  refine Prod.ext ?_ rfl
  funext y
  show nI (fun y=>if y<k then P y else 0#128) k (P k) y=if y<k+1 then P y else 0#128
  unfold nI
  by_cases h:y=k
  ·subst h
   rw[zL rfl,zL oB]
  ·rw[zY h]
   show(if y<k then P y else 0#128)=_
   by_cases h2:y<k
   ·rw[zL h2,zL oB]
   ·rw[zY h2,zY oB]
theorem gU(P:Pl)(f:Bool)(R:List Nat):j7 (plB P++R,f) 64=((fun y=>if y<64 then P y else 0#128),(R,f)):=gA P f 64 R
def mkB(m:Nat)(P:Nat→Pl)(k:Nat):List Nat:=(List.range k).flatMap fun i=>if m.testBit i=true then plB (P i)else[]
theorem nK(m:Nat)(P:Nat→Pl)(k:Nat):mkB m P (k+1)=mkB m P k++(if m.testBit k=true then plB (P k)else[]):=by
 unfold mkB;rw[List.range_succ,List.flatMap_append];congr 1
 rw[List.flatMap_cons,List.flatMap_nil,z5]
theorem sQ(m:Nat){P Q:Nat→Pl}(k:Nat):(∀i,i<k→P i=Q i)→mkB m P k=mkB m Q k:=by
 induction k with
 |zero=>exact fun _=>by unfold mkB;rw[List.range_zero,List.flatMap_nil,List.flatMap_nil]
 |succ k ih=>
  intro h
  rw[nK,nK,ih fun i hi=>h i oB,h k oB]
theorem eF(m:Nat)(q:RSt)(hb:∀b∈q.1,b<256)(k:Nat):(lX m q k).2.2=false→q.2=false∧q.1=mkB m (lX m q k).1 k++(lX m q k).2.1∧∀i,(¬m.testBit i=true∨k≤i)→(lX m q k).1 i=fun _=>0#128:=by
 induction k with
 |zero=>exact fun h=>⟨h,rfl,fun _ _=>rfl⟩
 |succ k ih=>
  intro h
  by_cases hm:m.testBit k=true
  ·rw[cU hm]at h⊢
   have by1:=dH m q hb k
   have hf:=tG (lX m q k).2 by1 64
   generalize j7 (lX m q k).2 64=p at h hf⊢
   obtain⟨b1,b2⟩:=hf h
   obtain⟨c1,c2,c3⟩:=ih b1
   refine⟨c1,?_,fun i hi=>?_⟩
   ·show q.1=mkB m (fun i=>if i=k then p.1 else(lX m q k).1 i) (k+1)++p.2.1
    rw[nK,zL hm,zL rfl,zB,sQ m (Q:=(lX m q k).1) k fun i hi=>zY oB]
    rw[c2,b2]
    rfl
   ·show(if i=k then p.1 else(lX m q k).1 i)=_
    by_cases e:i=k
    ·subst e
     rcases hi with hi|hi
     ·exact absurd hm hi
     ·omega
    ·rw[zY e]
     exact c3 i (hi.imp id fun x=>by omega)
  ·rw[cI hm]at h⊢
   obtain⟨c1,c2,c3⟩:=ih h
   refine⟨c1,?_,fun i hi=>c3 i ?_⟩
   ·rw[nK,zY hm,z5]
    exact c2
   ·rcases hi with hi|hi
    ·exact .inl hi
    ·exact .inr oB
theorem pT(m:Nat)(P:Nat→Pl)(f:Bool)(k:Nat):∀R,lX m (mkB m P k++R,f) k=((fun i=>if i<k∧m.testBit i=true then(fun y=>if y<64 then P i y else 0#128)else fun _=>0#128),(R,f)):=by
 induction k with
 |zero=>
  intro R
  show((fun _ _=>0#128),(([]:List Nat)++R,f))=_
  simp
 |succ k ih=>
  intro R
  by_cases hm:m.testBit k=true
  ·rw[cU hm,nK,zL hm,zB,ih]
   simp only[]
   rw[gU]
   refine Prod.ext ?_ rfl
   funext i
   show(if i=k then(fun y=>if y<64 then P k y else 0#128)else if i<k∧m.testBit i=true then(fun y=>if y<64 then P i y else 0#128)else fun _=>0#128)=if i<k+1∧m.testBit i=true then(fun y=>if y<64 then P i y else 0#128)else fun _=>0#128
   by_cases e:i=k
   ·subst e
    rw[zL rfl,zL ⟨by omega,hm⟩]
   ·rw[zY e]
    by_cases h2:i<k∧m.testBit i=true
    ·rw[zL h2,zL ⟨by omega,h2.2⟩]
    ·rw[zY h2,zY fun c=>h2 ⟨by omega,c.2⟩]
  ·rw[cI hm,nK,zY hm,z5,ih]
   refine Prod.ext ?_ rfl
   funext i
   show(if i<k∧m.testBit i=true then(fun y=>if y<64 then P i y else 0#128)else fun _=>0#128)=if i<k+1∧m.testBit i=true then(fun y=>if y<64 then P i y else 0#128)else fun _=>0#128
   by_cases h2:i<k∧m.testBit i=true
   ·rw[zL h2,zL ⟨by omega,h2.2⟩]
   ·rw[zY h2,zY fun c=>h2 ⟨by
     by_cases e:i=k
     ·subst e;exact absurd c.2 hm
     ·omega,c.2⟩]
theorem gC{q q1 q2 q3 q4 q5 q6 q7 q8 q9:RSt}{n1 n2 n4 n5 n6 n7 n8:Nat}{M3:List Nat}{P:Nat→Pl}(e1:j4 1 q=(n1,q1))(e2:j4 1 q1=(n2,q2))(e3:rdB 16 q2=(M3,q3))(e4:j4 1 q3=(n4,q4))(e5:j4 1 q4=(n5,q5))(e6:j4 2 q5=(n6,q6))(e7:j4 8 q6=(n7,q7))(e8:j4 1 q7=(n8,q8))(ep:lX n8 q8 4=(P,q9)):
  rdX q=⟨⟨P,n1.testBit 0,n1.testBit 1,vH M3,n2,n4,n5,n6,IntKind.i64.wrap n7⟩,n1,n8,q9⟩:=by
 unfold rdX;simp only[e1,e2,e3,e4,e5,e6,e7,e8,ep]
theorem uV{b:Nat}(h:b<256):nb 1 b=[b]:=by show[]++[b%256]=_;rw[qR h];rfl
theorem fQ{M:List Nat}(h:M.length=16):(List.range 16).map (fun j=>(vH M j).toNat)=M:=by
 refine qC fun j=>?_;rw[qJ];by_cases hj:j<16
 ·rw[List.getElem?_range hj,z8 oB];unfold vH;simp only[Option.map_some];rw[zL oB];simp[show j<M.length by omega]
 ·rw[z3 oA,z3 oB];rfl
theorem r9(r:jO){k:Nat}(hk:k<4):(lK r).testBit k=!kJ (r.P k):=by
 unfold lK;rcases(show k=0∨k=1∨k=2∨k=3 by omega)with rfl|rfl|rfl|rfl
 all_goals cases kJ (r.P 0)<;>cases kJ (r.P 1)<;>cases kJ (r.P 2)<;>cases kJ (r.P 3)<;>rfl
theorem dZ(r:jO):lK r<16:=by
 unfold lK;cases kJ (r.P 0)<;>cases kJ (r.P 1)<;>cases kJ (r.P 2)<;>cases kJ (r.P 3)<;>decide
theorem tA(r:jO)(k:Nat):k≤4→mkB (lK r) r.P k=lT r k:=by
 induction k with
 |zero=>exact fun _=>by unfold mkB lT;rw[List.range_zero,List.flatMap_nil,List.flatMap_nil]
 |succ k ih=>
  intro h
  rw[nK,mM,ih oB,r9 r oB]
  congr 1
  unfold plK
  cases kJ (r.P k)<;>rfl
theorem bI(a b:Bool):b2n a+2*b2n b<256:=by cases a<;>cases b<;>decide
theorem aW(a b:Bool):(b2n a+2*b2n b).testBit 0=a:=by cases a<;>cases b<;>rfl
theorem aV(a b:Bool):(b2n a+2*b2n b).testBit 1=b:=by cases a<;>cases b<;>rfl
theorem iQ(q:RSt)(hb:∀b∈q.1,b<256)(h:(vN q).2=false):q.2=false∧q.1=kS (rdX q).x++(vN q).1∧j9 (rdX q).x=true∧OkI (rdX q).x:=by
 unfold vN at h⊢;rcases e1:j4 1 q with⟨n1,q1⟩;rcases e2:j4 1 q1 with⟨n2,q2⟩;rcases e3:rdB 16 q2 with⟨M3,q3⟩;rcases e4:j4 1 q3 with⟨n4,q4⟩;rcases e5:j4 1 q4 with⟨n5,q5⟩;rcases e6:j4 2 q5 with⟨n6,q6⟩;rcases e7:j4 8 q6 with⟨n7,q7⟩;rcases e8:j4 1 q7 with⟨n8,q8⟩;rcases ep:lX n8 q8 4 with⟨P,q9⟩;have by1:=kH 1 q hb;rw[e1]at by1;have by2:=kH 1 q1 by1;rw[e2]at by2;have by3:=vF 16 q2 by2;rw[e3]at by3;have by4:=kH 1 q3 by3.2;rw[e4]at by4;have by5:=kH 1 q4 by4;rw[e5]at by5;have by6:=kH 2 q5 by5;rw[e6]at by6;have by7:=kH 8 q6 by6;rw[e7]at by7;have by8:=kH 1 q7 by7;rw[e8]at by8;have f9:=eF n8 q8 by8 4;have f8:=lV (s:=1) by7;have f7:=lV (s:=8) by6;have f6:=lV (s:=2) by5;have f5:=lV (s:=1) by4;have f4:=lV (s:=1) by3.2;have f3:=tB (s:=16) (q:=q2);have f2:=lV (s:=1) by1;have f1:=lV (s:=1) hb;rw[ep]at f9;rw[e8]at f8;rw[e7]at f7;rw[e6]at f6;rw[e5]at f5;rw[e4]at f4;rw[e3]at f3;rw[e2]at f2;rw[e1]at f1;rw[gC e1 e2 e3 e4 e5 e6 e7 e8 ep]at h⊢;obtain⟨x,hx⟩:∃x:jO,(⟨P,n1.testBit 0,n1.testBit 1,vH M3,n2,n4,n5,n6,IntKind.i64.wrap n7⟩:jO)=x:=⟨_,rfl⟩;rw[hx]at h⊢;simp only[Bool.or_eq_false_iff,Bool.not_eq_false']at h;obtain⟨h9,hok⟩:=h;obtain⟨g8,c9,_⟩:=f9 h9;obtain⟨g7,c8,l8⟩:=f8 g8;obtain⟨g6,c7,l7⟩:=f7 g7;obtain⟨g5,c6,l6⟩:=f6 g6;obtain⟨g4,c5,l5⟩:=f5 g5;obtain⟨g3,c4,l4⟩:=f4 g4;obtain⟨g2,_,c3,l3⟩:=f3 g3;obtain⟨g1,c2,l2⟩:=f2 g2;obtain⟨g0,c1,l1⟩:=f1 g1;simp only[Nat.pow_one]at l1 l2 l4 l5 l8;simp only at c1 c2 c3 c4 c5 c6 c7 c8 c9 l6 l7 l3;unfold okX at hok;simp only[zR,zE]at hok;obtain⟨k1,k2,k3⟩:=hok;have hst:stR x=true:=by
  unfold j9 at k3;rw[zR]at k3;exact k3.2
 have xpt:x.pt=(n2:Int):=o4;have xk:x.k=(n4:Int):=o4;have xc:x.c=(n5:Int):=o4;have xp:x.p=(n6:Int):=o4;have xy:x.y=IntKind.i64.wrap n7:=o4;have xpat:x.pat=vH M3:=o4;have xP:x.P=P:=o4;have e8':(256:Nat)^8=18446744073709551616:=oR;rw[e8']at l7;have hy:0≤x.y∧x.y≤4611686018427387904:=by
  unfold stR at hst;simp only[zR,zE]at hst;obtain⟨⟨⟨_,_,_,_,h5,h6⟩,_⟩,_⟩:=hst;exact⟨h5,h6⟩
 have ey:x.y=(n7:Int):=by
  rw[xy,zS]at hy;rw[xy,zS];omega
 refine⟨g0,?_,k3,⟨⟨fun j hj=>?_,?_⟩,?_⟩⟩
 ·rw[c1,c2,c3,c4,c5,c6,c7,c8,c9];rw[uV l1,uV l2,uV l4,uV l5,uV l8];unfold kS yJ;rw[←vX,←tA x 4 (zP _),xpat,fQ l3,xpt,xk,xc,xp,ey,←k1,←k2,xP];simp only[zB,Int.toNat_natCast,List.cons_append,List.nil_append]
 ·rw[xpat];unfold vH;rw[zL oB];have hb2:=by3.1;have:M3.getD j 0<256:=by
   have hj3:j<M3.length:=oB;rw[show M3.getD j 0=M3[j]from by simp[hj3]];exact hb2 _ (jV hj3)
  omega
 ·rw[xpt];omega
 ·show yM x.y;unfold yM;omega
theorem vW{A B:Pl}(h:∀y,y<64→A y=B y):kJ A=kJ B:=by
 rw[Bool.eq_iff_iff,nX,nX];exact⟨fun a y hy=>by rw[←h y hy];exact a y hy,fun a y hy=>by rw[h y hy];exact a y hy⟩
theorem vU.used{r q:jO}(h:vU r q):lK r=lK q:=by
 unfold lK;rw[vW (h.P 0 oR),vW (h.P 1 oR),vW (h.P 2 oR),vW (h.P 3 oR)]
theorem vQ{A B:Pl}(h:∀y,y<64→A y=B y):nL A=nL B:=by
 rw[Bool.eq_iff_iff,mL,mL];unfold xK;exact⟨fun a y hy=>by rw[←h y hy];exact a y hy,fun a y hy=>by rw[h y hy];exact a y hy⟩
theorem vU.valid{r q:jO}(h:vU r q):j9 r=j9 q:=by
 have e:∀r,j9 r=((r.hi||(List.range 4).all fun i=>nL (r.P i))&&stB r.k r.c r.p r.y):=fun _=>rfl;rw[e,e,h.hi,h.k,h.c,h.p,h.y];congr 2
 rw[show List.range 4=[0,1,2,3]from rfl]
 simp only[List.all_cons,List.all_nil];rw[vQ (h.P 0 oR),vQ (h.P 1 oR),vQ (h.P 2 oR),vQ (h.P 3 oR)]
theorem rd_yes(r:jO)(hr:OkE r)(hv:j9 r=true)(R:List Nat)(f:Bool):vU (rdX (kS r++R,f)).x r∧vN (kS r++R,f)=(R,f):=by
 obtain⟨pt,hpt⟩:∃x:Nat,r.pt=(x:Int):=⟨r.pt.toNat,by have:=hr.n.pt;omega⟩;obtain⟨kn,hkn⟩:∃x:Nat,r.k=(x:Int):=⟨r.k.toNat,by have:=hr.k;omega⟩;obtain⟨cn,hcn⟩:∃x:Nat,r.c=(x:Int):=⟨r.c.toNat,by have:=hr.c;omega⟩;obtain⟨pn,hpn⟩:∃x:Nat,r.p=(x:Int):=⟨r.p.toNat,by have:=hr.p;omega⟩;obtain⟨yn,hyn⟩:∃x:Nat,r.y=(x:Int):=⟨r.y.toNat,by have:=hr.y;omega⟩;obtain⟨n1,n2,n3,n4,n5⟩:pt<256∧kn<256∧cn<256∧pn<65536∧yn≤4611686018427387904:=by
  have h1:=hr.n.pt;have h2:=hr.k;have h3:=hr.c;have h4:=hr.p;have h5:=hr.y;omega
 have pl:(lM r).length=16:=by unfold lM;simp
 have e8:(256:Nat)^8=18446744073709551616:=oR;have e2:(256:Nat)^2=65536:=oR;have EN:kS r++R=(b2n r.hi+2*b2n r.so)::(pt::(lM r++(kn::(cn::(nb 2 pn++(nb 8 yn++(lK r::(mkB (lK r) r.P 4++R)))))))):=by
  rw[tA r 4 (zP _),vX];unfold kS yJ lM;rw[hpt,hkn,hcn,hpn,hyn];simp only[zB,Int.toNat_natCast,List.cons_append,List.nil_append]
 rw[EN];unfold vN;rw[gC (nC (bI _ _)) (nC n1) (rP pl) (nC n2) (nC n3) (m4 (by rw[e2];exact n4)) (m4 (by rw[e8];omega)) (nC (by have:=dZ r;omega)) (pT _ _ _ _ _)];obtain⟨x,hx⟩:∃x:jO,(⟨fun i=>if i<4∧(lK r).testBit i=true then(fun y=>if y<64 then r.P i y else 0#128)else fun _=>0#128,(b2n r.hi+2*b2n r.so).testBit 0,(b2n r.hi+2*b2n r.so).testBit 1,vH (lM r),pt,kn,cn,pn,IntKind.i64.wrap yn⟩:jO)=x:=⟨_,rfl⟩;rw[hx];have hs:vU x r:=by
  rw[←hx];refine⟨fun i hi y hy=>?_,aW _ _,aV _ _,fun j hj=>?_,hpt.symm,hkn.symm,hcn.symm,hpn.symm,?_⟩
  ·show(if i<4∧(lK r).testBit i=true then(fun y=>if y<64 then r.P i y else 0#128)else fun _=>0#128) y=r.P i y;rw[r9 r hi];cases hb:kJ (r.P i)
   ·rw[zL ⟨hi,rfl⟩];show(if y<64 then r.P i y else 0#128)=_;rw[zL hy]
   ·rw[zY oP];exact((nX _).1 hb y hy).symm
  ·show vH (lM r) j=r.pat j;have:=hr.n.pat j hj;unfold vH;rw[zL oB];unfold lM;simp[hj];omega
  ·show IntKind.i64.wrap yn=r.y;rw[hyn,zS];omega
 refine⟨hs,?_⟩
 have hok:okX ⟨x,b2n r.hi+2*b2n r.so,lK r,(R,f)⟩=true:=by
  unfold okX;simp only[zR,zE];exact⟨by rw[hs.hi,hs.so],hs.used.symm,hs.valid.trans hv⟩
 rw[hok];simp
section
variable (x:jO)
theorem a9(b:Bool):(jA x).setIfInBounds 512 (.bool b)=jA {x with hi:=b}:=lL 512 _ fun j hj=>by
 unfold kI;by_cases e:j=512
 ·subst e;rfl
 ·rw[zY e];simp only[zY e]
theorem aI(b:Bool):(jA x).setIfInBounds 513 (.bool b)=jA {x with so:=b}:=lL 513 _ fun j hj=>by
 unfold kI;by_cases e:j=513
 ·subst e;rfl
 ·rw[zY e];simp only[zY e]
theorem aO(b:Int):(jA x).setIfInBounds 530 (.int .u8 b)=jA {x with pt:=b}:=lL 530 _ fun j hj=>by
 unfold kI;by_cases e:j=530
 ·subst e;rfl
 ·rw[zY e];simp only[zY e]
theorem recC_k(b:Int):(jA x).setIfInBounds 531 (.int .i64 b)=jA {x with k:=b}:=lL 531 _ fun j hj=>by
 unfold kI;by_cases e:j=531
 ·subst e;rfl
 ·rw[zY e];simp only[zY e]
theorem recC_c(b:Int):(jA x).setIfInBounds 532 (.int .i64 b)=jA {x with c:=b}:=lL 532 _ fun j hj=>by
 unfold kI;by_cases e:j=532
 ·subst e;rfl
 ·rw[zY e];simp only[zY e]
theorem recC_p(b:Int):(jA x).setIfInBounds 533 (.int .i64 b)=jA {x with p:=b}:=lL 533 _ fun j hj=>by
 unfold kI;by_cases e:j=533
 ·subst e;rfl
 ·rw[zY e];simp only[zY e]
theorem recC_y(b:Int):(jA x).setIfInBounds 534 (.int .i64 b)=jA {x with y:=b}:=lL 534 _ fun j hj=>by
 unfold kI;by_cases e:j=534
 ·subst e;rfl
 ·rw[zY e];by_cases e2:j<512
  ·rw[zL e2,zL e2]
  ·by_cases e3:514≤j∧j<530
   ·rw[zY oB,zY oB,zY oB,zL e3.2,zY oB,zY oB,zY oB,zL e3.2]
   ·rcases(show j=512∨j=513∨j=530∨j=531∨j=532∨j=533 by omega)with rfl|rfl|rfl|rfl|rfl|rfl<;>rfl
theorem gE(k:Nat)(hk:k<4)(Q:Pl):kW (jA x) (k*128) (j0 Q)=jA {x with P:=fun i=>if i=k then Q else x.P i}:=vR o3 (fun j hj=>by
  rw[j1]at hj;rw[kE _ _ hj];unfold kI;rw[zL oB,show(k*128+j)/128=k by omega,show(k*128+j)%128=j by omega];simp only[if_true]) fun j hj ho=>by
  rw[j1]at ho;unfold kI;by_cases e:j<512
  ·rw[zL e,zL e];simp only[zY (show¬j/128=k by omega)]
  ·rw[zY e,zY e]
theorem fI(M:List Nat)(hM:M.length≤16)(hz:x.pat=fun _=>0):(splice (jA x).toList 514 (((toI M).take 16).map (Value.int .u8))).toArray=jA {x with pat:=vH M}:=by
 have hl:(((toI M).take 16).map (Value.int .u8)).length=M.length:=by rw[z6,qH,lG];omega
 have hs:(jA x).toList.length=535:=by rw[Array.length_toList,jU]
 refine cE ?_ fun j hj=>?_
 ·rw[jF,gH _ _ _ (by rw[hl,hs];omega),hs]
 ·rw[zX,gG _ _ _ (by rw[hl,hs];omega),hl];have hx:(jA x).toList[j]?=some (kI x j):=by rw[jJ];exact j6 x hj
  by_cases h1:j<514
  ·rw[zL h1,hx];unfold kI;by_cases e:j<512
   ·rw[zL e,zL e]
   ·rcases(show j=512∨j=513 by omega)with rfl|rfl<;>rfl
  ·rw[zY h1];by_cases h2:j<514+M.length
   ·rw[zL h2];unfold kI toI;rw[zY oB,zY oB,zY oB,zL oB,qJ,List.getElem?_take,zL oB,qJ];show _=some (Value.int .u8 (vH M (j-514)));unfold vH;rw[zL oB,z8 oB];simp[show j-514<M.length by omega]
   ·rw[zY h2,hx];unfold kI;by_cases h3:j<530
    ·rw[zY oB,zY oB,zY oB,zL h3,zY oB,zY oB,zY oB,zL h3,hz];show _=some (Value.int .u8 (vH M (j-514)));unfold vH;rw[zY oB]
    ·rcases(show j=530∨j=531∨j=532∨j=533∨j=534 by omega)with rfl|rfl|rfl|rfl|rfl<;>rfl
end
theorem Rdr.fail{B g:Nat}{q:RSt}{w:World}(h:Rdr B g q w):Rdr B g (q.1,true) (w.setCell ⟨g,1,none⟩ (.bool true)):=by
 refine⟨h.base,h.by_,?_⟩;obtain⟨A,n,c,hb,h1,h2,h3,h4,h5⟩:=h.blk;exact⟨A,n,c,hb.put 1 (.bool true),h1,h2,h3,h4.keptN kQ fun hne ad e c=>(by have:=h5 hne ad e;have:=h.base;omega),h5⟩
theorem Rdr.cells{B g:Nat}{q:RSt}{w:World}(h:Rdr B g q w):∃v,w.cell? ⟨g,1,none⟩=some (.bool v):=by
 obtain⟨A,n,c,hb,_⟩:=h.blk;exact⟨_,hb.cell 1⟩
theorem Rdr.fz{B g:Nat}{q:RSt}{w:World}(h:Rdr B g q w)(j:Nat):w.frozen? ⟨g,j,none⟩=false:=by
 obtain⟨A,n,c,hb,_⟩:=h.blk;exact hb.frozen j
theorem lU{s n B g:Nat}{q q':RSt}{w:World}(e:j4 s q=(n,q'))(hs:s≤8)(H:Rdr B g q w):Calls Try.prog 41 #[.pointer (some ⟨g,0,none⟩),.int .i64 (s:Int)] w fun e w'=>
  e=.returned (.int .u64 (n:Int))∧n<256^s∧Rdr B g q' w'∧j5 (fun k=>k=g) w w':=by
 have h:=vV s hs B g q w H;rw[e]at h;exact h
theorem hU{s B g:Nat}{M:List Nat}{q q':RSt}{w:World}(e:rdB s q=(M,q'))(hs:s≤10000)(H:Rdr B g q w):Calls Try.prog 40 #[.pointer (some ⟨g,0,none⟩),.int .i64 (s:Int)] w fun e w'=>
  ∃A n c,e=.returned (.slice A n c)∧RdS B M A n c w'∧Rdr B g q' w'∧j5 (fun k=>k=g) w w':=by
 have h:=yK s hs B g q w H;rw[e]at h;exact h
theorem xX{P:Program}{ops:Array Oper}{rest:List Oper}{op:Oper}{a:Act}{w:World}{Q:Exit→Act→World→Prop}{b n:Nat}{T ty:TypeId}{cs:Array Value}(A:lI P ty n)(H:Blk b T cs w)(hn:cs.size=n)(hw:Region.wanted op (yielded ops a.tmps)=true)(x:Operand)(ho:op.op=.load ty x)(hx:a.eval x=.pointer (some ⟨b,0,none⟩))
  (h:wpList P ops Q rest (a.put op.dst (.agg cs)) w):wpList P ops Q (op::rest) a w:=
 wpList_step fun K hK=>by rw[zL hw];unfold Oper.wp;rw[nD A H hn x ho hx];exact hK _ _ h
theorem rT(B g:Nat)(q:RSt)(w:World)(H:Rdr B g q w):Calls Try.prog 42 #[.pointer (some ⟨g,0,none⟩)] w fun e w'=>
  e=.returned (.agg (jA (rdX q).x))∧Rdr B g (vN q) w'∧j5 (fun k=>k=g) w w':=by
 have GB:=zW (zC H.base H.lt);have HH:=zW H;clear H;rcases e1:j4 1 q with⟨n1,q1⟩;rcases e2:j4 1 q1 with⟨n2,q2⟩;rcases e3:rdB 16 q2 with⟨M3,q3⟩;rcases e4:j4 1 q3 with⟨n4,q4⟩;rcases e5:j4 1 q4 with⟨n5,q5⟩;rcases e6:j4 2 q5 with⟨n6,q6⟩;rcases e7:j4 8 q6 with⟨n7,q7⟩;rcases e8:j4 1 q7 with⟨n8,q8⟩;obtain⟨y7,hy7⟩:∃y,IntKind.i64.wrap (n7:Int)=y:=⟨_,rfl⟩;have XI:=zW (fun P q9 (ep:lX n8 q8 4=(P,q9))=>gC e1 e2 e3 e4 e5 e6 e7 e8 ep);have ST:=zW (show vN q=((rdX q).q.1,(rdX q).q.2|| !okX (rdX q))from rfl);rw[hy7]at XI;obtain⟨b0,hb0⟩:∃b,n1.testBit 0=b:=⟨_,rfl⟩;obtain⟨b1,hb1⟩:∃b,n1.testBit 1=b:=⟨_,rfl⟩;rw[hb0,hb1]at XI;have I0:=zW (fun(h:n1<256) w=>show Calls Try.prog 43 #[.int .u8 (n1:Int),.int .i64 0] w fun e w'=>e=.returned (.bool b0)∧w=w' from by rw[←hb0];exact xE n1 0 h oR w);have I1:=zW (fun(h:n1<256) w=>show Calls Try.prog 43 #[.int .u8 (n1:Int),.int .i64 1] w fun e w'=>e=.returned (.bool b1)∧w=w' from by rw[←hb1];exact xE n1 1 h oR w);clear hb0 hb1;have Y7E:=zW hy7;have Y7:=zW (show yM y7 from by rw[←hy7,zS];unfold yM;omega);have C1:=zW (fun w (h:Rdr B g q w)=>lU e1 oR h);have C2:=zW (fun w (h:Rdr B g q1 w)=>lU e2 oR h);have C3:=zW (fun w (h:Rdr B g q2 w)=>hU e3 oR h);have C4:=zW (fun w (h:Rdr B g q3 w)=>lU e4 oR h);have C5:=zW (fun w (h:Rdr B g q4 w)=>lU e5 oR h);have C6:=zW (fun w (h:Rdr B g q5 w)=>lU e6 oR h);have C7:=zW (fun w (h:Rdr B g q6 w)=>lU e7 oR h);have C8:=zW (fun w (h:Rdr B g q7 w)=>lU e8 oR h);have M16:=zW (show M3.length≤16 from by have:=rS 16 q2;rw[e3]at this;exact this);clear e1 e2 e3 e4 e5 e6 e7 e8;go_enter Try.func42,Try.ntmps42;go_upto_region 0 with fail;refine zN ?_;refine zI rfl fun K hK=>lW lH rfl (hK _ _ ?_);clear hK K;simp only[Act.put,zQ,zZ,zJ];have R2:=zW (Blk.new w 48 (jA kK));have ba:=jI w (.cells (jA kK) 48);have KK:=zW (j5.of_below (O:=fun k=>k=g) ba);have HH:=zW (HH.out.step ba);clear ba;obtain⟨g2,hg2⟩:∃g,w.heap.size=g:=⟨_,rfl⟩;rw[hg2]at R2⊢;have G2:=zW (show w.heap.size≤g2 from jK hg2);clear hg2;generalize World.alloc w _=w1 at R2 KK HH⊢;go_upto_region 1 with fail;refine zN ?_;refine zI rfl fun K hK=>lW lH rfl (hK _ _ ?_);clear hK K;simp only[Act.put,zQ,zZ,zJ];have R3:=zW (Blk.new w1 48 (jA kK));have ba:=jI w1 (.cells (jA kK) 48);have G3:=zW (show w.heap.size≤w1.heap.size∧g2≠w1.heap.size from⟨KK.out.size,by have:=R2.out.lt;omega⟩);have KK:=zW (KK.out.more ba);have HH:=zW (HH.out.step ba);have R2:=zW (R2.out.step ba);clear ba;generalize w1.heap.size=g3 at R3 G3⊢;generalize World.alloc w1 _=w2 at R2 R3 KK HH⊢;have NG:=zW (show g≠g2∧g≠g3∧B≤g3∧g2≠g3 from⟨by have:=GB.out;have:=G2.out;omega,by have:=GB.out;have:=G3.out;omega,by have:=GB.out;have:=G3.out;omega,G3.out.2⟩);go_wp2_with fail;refine(C1.out _ HH.out).mono ?_;rintro e w3 ⟨rfl,lh,hq,hk⟩;have R2:=zW (R2.out.kept hk (fun e=>NG.out.1 e.symm));have R3:=zW (R3.out.kept hk (fun e=>NG.out.2.1 e.symm));have KK:=zW (KK.out.then_ hk);have HH:=zW hq;have L1:=zW lh;clear hq hk lh C1;have u1:IntKind.u8.wrap (n1:Int)=(n1:Int):=by rw[qQ];have:=L1.out;rw[Nat.pow_one]at this;omega
 go_wp2_with fail;refine(I0.out (by have:=L1.out;rw[Nat.pow_one]at this;exact this) _).mono ?_;rintro e w' ⟨rfl,rfl⟩;go_wp2_with fail;refine(I1.out (by have:=L1.out;rw[Nat.pow_one]at this;exact this) _).mono ?_;rintro e w' ⟨rfl,rfl⟩;clear u1 I0 I1;have f1:=R3.out.frozen 512;have f2:=R3.out.frozen 513;have c1:w3.cell? ⟨g3,512,none⟩=some (.bool false):=(R3.out.cell 512).trans (j6 _ oB);have c2:w3.cell? ⟨g3,513,none⟩=some (.bool false):=(R3.out.cell 513).trans (j6 _ oB);go_wp2_with fail;clear f1 f2 c1 c2;have R3:=zW ((R3.out.put 512 (.bool b0)).eq (a9 _ _));have R2:=zW (R2.out.other NG.out.2.2.2 512 (.bool b0));have HH:=zW (HH.out.cellN (j:=512) (x:=.bool b0) NG.out.2.1 NG.out.2.2.1);have KK:=zW (KK.out.cellN (j:=512) (x:=.bool b0) G3.out.1);have R3:=zW ((R3.out.put 513 (.bool b1)).eq (aI _ _));have R2:=zW (R2.out.other NG.out.2.2.2 513 (.bool b1));have HH:=zW (HH.out.cellN (j:=513) (x:=.bool b1) NG.out.2.1 NG.out.2.2.1);have KK:=zW (KK.out.cellN (j:=513) (x:=.bool b1) G3.out.1);generalize World.setCell (World.setCell w3 _ _) _ _=w4 at R2 R3 HH KK⊢;refine(C2.out _ HH.out).mono ?_;rintro e w5 ⟨rfl,lh,hq,hk⟩;have R2:=zW (R2.out.kept hk (fun e=>NG.out.1 e.symm));have R3:=zW (R3.out.kept hk (fun e=>NG.out.2.1 e.symm));have KK:=zW (KK.out.then_ hk);have HH:=zW hq;have L2:=zW lh;clear hq hk lh C2;have u1:IntKind.u8.wrap (n2:Int)=(n2:Int):=by rw[qQ];have:=L2.out;rw[Nat.pow_one]at this;omega
 have f1:=R3.out.frozen 530;have c1:=(R3.out.cell 530).trans (j6 _ (show 530<535 by omega));go_wp2_with fail;clear f1 c1;have R3:=zW ((R3.out.put 530 (.int .u8 (n2:Int))).eq (aO _ _));have R2:=zW (R2.out.other NG.out.2.2.2 530 (.int .u8 (n2:Int)));have HH:=zW (HH.out.cellN (j:=530) (x:=.int .u8 (n2:Int)) NG.out.2.1 NG.out.2.2.1);have KK:=zW (KK.out.cellN (j:=530) (x:=.int .u8 (n2:Int)) G3.out.1);clear u1;obtain⟨x5,hx5⟩:∃x:jO,(⟨fun _ _=>0#128,b0,b1,fun _=>0,n2,0,0,0,0⟩:jO)=x:=⟨_,rfl⟩;have R3:=zW (show Blk g3 48 (jA x5) _ from by rw[←hx5];exact R3.out);have X5:=zW hx5;clear hx5;generalize World.setCell w5 _ _=w6 at R2 R3 HH KK⊢;refine lB (C:=fun w'=>∃x:xB,w'=x.w) [([0,1,2],3),([],4)] [] oT oT (fun _ _ d _ _ h=>by cases d<;>exact h) (xB.any _) ?_;intro wd hwd;have bd:=zA w6.heap.size w6|>.drew
 rw[←hwd]at bd;have R2:=zW (R2.out.step bd);have R3:=zW (R3.out.step bd);have HH:=zW (HH.out.step bd);have KK:=zW (KK.out.more bd);clear hwd bd;refine kG ?_;repeat(go_big_quiet_step (fail))
 refine zF ?_;refine kB oF ?_;intro K hK;go_wp2_with fail;refine(C3.out _ HH.out).mono ?_;rintro e w7 ⟨A3,m3,c3,rfl,hr,hq,hk⟩;have R2:=zW (R2.out.kept hk (fun e=>NG.out.1 e.symm));have R3:=zW (R3.out.kept hk (fun e=>NG.out.2.1 e.symm));have KK:=zW (KK.out.then_ hk);have HH:=zW hq;have RS:=zW hr;clear hq hk hr C3;refine hK _ _ (xB.any _) ?_;clear hK K;try simp only[Act.put,zQ,zZ,zJ]
 refine kG ?_;refine zF ?_;refine kB oF ?_;intro K hK;obtain⟨w8,hrun,hcells,hap⟩:=rB (w:=w7) 3 g3 514 16 16 (some ⟨g3,514,none⟩) (fun _=>rfl) A3 m3 c3 (min m3 16) rfl (toI M3) (by rw[lG];exact RS.out.len) RS.out.rd (jA x5).toList 48 (by rw[Array.toArray_toList];exact R3.out) (by rw[Array.length_toList,jU];omega);have R3:=zW (show Blk g3 48 (jA {x5 with pat:=vH M3}) w8 from by
  rw[←fI x5 M3 M16.out (by rw[←X5.out])];exact hcells)
 have R2:=zW (show Blk g2 48 (jA kK) w8 from((hap none).block g2 R2.out.lt NG.out.2.2.2 oP).trans R2.out);have HH:=zW (HH.out.kept (j5.of_apart (hap none)) (fun c=>by rcases c with c|c;exact NG.out.2.1 c;cases c) (fun x c=>by rcases c with c|c;(rw[c];exact NG.out.2.2.1);cases c));have KK:=zW (KK.out.trans (j5.of_apart (hap none)) (fun x c=>by rcases c with c|c;(exact .inr (by rw[c];exact G3.out.1));cases c));clear hcells hap RS;refine r8 (.tmp 22) (.tmp 24) rfl 3 rfl _ _ _ oF oF hrun 25 oF ?_;clear hrun;refine hK _ _ (xB.any _) ?_;clear hK K;try simp only[Act.put,zQ,zZ,zJ]
 refine nA ?_;refine zF ?_;go_wp2_with fail;refine(C4.out _ HH.out).mono ?_;rintro e w9 ⟨rfl,lh,hq,hk⟩;have R2:=zW (R2.out.kept hk (fun e=>NG.out.1 e.symm));have R3:=zW (R3.out.kept hk (fun e=>NG.out.2.1 e.symm));have KK:=zW (KK.out.then_ hk);have HH:=zW hq;have L4:=zW lh;clear hq hk lh C4;have u1:IntKind.i64.wrap (n4:Int)=(n4:Int):=by rw[zS];have:=L4.out;rw[Nat.pow_one]at this;omega
 have f1:=R3.out.frozen 531;have c1:=(R3.out.cell 531).trans (j6 _ (show 531<535 by omega));go_wp2_with fail;clear f1 c1;have R3:=zW ((R3.out.put 531 (.int .i64 (n4:Int))).eq (recC_k _ _));have R2:=zW (R2.out.other NG.out.2.2.2 531 (.int .i64 (n4:Int)));have HH:=zW (HH.out.cellN (j:=531) (x:=.int .i64 (n4:Int)) NG.out.2.1 NG.out.2.2.1);have KK:=zW (KK.out.cellN (j:=531) (x:=.int .i64 (n4:Int)) G3.out.1);clear u1;generalize World.setCell w9 _ _=wa at R2 R3 HH KK⊢;go_wp2_with fail;refine(C5.out _ HH.out).mono ?_;rintro e wb ⟨rfl,lh,hq,hk⟩;have R2:=zW (R2.out.kept hk (fun e=>NG.out.1 e.symm));have R3:=zW (R3.out.kept hk (fun e=>NG.out.2.1 e.symm));have KK:=zW (KK.out.then_ hk);have HH:=zW hq;have L5:=zW lh;clear hq hk lh C5;have u1:IntKind.i64.wrap (n5:Int)=(n5:Int):=by rw[zS];have:=L5.out;rw[Nat.pow_one]at this;omega
 have f1:=R3.out.frozen 532;have c1:=(R3.out.cell 532).trans (j6 _ (show 532<535 by omega));go_wp2_with fail;clear f1 c1;have R3:=zW ((R3.out.put 532 (.int .i64 (n5:Int))).eq (recC_c _ _));have R2:=zW (R2.out.other NG.out.2.2.2 532 (.int .i64 (n5:Int)));have HH:=zW (HH.out.cellN (j:=532) (x:=.int .i64 (n5:Int)) NG.out.2.1 NG.out.2.2.1);have KK:=zW (KK.out.cellN (j:=532) (x:=.int .i64 (n5:Int)) G3.out.1);clear u1;generalize World.setCell wb _ _=wc at R2 R3 HH KK⊢;go_wp2_with fail;refine(C6.out _ HH.out).mono ?_;rintro e we ⟨rfl,lh,hq,hk⟩;have R2:=zW (R2.out.kept hk (fun e=>NG.out.1 e.symm));have R3:=zW (R3.out.kept hk (fun e=>NG.out.2.1 e.symm));have KK:=zW (KK.out.then_ hk);have HH:=zW hq;have L6:=zW lh;clear hq hk lh C6;have u1:IntKind.i64.wrap (n6:Int)=(n6:Int):=by rw[zS];have:=L6.out;rw[show(256:Nat)^2=65536 from rfl]at this;omega
 have f1:=R3.out.frozen 533;have c1:=(R3.out.cell 533).trans (j6 _ (show 533<535 by omega));go_wp2_with fail;clear f1 c1;have R3:=zW ((R3.out.put 533 (.int .i64 (n6:Int))).eq (recC_p _ _));have R2:=zW (R2.out.other NG.out.2.2.2 533 (.int .i64 (n6:Int)));have HH:=zW (HH.out.cellN (j:=533) (x:=.int .i64 (n6:Int)) NG.out.2.1 NG.out.2.2.1);have KK:=zW (KK.out.cellN (j:=533) (x:=.int .i64 (n6:Int)) G3.out.1);clear u1;generalize World.setCell we _ _=wf at R2 R3 HH KK⊢;go_wp2_with fail;refine(C7.out _ HH.out).mono ?_;rintro e wg ⟨rfl,lh,hq,hk⟩;have R2:=zW (R2.out.kept hk (fun e=>NG.out.1 e.symm));have R3:=zW (R3.out.kept hk (fun e=>NG.out.2.1 e.symm));have KK:=zW (KK.out.then_ hk);have HH:=zW hq;have L7:=zW lh;clear hq hk lh C7;have u1:IntKind.i64.wrap (n7:Int)=y7:=Y7E.out;have f1:=R3.out.frozen 534;have c1:=(R3.out.cell 534).trans (j6 _ (show 534<535 by omega));go_wp2_with fail;clear f1 c1;have R3:=zW ((R3.out.put 534 (.int .i64 y7)).eq (recC_y _ _));have R2:=zW (R2.out.other NG.out.2.2.2 534 (.int .i64 y7));have HH:=zW (HH.out.cellN (j:=534) (x:=.int .i64 y7) NG.out.2.1 NG.out.2.2.1);have KK:=zW (KK.out.cellN (j:=534) (x:=.int .i64 y7) G3.out.1);clear u1;generalize World.setCell wg _ _=wh at R2 R3 HH KK⊢;go_wp2_with fail;refine(C8.out _ HH.out).mono ?_;rintro e wi ⟨rfl,lh,hq,hk⟩;have R2:=zW (R2.out.kept hk (fun e=>NG.out.1 e.symm));have R3:=zW (R3.out.kept hk (fun e=>NG.out.2.1 e.symm));have KK:=zW (KK.out.then_ hk);have HH:=zW hq;have L8:=zW lh;clear hq hk lh C8;have u1:IntKind.u8.wrap (n8:Int)=(n8:Int):=by rw[qQ];have:=L8.out;rw[Nat.pow_one]at this;omega
 obtain⟨x6,hx6⟩:∃x:Nat→(Nat→Pl)→jO,(fun _ P=>(⟨P,b0,b1,vH M3,n2,n4,n5,n6,y7⟩:jO))=x:=⟨_,rfl⟩;have X6:=zW (show∀P,x6 0 P=⟨P,b0,b1,vH M3,n2,n4,n5,n6,y7⟩from fun P=>by rw[←hx6]);have R3:=zW (show Blk g3 48 (jA (x6 0 (lX n8 q8 0).1)) _ from by rw[X6.out];have h:=R3.out;rw[←X5.out]at h;exact h);clear X5 hx6;have HH:=zW (show Rdr B g (lX n8 q8 0).2 _ from HH.out);have l8:n8<256:=by have:=L8.out;rw[Nat.pow_one]at this;exact this
 have IB:=zW (fun k (hk:k<4) w=>xE n8 k l8 hk w);have PU:=zW (fun k (h:n8.testBit k=true)=>cU (q:=q8) h);have PN:=zW (fun k (h:¬n8.testBit k=true)=>cI (q:=q8) h);go_wp2_with fail;clear u1;go_loopw [49] (fun i wr=>∃k:Nat,k≤4∧i=.int .i64 (k:Int)∧Blk g2 48 (jA kK) wr∧Blk g3 48 (jA (x6 0 (lX n8 q8 k).1)) wr∧Rdr B g (lX n8 q8 k).2 wr∧j5 (fun k=>k=g) w wr) (fun i _=>4-(intOf i).toNat)
 case atStart=>exact⟨0,zD _,rfl,R2.out,R3.out,HH.out,KK.out⟩
 case round=>
  clear R2 R3 HH KK
  obtain⟨k,hk,rfl,r2,r3,hh,kk⟩:=hrel
  have R2:=zW r2
  have R3:=zW r3
  have HH:=zW hh
  have KK:=zW kk
  clear r2 r3 hh kk
  by_cases hlt:k<4
  ·have JX:=zW hlt
   have ki:(k:Int)<4:=oB
   have ib:=IB.out k hlt
   have pu:=PU.out k
   have pn:=PN.out k
   generalize hb:n8.testBit k=b at ib pu pn
   have IX:=zW ib
   clear hb ib
   go_wp2_with fail
   refine(IX.out _).mono ?_
   rintro e w' ⟨rfl,rfl⟩
   clear IX
   cases b
   ·have PE:=zW (pn oP)
    clear pu pn
    go_wp2_with fail
    go_roundw
    case rel=>exact⟨k+1,JX.out,by go_num,R2.out,by rw[PE.out];exact R3.out,by rw[PE.out];exact HH.out,KK.out⟩
    case measure=>have:=JX.out;simp[intOf];omega
   ·have PE:=zW (pu rfl)
    clear pu pn
    obtain⟨P0,hP0⟩:∃P,(lX n8 q8 k).1=P:=⟨_,rfl⟩
    obtain⟨qa,hqa⟩:∃P,(lX n8 q8 k).2=P:=⟨_,rfl⟩
    rw[hP0]at PE R3
    rw[hqa]at PE HH
    clear hP0 hqa
    go_wp2_with fail
    refine(rF B g qa _ HH.out).mono ?_
    rintro e wj ⟨rfl,hq,hk⟩
    have R2:=zW (R2.out.kept hk (fun e=>NG.out.1 e.symm))
    have R3:=zW (R3.out.kept hk (fun e=>NG.out.2.1 e.symm))
    have KK:=zW (KK.out.then_ hk)
    have HH:=zW hq
    clear hq hk
    generalize hQ:j7 qa 64=p at HH PE⊢
    obtain⟨Q,q9⟩:=p
    simp only[]at HH PE⊢
    clear hQ
    go_at_K
    iterate 7 go_step
    refine mP (o:=k*128) (ds:=j0 Q) xM R3.out (j1 _) (by rw[jU];omega) (cM _) rfl (.tmp 60) (.tmp 58) rfl oD oD ?_
    have R3:=zW (show Blk g3 48 (jA (x6 0 (fun i=>if i=k then Q else P0 i))) _ from(R3.out.store (kW (jA (x6 0 P0)) (k*128) (j0 Q))).eq (by rw[gE _ k JX.out,X6.out,X6.out]))
    have R2:=zW (R2.out.otherRow (g:=g3) NG.out.2.2.2 (kW (jA (x6 0 P0)) (k*128) (j0 Q)))
    have HH:=zW (HH.out.rowN (cs:=kW (jA (x6 0 P0)) (k*128) (j0 Q)) NG.out.2.1 NG.out.2.2.1)
    have KK:=zW (KK.out.rowN (cs:=kW (jA (x6 0 P0)) (k*128) (j0 Q)) G3.out.1)
    generalize World.setRow wj _ _=wk at R2 R3 HH KK⊢
    go_wp2_with fail
    go_roundw
    case rel=>exact⟨k+1,JX.out,by go_num,R2.out,by rw[PE.out];exact R3.out,by rw[PE.out];exact HH.out,KK.out⟩
    case measure=>have:=JX.out;simp[intOf];omega
  ·obtain rfl:k=4:=by omega
   have ki:¬((4:Nat):Int)<4:=oB
   have XE:=zW (XI.out _ _ (show lX n8 q8 4=((lX n8 q8 4).1,(lX n8 q8 4).2)from rfl))
   rw[←X6.out]at XE
   obtain⟨x,hx⟩:∃x,x6 0 (lX n8 q8 4).1=x:=⟨_,rfl⟩
   obtain⟨q9,hq9⟩:∃x,(lX n8 q8 4).2=x:=⟨_,rfl⟩
   have XF:=zW (show x.hi=b0∧x.so=b1∧x.y=y7 from by rw[←hx,X6.out];exact⟨rfl,rfl,rfl⟩)
   rw[hx]at R3 XE
   rw[hq9]at HH XE
   have S1:=zW (show(rdX q).x=x from by rw[XE.out])
   have S2:=zW (show vN q=(q9.1,q9.2|| !(decide (n1=b2n b0+2*b2n b1)&&(decide (n8=lK x)&&j9 x)))from by
    rw[ST.out,XE.out];unfold okX;rw[XF.out.1,XF.out.2.1])
   clear hx hq9 XE ST XI X6 IB PU PN
   have EP:=zW (vZ x)
   have e512:=zW (show(jA x)[512]?=some (.bool b0)from by rw[j6 x oB,←XF.out.1];rfl)
   have e513:=zW (show(jA x)[513]?=some (.bool b1)from by rw[j6 x oB,←XF.out.2.1];rfl)
   go_upto_region 17 with fail
   refine zN ?_
   iterate 3 go_step
   refine kA (o:=0) r7 R3.out (by rw[jU];decide) rfl (.tmp 62) rfl oD ?_
   rw[EP.out]
   simp only[Act.put,zQ,zZ,zJ]
   go_wp2_with fail
   refine(yX x.P _).mono ?_
   rintro e wb ⟨rfl,hb⟩
   have R2:=zW (R2.out.step hb)
   have R3:=zW (R3.out.step hb)
   have HH:=zW (HH.out.step hb)
   have KK:=zW (KK.out.more hb)
   clear hb
   simp only[]
   go_at_K
   go_step
   refine kU rZ rW (mX _) (mX _) (r6 _) rfl rfl rfl (.tmp 7) (.tmp 64) rfl oF oF ?_
   simp only[Act.put,zQ,zZ,zJ]
   have B6:=zW (Blk.new wb 84 (b4c fun i=> !kJ (x.P i)))
   have ba:=jI wb (.cells (b4c fun i=> !kJ (x.P i)) 84)
   have R2:=zW (R2.out.step ba)
   have R3:=zW (R3.out.step ba)
   have HH:=zW (HH.out.step ba)
   have KK:=zW (KK.out.more ba)
   clear ba
   generalize wb.heap.size=g6 at B6⊢
   generalize World.alloc wb _=wm at R2 R3 HH KK B6⊢
   have q512:wm.cell? ⟨g3,512,none⟩=some (.bool b0):=(R3.out.cell 512).trans e512.out
   have q513:wm.cell? ⟨g3,513,none⟩=some (.bool b1):=(R3.out.cell 513).trans e513.out
   have B5:=zW (Blk.new wm 4 #[.bool b0,.bool b1])
   have ba:=jI wm (.cells #[.bool b0,.bool b1] 4)
   have CN:=nG (fun j=>if j=0 then b0 else b1) 2 wm.heap.size 2 oR _ (fun j hj=>by
    rw[B5.out.cell];rcases(show j=0∨j=1 by omega)with rfl|rfl<;>rfl)
   rw[dP]at CN
   have CM:=zW (show Calls Try.prog 37 #[.slice (some ⟨wm.heap.size,0,none⟩) 2 2] (wm.alloc (.cells #[.bool b0,.bool b1] 4)) fun e w'=>e=.returned (.int .u8 ((b2n b0+2*b2n b1:Nat):Int))∧(wm.alloc (.cells #[.bool b0,.bool b1] 4))=w' from CN)
   clear CN
   obtain⟨d,hd⟩:∃d,b2n b0+2*b2n b1=d:=⟨_,rfl⟩
   rw[hd]at CM S2
   clear hd
   go_wp2_with fail
   have R2:=zW (R2.out.step ba)
   have R3:=zW (R3.out.step ba)
   have HH:=zW (HH.out.step ba)
   have KK:=zW (KK.out.more ba)
   have B6:=zW (B6.out.step ba)
   clear ba B5 q512 q513
   generalize wm.heap.size=g5 at CM⊢
   generalize World.alloc wm _=wn at R2 R3 HH KK B6 CM⊢
   refine CM.out.mono ?_
   rintro e w' ⟨rfl,rfl⟩
   clear CM
   by_cases h1:n1=d
   ·have S3:=zW (show vN q=(q9.1,q9.2|| !(decide (n8=lK x)&&j9 x))from by rw[S2.out,zU h1,Bool.true_and])
    clear S2
    have CM:=zW (show Calls Try.prog 37 #[.slice (some ⟨g6,0,none⟩) 4 4] wn fun e w'=>e=.returned (.int .u8 ((lK x:Nat):Int))∧wn=w' from by
     rw[←hE];exact nG (fun i=> !kJ (x.P i)) 4 g6 4 oR wn (fun j hj=>(B6.out.cell j).trans (xL _ hj)))
    obtain⟨u,hu⟩:∃u,lK x=u:=⟨_,rfl⟩
    rw[hu]at CM S3
    clear hu
    subst h1
    go_wp2_with fail
    refine CM.out.mono ?_
    rintro e w' ⟨rfl,rfl⟩
    clear CM
    by_cases h2:n8=u
    ·have S4:=zW (show vN q=(q9.1,q9.2|| !j9 x)from by rw[S3.out,zU h2,Bool.true_and])
     clear S3
     subst h2
     have VA:=zW (fun w=>xD x (by rw[XF.out.2.2];exact Y7.out) w)
     obtain⟨v,hv⟩:∃v,j9 x=v:=⟨_,rfl⟩
     rw[hv]at S4 VA
     clear hv
     simp only[]
     go_at_K
     repeat(first
      |(refine xX j8 R3.out (jU _) ?_ (.tmp 3) ?_ ?_ ?_;(focus rfl);(focus rfl);(focus rfl);simp only[Act.put,zQ,zZ,zJ])
      |go_step)
     go_wp2_with fail
     refine(VA.out _).mono ?_
     rintro e wv ⟨rfl,hb⟩
     have R2:=zW (R2.out.step hb)
     have R3:=zW (R3.out.step hb)
     have HH:=zW (HH.out.step hb)
     have KK:=zW (KK.out.more hb)
     clear hb VA
     cases v
     ·have SX:=zW (show vN q=(q9.1,true)from by rw[S4.out];simp)
      have f1:=HH.out.fz 1
      obtain⟨vf,c1⟩:=HH.out.cells
      go_upto_region 20 with fail
      clear f1 c1
      have HH:=zW (HH.out.fail)
      have R2:=zW (R2.out.other (g:=g) (fun e=>NG.out.1 e.symm) 1 (.bool true))
      have R3:=zW (R3.out.other (g:=g) (fun e=>NG.out.2.1 e.symm) 1 (.bool true))
      have KK:=zW (KK.out.then_ (kQ (b:=g) (j:=1) (x:=.bool true)))
      generalize World.setCell _ _ _=wz at R2 R3 HH KK⊢
      go_upto_region 20 with fail
      refine zN ?_
      refine j3 j8 R3.out (jU _) rfl (.tmp 3) rfl rfl ?_
      simp only[Act.put,zQ,zZ,zJ]
      refine kX (ds:=jA x) j8 R2.out (jU _) (jU _) (lR _) rfl (.tmp 2) (.tmp 87) rfl rfl rfl ?_
      have RE:=R2.out.store (jA x)
      have HE:=HH.out.rowN (cs:=jA x) NG.out.1 oC
      have KE:=KK.out.rowN (cs:=jA x) G2.out
      generalize World.setRow _ _ _=we at RE HE KE⊢
      go_wp2_with fail
      exact qU (qF rfl _ _ g2 _ _ _ _ rfl RE Try.underlying48 rfl (by rw[j8.i,jU])) rfl ⟨by rw[S1.out],by rw[SX.out];exact HE,KE⟩
     ·have SX:=zW (show vN q=q9 from by rw[S4.out];simp)
      go_upto_region 20 with fail
      refine zN ?_
      refine j3 j8 R3.out (jU _) rfl (.tmp 3) rfl rfl ?_
      simp only[Act.put,zQ,zZ,zJ]
      refine kX (ds:=jA x) j8 R2.out (jU _) (jU _) (lR _) rfl (.tmp 2) (.tmp 87) rfl rfl rfl ?_
      have RE:=R2.out.store (jA x)
      have HE:=HH.out.rowN (cs:=jA x) NG.out.1 oC
      have KE:=KK.out.rowN (cs:=jA x) G2.out
      generalize World.setRow _ _ _=we at RE HE KE⊢
      go_wp2_with fail
      exact qU (qF rfl _ _ g2 _ _ _ _ rfl RE Try.underlying48 rfl (by rw[j8.i,jU])) rfl ⟨by rw[S1.out],by rw[SX.out];exact HE,KE⟩
    ·have SX:=zW (show vN q=(q9.1,true)from by rw[S3.out,z0 h2];simp)
     have n1:¬(n8:Int)=(u:Int):=oB
     have f1:=HH.out.fz 1
     obtain⟨vf,c1⟩:=HH.out.cells
     go_upto_region 20 with fail
     clear f1 c1
     have HH:=zW (HH.out.fail)
     have R2:=zW (R2.out.other (g:=g) (fun e=>NG.out.1 e.symm) 1 (.bool true))
     have R3:=zW (R3.out.other (g:=g) (fun e=>NG.out.2.1 e.symm) 1 (.bool true))
     have KK:=zW (KK.out.then_ (kQ (b:=g) (j:=1) (x:=.bool true)))
     generalize World.setCell _ _ _=wz at R2 R3 HH KK⊢
     go_upto_region 20 with fail
     refine zN ?_
     refine j3 j8 R3.out (jU _) rfl (.tmp 3) rfl rfl ?_
     simp only[Act.put,zQ,zZ,zJ]
     refine kX (ds:=jA x) j8 R2.out (jU _) (jU _) (lR _) rfl (.tmp 2) (.tmp 87) rfl rfl rfl ?_
     have RE:=R2.out.store (jA x)
     have HE:=HH.out.rowN (cs:=jA x) NG.out.1 oC
     have KE:=KK.out.rowN (cs:=jA x) G2.out
     generalize World.setRow _ _ _=we at RE HE KE⊢
     go_wp2_with fail
     exact qU (qF rfl _ _ g2 _ _ _ _ rfl RE Try.underlying48 rfl (by rw[j8.i,jU])) rfl ⟨by rw[S1.out],by rw[SX.out];exact HE,KE⟩
   ·have SX:=zW (show vN q=(q9.1,true)from by rw[S2.out,z0 h1];simp)
    have n1':¬(n1:Int)=(d:Int):=oB
    have f1:=HH.out.fz 1
    obtain⟨vf,c1⟩:=HH.out.cells
    go_upto_region 20 with fail
    clear f1 c1
    have HH:=zW (HH.out.fail)
    have R2:=zW (R2.out.other (g:=g) (fun e=>NG.out.1 e.symm) 1 (.bool true))
    have R3:=zW (R3.out.other (g:=g) (fun e=>NG.out.2.1 e.symm) 1 (.bool true))
    have KK:=zW (KK.out.then_ (kQ (b:=g) (j:=1) (x:=.bool true)))
    generalize World.setCell _ _ _=wz at R2 R3 HH KK⊢
    go_upto_region 20 with fail
    refine zN ?_
    refine j3 j8 R3.out (jU _) rfl (.tmp 3) rfl rfl ?_
    simp only[Act.put,zQ,zZ,zJ]
    refine kX (ds:=jA x) j8 R2.out (jU _) (jU _) (lR _) rfl (.tmp 2) (.tmp 87) rfl rfl rfl ?_
    have RE:=R2.out.store (jA x)
    have HE:=HH.out.rowN (cs:=jA x) NG.out.1 oC
    have KE:=KK.out.rowN (cs:=jA x) G2.out
    generalize World.setRow _ _ _=we at RE HE KE⊢
    go_wp2_with fail
    exact qU (qF rfl _ _ g2 _ _ _ _ rfl RE Try.underlying48 rfl (by rw[j8.i,jU])) rfl ⟨by rw[S1.out],by rw[SX.out];exact HE,KE⟩
theorem i5{w:World}{A:Option Addr}{L:List Nat}{n c:Nat}(hn:L.length=n)(h:Rd w A (toI L)):(convert 27 9 (.slice A n c)).run Try.prog w=.ok (.string (strOfNums (toI L))) w:=by
 subst hn;cases A with
 |none=>
  have e:toI L=[]:=by
   refine Classical.byContradiction fun hne=>?_;obtain⟨ad,e,_⟩:=h hne;cases e
  rw[run_convert_bytes_nil (P:=Try.prog) w 27 5 Try.underlying27 Try.underlying5 _ _ 9 Try.underlying9,e]
  rfl
 |some ad=>
  have hl:(loadCells ad L.length).run Try.prog w=.ok ((toI L).map (Value.int .u8)).toArray w:=by
   have:=run_loadCells_list (P:=Try.prog) w ad ((toI L).map (Value.int .u8)) (fun j v hj=>by
    by_cases hne:toI L=[]
    ·rw[hne]at hj;simp at hj
    ·obtain⟨ad',e,_,hc⟩:=h hne;injection e with e
     subst e;exact uQ hc j v hj)
   rw[z6,lG]at this;exact this
  rw[run_convert_bytes_string (P:=Try.prog) w 27 9 5 _ _ _ Try.underlying27 Try.underlying5 Try.underlying9,run_bytesToString w _ _ _ (toI L) hl,foldl_push_bytes]
  simp[strOfNums,ByteArray.empty,ByteArray.emptyWithCapacity]
  rfl
def aC:ByteArray:=⟨#[67,56,82,49]⟩
theorem aP{L:List Nat}(hb:∀b∈L,b<256):strOfNums (toI L)=aC↔L=sgn:=by
 constructor
 ·intro h;have h1:(strOfNums (toI L)).data.toList=aC.data.toList:=by rw[h]
  rw[strOfNums_data]at h1;have h2:((toI L).map fun n=>UInt8.ofNat n.toNat).map UInt8.toNat=aC.data.toList.map UInt8.toNat:=congrArg (fun l=>l.map UInt8.toNat) h1;have e:((toI L).map fun n=>UInt8.ofNat n.toNat).map UInt8.toNat=L:=by
   unfold toI;rw[List.map_map,List.map_map];conv=>rhs;rw[←List.map_id L]
   refine List.map_congr_left fun b hbb=>?_;show(UInt8.ofNat ((b:Int).toNat)).toNat=b;rw[Int.toNat_natCast,UInt8.toNat_ofNat'];exact qR (hb b hbb)
  rw[e]at h2;rw[h2];rfl
 ·rintro rfl;rfl
def lZ(q:RSt):Nat→List jO×RSt
 |0=>([],q)
 |k+1=>((lZ q k).1++[(rdX (lZ q k).2).x],vN (lZ q k).2)
theorem nZ(q:RSt)(k:Nat):lZ q (k+1)=((lZ q k).1++[(rdX (lZ q k).2).x],vN (lZ q k).2):=rfl
theorem wT(q:RSt)(k:Nat):(lZ q k).1.length=k:=by
 induction k with
 |zero=>rfl
 |succ k ih=>rw[nZ,zM,ih];rfl
theorem iZ(q:RSt)(h:∀b∈q.1,b<256):∀b∈(vN q).1,b<256:=dH _ _ (kH 1 _ (kH 8 _ (kH 2 _ (kH 1 _ (kH 1 _ (vF 16 _ (kH 1 _ (kH 1 q h))).2))))) 4
theorem pD(q:RSt)(h:∀b∈q.1,b<256)(k:Nat):∀b∈(lZ q k).2.1,b<256:=by
 induction k with
 |zero=>exact h
 |succ k ih=>
  rw[nZ]
  exact iZ _ ih
def cL(L:List Nat):Nat×RSt:=j4 4 (rdB 4 (L,false)).2
def cX(L:List Nat):Bool:=decide ((rdB 4 (L,false)).1=sgn)&&(decide ((cL L).1≤1048576)&&decide ((lZ (cL L).2 (cL L).1).2=([],false)))
def nP(L:List Nat):List jO:=(lZ (cL L).2 (cL L).1).1
theorem xH.snoc{r q:jO}(h:vU r q)(l:List jO):∀m,xH l m→xH (l++[r]) (m++[q]):=by
 induction l with
 |nil=>
  intro m hm
  cases m with
  |nil=>exact⟨h,trivial⟩
  |cons _ _=>exact hm.elim
 |cons a l ih=>
  intro m hm
  cases m with
  |nil=>exact hm.elim
  |cons b m=>exact⟨hm.1,ih m hm.2⟩
theorem eS(R:List Nat)(f:Bool):∀l:List jO,(∀r∈l,OkE r)→mE l=true→∀R,(lZ (l.flatMap kS++R,f) l.length).2=(R,f)∧xH (lZ (l.flatMap kS++R,f) l.length).1 l:=by
 intro l;have hh:∀l:List jO,(∀r∈l.reverse,OkE r)→mE l.reverse=true→∀R,(lZ (l.reverse.flatMap kS++R,f) l.length).2=(R,f)∧xH (lZ (l.reverse.flatMap kS++R,f) l.length).1 l.reverse:=by
  intro l;induction l with
  |nil=>exact fun _ _ R=>⟨rfl,trivial⟩
  |cons r l ih=>
   intro h1 h2 R
   rw[List.reverse_cons]at h1 h2⊢
   unfold mE at h2
   rw[List.all_append,zR]at h2
   have hr:=h1 r oP
   have hv:j9 r=true:=by simpa using h2.2
   have e:(l.reverse++[r]).flatMap kS++R=l.reverse.flatMap kS++(kS r++R):=by rw[List.flatMap_append,zB,List.flatMap_cons,List.flatMap_nil,z5]
   rw[e,List.length_cons,nZ]
   obtain⟨a1,a2⟩:=ih (fun x hx=>h1 x (by simp[hx])) h2.1 (kS r++R)
   rw[a1]
   obtain⟨b1,b2⟩:=rd_yes r hr hv R f
   exact⟨b2,xH.snoc b1 _ _ a2⟩
 intro h1 h2 R;have:=hh l.reverse (by rw[List.reverse_reverse];exact h1) (by rw[List.reverse_reverse];exact h2) R;rw[List.reverse_reverse,List.length_reverse]at this;exact this
theorem aD(l:List jO)(ok:∀r∈l,OkE r)(hv:mE l=true)(hl:l.length≤1048576):cX (mN l)=true∧xH (nP (mN l)) l:=by
 have e1:rdB 4 (mN l,false)=(sgn,(nb 4 l.length++l.flatMap kS,false)):=rP rfl;have e4:(256:Nat)^4=4294967296:=oR;have e2:cL (mN l)=(l.length,(l.flatMap kS,false)):=by
  unfold cL;rw[e1];exact m4 (by rw[e4];omega)
 have h:=eS [] false l ok hv [];rw[z5]at h;unfold cX nP;rw[e1,e2];simp only[zR,zE];exact⟨⟨trivial,hl,h.1⟩,h.2⟩
structure CbOk(B n0:Nat)(O:Nat→Prop)(I:List jO→World→Prop)(F:FuncId)(gp N:Nat):Prop where
 call:∀l r w,I l w→l.length<N→Calls Try.prog F #[.agg (jA r),.pointer (some ⟨gp,0,none⟩)] w fun e w'=>e=.returned (.tuple #[])∧I (l++[r]) w'∧j5 O w w'
 keep:∀l w w' O',I l w→j5 O' w w'→(∀k,O k→¬O' k)→I l w'
 low:∀k,O k→B≤k
 lt:∀k,O k→k<n0
theorem aB:mW Try.prog 88 #[.slice none 0 0,.bool false]:=by unfold mW;kernel_rfl
theorem sD(A:Option Addr)(n c:Nat):Try.prog.built 88 [(0,.slice A n c)]=some #[.slice A n c,.bool false]:=by kernel_rfl
theorem gO(q:RSt)(h:∀b∈q.1,b<256)(n:Nat):(lZ q n).2.2=false→∀j,j≤n→(lZ q j).2.2=false:=by
 induction n with
 |zero=>exact fun hf j hj=>by rw[show j=0 by omega];exact hf
 |succ n ih=>
  intro hf j hj
  by_cases e:j=n+1
  ·rw[e];exact hf
  ·refine ih ?_ j oB
   rw[nZ]at hf
   exact(iQ (lZ q n).2 (pD q h n) hf).1
theorem u9(L:List Nat)(hb:∀b∈L,b<256)(B:Nat)(A:Option Addr)(n c:Nat)(hn:L.length=n)(hc:n≤c)(hm:c≤maxLen)(w:World)(hB:B≤w.heap.size)(hR:Rd w A (toI L))(hA:L≠[]→∀ad,A=some ad→ad.block<B)
  (O:Nat→Prop) (I:List jO→World→Prop) (F:FuncId) (gp:Nat) (C:CbOk B w.heap.size O I F gp (cL L).1) (h0:I [] w) (hF:F=33∨F=34):
  Calls Try.prog 32 #[.slice A n c,.func (.func F) #[] #[.pointer (some ⟨gp,0,none⟩)]] w fun e w'=>e=.returned (.bool (cX L))∧(cX L=true→I (nP L) w')∧j5 O w w':=by
 rcases e1:rdB 4 (L,false)with⟨M4,q1⟩;rcases e2:j4 4 q1 with⟨n0,q2⟩;have hd:cL L=(n0,q2):=by unfold cL;rw[e1];exact e2
 have VB:=zW (show cX L=(decide (M4=sgn)&&(decide (n0≤1048576)&&decide ((lZ q2 n0).2=([],false))))from by unfold cX;rw[hd,e1]);have VL:=zW (show nP L=(lZ q2 n0).1 from by unfold nP;rw[hd]);rw[hd]at C;have CC:=zW C;have FF:=zW hF;clear C hd hF;have by1:=vF 4 (L,false) hb;rw[e1]at by1;have BY:=zW (show∀b∈q2.1,b<256 from by have:=kH 4 q1 by1.2;rw[e2]at this;exact this);have B4:=zW by1.1;have C1:=zW (fun g w (h:Rdr B g (L,false) w)=>hU e1 oR h);have C2:=zW (fun g w (h:Rdr B g q1 w)=>lU e2 oR h);have SG:=zW (aP by1.1);have H0:=zW h0;have RR:=zW (show RdS B L A n c w from⟨hn,hc,hm,hR,hA⟩);have BY0:=zW (zC hb hB);clear e1 e2 by1 hb hn hc hm hR hA h0 hB;generalize cX L=V at VB⊢;generalize nP L=W at VL⊢;go_enter Try.func32,Try.ntmps32;go_upto_region 1 with fail;refine zN ?_;iterate 3 go_step
 refine mJ rfl rfl (by simp[Act.eval,Act.put];exact sD A n c) ?_;refine kU (ds:=#[.slice A n c,.bool false]) aggRdr aB rfl rfl (by unfold vI;simp[Value.oneCell']) rfl rfl rfl (.tmp 5) (.tmp 9) rfl oF oF ?_;simp only[Act.put,zQ,zZ,zJ];have K1:=zW (Blk.new w 88 #[.slice A n c,.bool false]);have ba:=jI w (.cells #[.slice A n c,.bool false] 88);have RD:=zW (show Rdr B w.heap.size (L,false) (w.alloc (.cells #[.slice A n c,.bool false] 88))from⟨BY0.out.2,BY0.out.1,A,n,c,K1.out,RR.out.len,RR.out.cap,RR.out.max,RR.out.rd.below ba,RR.out.off⟩);have KK:=zW (j5.of_below (O:=O) ba);have II:=zW (CC.out.keep [] w _ _ H0.out (j5.of_below (O:=fun _=>False) ba) (fun _ _ c=>c));have GG:=zW (show w.heap.size≤w.heap.size∧B≤w.heap.size∧∀k,O k→¬k=w.heap.size from⟨zP _,BY0.out.2,fun k hk e=>by have:=CC.out.lt k hk;omega⟩);clear ba K1 H0;obtain⟨g,hg⟩:∃g,w.heap.size=g:=⟨_,rfl⟩;have GG:=zW (show w.heap.size≤g∧B≤g∧∀k,O k→¬k=g from hg▸GG.out);rw[hg]at RD⊢;clear hg;generalize World.alloc w _=w1 at RD KK II⊢;go_wp2_with fail;refine(C1.out g _ RD.out).mono ?_;rintro e w2 ⟨A4,n4,c4,rfl,hr,hq,hk⟩;have RS:=zW hr;have RD:=zW hq;have KK:=zW (KK.out.trans hk (fun k e=> .inr (by rw[e];exact GG.out.1)));have II:=zW (CC.out.keep _ _ _ _ II.out hk (fun k h e=>GG.out.2.2 k h e));have cv:=i5 (c:=c4) RS.out.len RS.out.rd;clear hr hq hk C1;by_cases hs:M4=sgn
 ·have VB:=zW (show V=(decide (n0≤1048576)&&decide ((lZ q2 n0).2=([],false)))from by rw[VB.out,zU hs,Bool.true_and]);rw[(SG.out).2 hs]at cv;unfold aC at cv;go_wp2_with fail;refine(C2.out g _ RD.out).mono ?_;rintro e w3 ⟨rfl,ln,hq,hk⟩;have RD:=zW hq;have KK:=zW (KK.out.trans hk (fun k e=> .inr (by rw[e];exact GG.out.1)));have II:=zW (CC.out.keep _ _ _ _ II.out hk (fun k h e=>GG.out.2.2 k h e));have LN:=zW ln;clear hq hk ln cv C2;by_cases hm:n0≤1048576
  ·have VB:=zW (show V=decide ((lZ q2 n0).2=([],false))from by rw[VB.out,zU hm,Bool.true_and]);have m1:¬(1048576:Int)<(n0:Int):=oB;have MO:=zW (gO q2 BY.out n0);have LN:=zW (wT q2);go_wp2_with fail;go_loopw [17] (fun i wr=>∃k:Nat,k≤n0∧i=.int .u64 (k:Int)∧Rdr B g (lZ q2 k).2 wr∧I (lZ q2 k).1 wr∧j5 O w wr) (fun i _=>n0-(intOf i).toNat)
   case atStart=>exact⟨0,zD _,rfl,RD.out,II.out,KK.out⟩
   case round=>
    clear RD II KK
    obtain⟨k,hk,rfl,rd,ii,kk⟩:=hrel
    have RD:=zW rd
    have II:=zW ii
    have KK:=zW kk
    clear rd ii kk
    by_cases hlt:k<n0
    ·have JX:=zW hlt
     have ki:(k:Int)<(n0:Int):=oB
     have RS:=zW (nZ q2 k)
     obtain⟨l,hl⟩:∃l,(lZ q2 k).1=l:=⟨_,rfl⟩
     obtain⟨qa,hqa⟩:∃l,(lZ q2 k).2=l:=⟨_,rfl⟩
     have LL:=zW (show l.length<n0 from by rw[←hl,LN.out];exact hlt)
     rw[hl]at RS II
     rw[hqa]at RS RD
     clear hl hqa
     go_wp2_with fail
     refine(rT B g qa _ RD.out).mono ?_
     rintro e w4 ⟨rfl,hq,hk⟩
     have RD:=zW hq
     have KK:=zW (KK.out.trans hk (fun k e=> .inr (by rw[e];exact GG.out.1)))
     have II:=zW (CC.out.keep _ _ _ _ II.out hk (fun k h e=>GG.out.2.2 k h e))
     clear hq hk
     generalize (rdX qa).x=x at RS⊢
     generalize vN qa=qb at RS RD⊢
     simp only[]
     go_at_K
     go_step
     refine kU (ds:=jA x) j8 lH (jU _) (jU _) (lR _) rfl rfl rfl (.tmp 7) (.tmp 19) rfl oF oF ?_
     simp only[Act.put,zQ,zZ,zJ]
     have R7:=zW (Blk.new w4 48 (jA x))
     have ba:=jI w4 (.cells (jA x) 48)
     have RD:=zW (RD.out.step ba)
     have KK:=zW (KK.out.more ba)
     have II:=zW (CC.out.keep _ _ _ _ II.out (j5.of_below (O:=fun _=>False) ba) (fun _ _ c=>c))
     clear ba
     generalize w4.heap.size=g7 at R7⊢
     generalize World.alloc w4 _=w5 at RD KK II R7⊢
     obtain⟨Ab,nb',cb,hblk,_⟩:=RD.out.blk
     have k1:w5.cell? ⟨g,1,none⟩=some (.bool qb.2):=hblk.cell 1
     clear hblk
     cases hf:qb.2
     ·rw[hf]at k1
      have e7:w5.heap[g7]?=some (.cells (jA x) 48 (0,0)):=R7.out
      clear e7
      go_upto_region 12 with fail
      refine zN ?_
      iterate 3 go_step
      refine j3 j8 R7.out (jU _) rfl (.tmp 7) rfl rfl ?_
      simp only[Act.put,zQ,zZ,zJ]
      have w1k:IntKind.u64.wrap ((k:Int)+1)=((k+1:Nat):Int):=by rw[IntKind.wrap_u64];omega
      have CL:=zW (CC.out.call l x _ II.out LL.out)
      rcases FF.out with rfl|rfl
      all_goals
       go_wp2_with fail
       refine CL.out.mono ?_
       rintro e w6 ⟨rfl,hi,hk⟩
       have II:=zW hi
       have KK:=zW (KK.out.then_ hk)
       have RD:=zW (RD.out.kept hk (fun c=>GG.out.2.2 g c rfl) (fun k h=>CC.out.low k h))
       clear hi hk k1 CL
       go_wp2_with fail
       go_roundw
       case rel=>exact⟨k+1,JX.out,by go_num,by rw[RS.out];exact RD.out,by rw[RS.out];exact II.out,KK.out⟩
       case measure=>have:=JX.out;simp[intOf];omega
     ·rw[hf]at k1
      have e:V=false:=by
       rw[VB.out];refine z0 fun c=>?_;have:=MO.out (by rw[c]) (k+1) JX.out;rw[RS.out]at this;simp only at this;rw[hf]at this;cases this
      subst e
      go_wp2_with fail
      go_ret
      first|exact⟨rfl,fun c=>(by cases c),KK.out⟩|exact⟨rfl,KK.out⟩
    ·obtain rfl:k=n0:=by omega
     have ki:¬(k:Int)<(k:Int):=oB
     obtain⟨qa,hqa⟩:∃l,(lZ q2 k).2=l:=⟨_,rfl⟩
     rw[hqa]at RD VB
     clear hqa MO
     obtain⟨Ab,nb',cb,hblk,hlen,_⟩:=RD.out.blk
     have k1:wr.cell? ⟨g,1,none⟩=some (.bool qa.2):=hblk.cell 1
     have k0:wr.cell? ⟨g,0,none⟩=some (.slice Ab nb' cb):=hblk.cell 0
     clear hblk
     obtain⟨R,f⟩:=qa
     simp only at k1 hlen
     have VE:=zW (show V=decide (f=false∧R.length=0)from by
      rw[VB.out,Bool.eq_iff_iff,zE,zE,jW,List.length_eq_zero_iff];exact⟨fun a=>⟨a.2,a.1⟩,fun a=>⟨a.2,a.1⟩⟩)
     cases f
     ·have e:V=((nb':Int)==0):=by
       rw[VE.out,Bool.eq_iff_iff,zE,beq_iff_eq];exact⟨fun a=>by have:=a.2;omega,fun a=>⟨rfl,by omega⟩⟩
      go_wp2_with fail
      go_ret
      first|exact⟨rfl,fun _=>(by rw[VL.out];exact II.out),KK.out⟩|exact⟨congrArg (fun b=>Ending.returned (.bool b)) e.symm,fun _=>(by rw[VL.out];exact II.out),KK.out⟩
     ·have e:V=false:=by rw[VE.out,z0 (fun c=>(by cases c.1))]
      subst e
      go_wp2_with fail
      go_ret
      first|exact⟨rfl,fun c=>(by cases c),KK.out⟩|exact⟨rfl,KK.out⟩
  ·have e:V=false:=by rw[VB.out,z0 hm,Bool.false_and]
   have m1:(1048576:Int)<(n0:Int):=oB;subst e;go_wp2_with fail;go_ret;first|exact⟨rfl,fun c=>(by cases c),KK.out⟩|exact⟨rfl,KK.out⟩
 ·have e:V=false:=by rw[VB.out,z0 hs,Bool.false_and]
  subst e;obtain⟨z,hz⟩:∃z,strOfNums (toI M4)=z:=⟨_,rfl⟩;have hn:¬z=⟨#[67,56,82,49]⟩:=fun c=>hs (SG.out.1 (hz.trans c));rw[hz]at cv;have hn2:(z.toList==[67,56,82,49])=false:=by
   rw[beq_eq_false_iff_ne];intro c;apply hn
   rw[ByteArray.toList_eq]at c
   have e:z.data=#[67,56,82,49]:=Array.ext' c;cases z
   simp only at e
   rw[e]
  clear hz;go_wp2_with fail;go_ret;first|exact⟨rfl,fun c=>(by cases c),KK.out⟩|exact⟨rfl,KK.out⟩
theorem rA{O:Nat→Prop}{g:Nat}{T:TypeId}{cs:Array Value}{w w':World}(h:Blk g T cs w)(k:j5 O w w')(hn:¬O g):Blk g T cs w':=(k.block g h.lt hn).trans h
theorem hH(gp:Nat)(l:List jO)(r:jO)(w:World)(H:Blk gp 3 #[.int .i64 (l.length:Int)] w)(hl:l.length<4294967296):
  Calls Try.prog 33 #[.agg (jA r),.pointer (some ⟨gp,0,none⟩)] w fun e w'=>e=.returned (.tuple #[])∧Blk gp 3 #[.int .i64 ((l++[r]).length:Int)] w'∧j5 (fun k=>k=gp) w w':=by
 have HH:=zW H;have LE:=zW (show(l++[r]).length=l.length+1 from by rw[zM];rfl);obtain⟨C,hC⟩:∃C,jA r=C:=⟨_,rfl⟩;rw[hC];clear hC H;have ba:=jI w (.cells C 48);have KK:=zW (j5.of_below (O:=fun k=>k=gp) ba);have HH:=zW (HH.out.step ba);clear ba;have w1:IntKind.i64.wrap ((l.length:Int)+1)=(l.length:Int)+1:=by rw[zS];omega
 go_enter Try.func33,Try.ntmps33;go_upto_region 0 with fail;refine zN ?_;refine kT rfl _ (.tmp 0) rfl C rfl ?_;simp only[Act.put,zQ,zZ,zJ];generalize World.alloc w _=w2 at KK HH⊢;have c0:w2.cell? ⟨gp,0,none⟩=some (.int .i64 (l.length:Int)):=HH.out.cell 0;have f0:=HH.out.frozen 0;go_wp2_with fail;first|go_ret|go_end0|skip
 refine⟨rfl,(HH.out.put 0 _).eq ?_,KK.out.then_ kQ⟩;rw[LE.out];rfl
theorem sZ{P:Program}{ops:Array Oper}{rest:List Oper}{op:Oper}{a:Act}{w:World}{Q:Exit→Act→World→Prop}(hgd:op.guard=none)(v:Value)(w':World)(h1:(execOp a.eval op).run P w=.ok (.value v) w')(h:wpList P ops Q rest (a.put op.dst v) w'):wpList P ops Q (op::rest) a w:=
 zI hgd fun K hK=>by unfold Oper.wp;rw[h1];exact hK _ _ h
theorem v8(w:World)(ty:TypeId)(base g n N:Nat)(l:List jO)(r:jO)(hown:w.ownsRow base 48 535 (.slice (some ⟨g,0,none⟩) n N) n (kV l))(ad:Addr)(c:Nat)(hc:∀j u,(jA r).toList[j]?=some u→w.cell? (ad.add j)=some u)(hr:n+1≤N):
  ∃w',(Builtin.append_ #[24,24] ty #[.slice (some ⟨g,0,none⟩) n N,.slice (some ad) 1 c]).run Try.prog w=.ok (.slice (some ⟨g,0,none⟩) (n+1) N) w'∧w'.ownsRow base 48 535 (.slice (some ⟨g,0,none⟩) (n+1) N) (n+1) (kV (l++[r]))∧j5 (fun k=>k=g) w w':=by
 obtain⟨i,hi,hz,hs,hb⟩:=uL;rcases hown.2 with⟨e,_⟩|⟨g',cap,cur,e,hbg,hg,hnc,hcm,hcs,htake⟩
 ·cases e
 ·injection e with e1 e2 e3
  injection e1 with e1
  injection e1 with e1
  subst e1 e3;have hl:=cC r;have hlen:(kV (l++[r])).length=(n+1)*535:=by rw[cY,zM,hown.1,hl];omega
  have hfit:n*i.size+(jA r).toList.length≤cur.size:=by rw[hl,hs,hcs];have:(n+1)*535≤N*535:=Nat.mul_le_mul_right _ hr;omega
  have hrun:=run_append_room (P:=Try.prog) w 24 ty 48 i Try.underlying24 hi g n N cur hg ad 1 c (jA r).toList (by rw[hl,hs]) hc (tN r) hr hfit;refine⟨_,hrun,⟨hlen,.inr ⟨g,N,_,rfl,hbg,setRow_heap w g cur _ _ _ hg,hr,hcm,?_,?_⟩⟩,m7⟩
  ·simp only[jF,zM,qH,jP,Array.length_toList];have h2:=jU r;rw[hs]at hfit⊢;rw[hl]at hfit;omega
  ·rw[hs,htake,←hlen,cY];exact List.take_left
structure cT(base gp gr N:Nat)(l:List jO)(w:World):Prop where
 cell:Blk gp 24 #[.slice (some ⟨gr,0,none⟩) l.length N] w
 own:w.ownsRow base 48 535 (.slice (some ⟨gr,0,none⟩) l.length N) l.length (kV l)
 base_le:base≤w.heap.size
theorem cT.keep{base gp gr N:Nat}{l:List jO}{w w':World}{O:Nat→Prop}(h:cT base gp gr N l w)(k:j5 O w w')(h1:¬O gp)(h2:¬O gr):cT base gp gr N l w':=
 ⟨rA h.cell k h1,j2 h.own k (fun b e c=>h2 (by injection e with e;have e:gr=b:=e;rw[e];exact c)),zT h.base_le k.size⟩
theorem u3(base gp gr N:Nat)(l:List jO)(r:jO)(w:World)(H:cT base gp gr N l w)(hl:l.length<N)(hN:N≤1048576)(hne:gp≠gr):
  Calls Try.prog 34 #[.agg (jA r),.pointer (some ⟨gp,0,none⟩)] w fun e w'=>e=.returned (.tuple #[])∧cT base gp gr N (l++[r]) w'∧j5 (fun k=>k=gp∨k=gr) w w':=by
 have HH:=zW H;have LE:=zW (show(l++[r]).length=l.length+1 from by rw[zM];rfl);have NE:=zW (zC hne (zC hl hN));clear H;have ba:=jI w (.cells (jA r) 48);have KK:=zW (j5.of_below (O:=fun k=>k=gp∨k=gr) ba);have GP:=zW (show gp<w.heap.size∧gr<w.heap.size from⟨HH.out.cell.lt,(HH.out.own.lt gr rfl).2⟩);have HH:=zW (HH.out.keep (O:=fun _=>False) (j5.of_below ba) id id);have K1:=zW (Blk.new w 48 (jA r));clear ba;go_enter Try.func34,Try.ntmps34;go_upto_region 0 with fail;refine zN ?_;refine kT rfl _ (.tmp 0) rfl (jA r) rfl ?_;simp only[Act.put,zQ,zZ,zJ];generalize w.heap.size=g1 at K1 GP⊢;generalize World.alloc w _=w2 at KK HH K1⊢;have c0:w2.cell? ⟨gp,0,none⟩=some (.slice (some ⟨gr,0,none⟩) l.length N):=HH.out.cell.cell 0;go_upto_region 1 with fail;refine zN ?_;iterate 3 go_step
 refine j3 j8 K1.out (jU _) rfl (.tmp 2) rfl oD ?_;simp only[Act.put,zQ,zZ,zJ];refine kC (C:=jA r) Try.underlying24 j8 lH (jU _) (jU _) oR oR rfl (.tmp 4) rfl oD ?_;simp only[Act.put,zQ,zZ,zJ];have ba:=jI w2 (.cells (jA r) 48);have KK:=zW (KK.out.more ba);have HH:=zW (HH.out.keep (O:=fun _=>False) (j5.of_below ba) id id);have CN:=zW (mH w2 (jA r) 48);have G2:=zW (show gr<(w2.alloc (.cells (jA r) 48)).heap.size from(HH.out.own.lt gr rfl).2);clear ba c0;generalize w2.heap.size=g2 at CN⊢;generalize World.alloc w2 _=w3 at KK HH CN G2⊢;obtain⟨w4,hrun,ho,hk⟩:=v8 w3 24 base gr l.length N l r HH.out.own ⟨g2,0,none⟩ 1 CN.out (by have:=NE.out.2;omega);have HO:=zW ho;have HC:=zW (rA HH.out.cell hk (fun e=>NE.out.1 e));have KK:=zW (KK.out.then_ (hk.mono (O':=fun k=>k=gp∨k=gr) fun k _ e=> .inr e));have BL:=zW (zT HH.out.base_le hk.size);clear ho hk;refine sZ rfl (.slice (some ⟨gr,0,none⟩) (l.length+1) N) w4 (by
  unfold execOp;simp only[resolve,invoke,builtin,zH,Sem.run_pure,Result.andThen_ok,List.map_toArray,List.map_cons,List.map_nil,Act.eval];simp[hrun]) ?_
 clear hrun;simp only[Act.put,zQ,zZ,zJ];have c0:w4.cell? ⟨gp,0,none⟩=some (.slice (some ⟨gr,0,none⟩) l.length N):=HC.out.cell 0;have f0:=HC.out.frozen 0;go_wp2_with fail;first|go_ret|go_end0|skip
 refine⟨rfl,⟨?_,?_,by simpa [World.setCell]using BL.out⟩,KK.out.then_ ((kQ (b:=gp) (j:=0)).mono fun k _ e=> .inl e)⟩
 ·rw[LE.out];exact HC.out.put 0 _
 ·rw[LE.out];exact j2 HO.out kQ (fun b e c=>NE.out.1 (by injection e with e;have e:gr=b:=e;rw[e];exact c.symm))
def Dec23(L:List Nat)(w:World)(e:Ending)(w':World):Prop:=
 Below w.heap.size w w'∧((cX L=true∧∃g,e=.returned (.tuple #[.slice (some ⟨g,0,none⟩) (nP L).length (nP L).length,.int .i64 0])∧w'.ownsRow w.heap.size 48 535 (.slice (some ⟨g,0,none⟩) (nP L).length (nP L).length) (nP L).length (kV (nP L)))∨(cX L=false∧e=.returned (.tuple #[.slice none 0 0,.int .i64 6])))
theorem s8(L:List Nat):(nP L).length=(cL L).1:=wT _ _
theorem iJ(L:List Nat)(hb:∀b∈L,b<256):(cL L).1<4294967296:=by
 unfold cL j4;have h:=dJ _ (vF 4 (rdB 4 (L,false)).2 (vF 4 (L,false) hb).2).1;refine zG h (zT (Nat.pow_le_pow_right oR (rS 4 _)) oR)
theorem gN{L:List Nat}(h:cX L=true):(cL L).1≤1048576:=by
 unfold cX at h;simp only[zR,zE]at h;exact h.2.1
theorem xY(L:List Nat)(hb:∀b∈L,b<256)(A:Option Addr)(n c:Nat)(hn:L.length=n)(hc:n≤c)(hm:c≤maxLen)(w:World)(hR:Rd w A (toI L)):
  Calls Try.prog 16 #[.slice A n c] w (Dec23 L w):=by
 have RR:=zW (zC hb (zC hn (zC hc (zC hm (zC hR (show L≠[]→∀ad,A=some ad→ad.block<w.heap.size from fun hne ad e=>hR.block_lt' (fun c=>hne (List.map_eq_nil_iff.1 c)) e))))));have N32:=zW (iJ L hb);have NL:=zW (s8 L);clear hb hn hc hm hR;go_enter Try.func16,Try.ntmps16;have K1:=zW (Blk.new w 3 #[.int .i64 0]);have BB:=zW (jI w (.cells #[.int .i64 0] 3));go_wp2_with fail;obtain⟨g4,hg4⟩:∃g,w.heap.size=g:=⟨_,rfl⟩;rw[hg4]at K1⊢;have G4:=zW (jK hg4);clear hg4;generalize World.alloc w _=w1 at K1 BB⊢;have VV:=zW (u9 L RR.out.1 w.heap.size A n c RR.out.2.1 RR.out.2.2.1 RR.out.2.2.2.1 w1 BB.out.size (RR.out.2.2.2.2.1.below BB.out) RR.out.2.2.2.2.2 (fun k=>k=g4) (fun l w=>Blk g4 3 #[.int .i64 (l.length:Int)] w) 33 g4
  ⟨fun l r w h hl=>hH g4 l r w h (Nat.lt_trans hl N32.out),fun l w w' O' h k hO=>rA h k (hO g4 rfl),fun k e=>by rw[e];exact G4.out,fun k e=>by rw[e];exact K1.out.lt⟩ K1.out (.inl rfl))
 refine VV.out.mono ?_;rintro e w2 ⟨rfl,hi,hk⟩;have BB:=zW (BB.out.trans (hk.below BB.out.size fun k e=>by rw[e];exact G4.out));have II:=zW hi;clear hi hk VV K1;cases hv:cX L
 ·go_wp2_with fail;go_ret2;exact⟨BB.out,.inr ⟨hv,rfl⟩⟩
 ·have K1:=zW (II.out hv);have HV:=zW hv;clear II hv;have ns:=gN HV.out;obtain⟨N,hN⟩:∃N,(nP L).length=N:=⟨_,rfl⟩;have NN:=zW hN;have N1:=zW (show N≤1048576∧(cL L).1=N from by rw[←NL.out]at ns;exact⟨by omega,by rw[←NL.out];exact hN⟩);rw[hN]at K1;clear hN ns;have c0:w2.cell? ⟨g4,0,none⟩=some (.int .i64 (N:Int)):=K1.out.cell 0;obtain⟨i,hi,hz,hs,hbt⟩:=uL;obtain⟨w3,mk,ho,hg⟩:=run_make_own (P:=Try.prog) w2 w.heap.size 24 48 i (.agg (jA kK)) 535 Try.underlying24 hi hz hs .i64 .i64 N (zT (Nat.mul_le_mul hbt N1.out.1) oR) (by unfold maxLen;have:=N1.out;omega) BB.out.size;clear hi hz hs hbt;have bg:=gQ hg;have BB:=zW (BB.out.trans (bg.mono BB.out.size));have K1:=zW (K1.out.step bg);have HO:=zW ho;clear ho hg bg;go_wp2_with fail;clear c0 mk;obtain⟨gr,hgr⟩:∃g,w2.heap.size=g:=⟨_,rfl⟩;rw[hgr]at HO⊢;clear hgr;have K5:=zW (Blk.new w3 24 #[.slice (some ⟨gr,0,none⟩) 0 N]);have ba:=jI w3 (.cells #[.slice (some ⟨gr,0,none⟩) 0 N] 24);have GR:=zW (show gr<w3.heap.size∧w.heap.size≤gr∧w.heap.size≤w3.heap.size from⟨(HO.out.lt gr rfl).2,(HO.out.lt gr rfl).1,BB.out.size⟩);have BB:=zW (BB.out.trans (ba.mono BB.out.size));have MD:=zW (show cT w.heap.size w3.heap.size gr N [] (w3.alloc (.cells #[.slice (some ⟨gr,0,none⟩) 0 N] 24))from⟨K5.out,j2 (O:=fun _=>False) HO.out (j5.of_below ba) (fun _ _ c=>c),BB.out.size⟩);have G5:=zW (show w3.heap.size<(w3.alloc (.cells #[.slice (some ⟨gr,0,none⟩) 0 N] 24)).heap.size from K5.out.lt);clear ba K5 HO K1;generalize w3.heap.size=g5 at MD GR G5⊢;generalize World.alloc w3 _=w5 at MD BB G5⊢;have VV:=zW (u9 L RR.out.1 w.heap.size A n c RR.out.2.1 RR.out.2.2.1 RR.out.2.2.2.1 w5 BB.out.size (RR.out.2.2.2.2.1.below BB.out) RR.out.2.2.2.2.2 (fun k=>k=g5∨k=gr) (cT w.heap.size g5 gr N) 34 g5
   ⟨fun l r w h hl=>u3 _ g5 gr N l r w h (by rw[N1.out.2]at hl;exact hl) N1.out.1 (by have:=GR.out;omega),fun l w w' O' h k hO=>h.keep k (hO g5 (.inl rfl)) (hO gr (.inr rfl)),fun k e=>by rcases e with e|e<;>(rw[e];have:=GR.out;omega),fun k e=>by rcases e with e|e<;>(rw[e];have:=GR.out;have:=G5.out;omega)⟩ MD.out (.inr rfl))
  refine VV.out.mono ?_;rintro e w6 ⟨rfl,hi,hk⟩;have BB:=zW (BB.out.trans (hk.below BB.out.size fun k e=>by rcases e with e|e<;>(rw[e];have:=GR.out;omega)));have MD:=zW (hi HV.out);clear hi hk VV;have c0:w6.cell? ⟨g5,0,none⟩=some (.slice (some ⟨gr,0,none⟩) N N):=by
   have h:=MD.out.cell.cell 0;rw[NN.out]at h;exact h
  go_wp2_with fail;go_ret2;have h:=MD.out.own;rw[NN.out]at h;refine⟨BB.out,.inl ⟨HV.out,gr,?_,?_⟩⟩
  ·rw[NN.out];rfl
  ·rw[NN.out];exact h
theorem uB(l:List jO):(mN l).length=8+(l.flatMap kS).length:=by
 unfold mN;rw[zM,zM,kL];show 4+(4+_)=_;omega
theorem cR(l:List jO)(A:Option Addr)(n c N:Nat)(hn:l.length=n)(hN:(mN l).length=N)(hv:mE l=true)(w:World)(H:mD A l w)(ok:∀r∈l,OkI r)(h1:n≤30000)(h2:N≤900000):
  Calls Try.prog 13 #[.slice A n c] w fun e w'=>∃D d,e=.returned (.tuple #[.slice D N d,.int .i64 0])∧w'.ownsRow w.heap.size 5 1 (.slice D N d) N (byV (mN l))∧Below w.heap.size w w':=by
 subst hN;refine(xW l A n c hn w H ok h1 (by have:=uB l;omega)).mono ?_;rintro e w' ⟨hb,⟨_,D,d,e1,e2⟩|⟨hf,_⟩⟩
 ·exact⟨D,d,e1,e2,hb⟩
 ·rw[hv]at hf;cases hf
theorem wC(l:List jO)(A:Option Addr)(n c:Nat)(hn:l.length=n)(hv:mE l=false)(w:World)(H:mD A l w)(ok:∀r∈l,OkI r)(h1:n≤30000)(h2:(l.flatMap kS).length≤900000):
  Calls Try.prog 13 #[.slice A n c] w fun e w'=>e=.returned (.tuple #[.slice none 0 0,.int .i64 5])∧Below w.heap.size w w':=by
 refine(xW l A n c hn w H ok h1 h2).mono ?_;rintro e w' ⟨hb,⟨hf,_⟩|⟨_,e1⟩⟩
 ·rw[hv]at hf;cases hf
 ·exact⟨e1,hb⟩
theorem gF(l:List jO):∀m,xH l m→kV l=kV m∧l.length=m.length:=by
 induction l with
 |nil=>
  intro m h
  cases m with
  |nil=>exact⟨rfl,rfl⟩
  |cons _ _=>exact h.elim
 |cons r l ih=>
  intro m h
  cases m with
  |nil=>exact h.elim
  |cons q m=>
   obtain⟨h1,h2⟩:=ih m h.2
   refine⟨?_,by rw[List.length_cons,List.length_cons,h2]⟩
   show(jA r).toList++kV l=(jA q).toList++kV m
   rw[h.1.cells,h1]
theorem bP(L:List Nat)(hb:∀b∈L,b<256)(hv:cX L=true)(A:Option Addr)(n c:Nat)(hn:L.length=n)(hc:n≤c)(hm:c≤maxLen)(w:World)(hR:Rd w A (toI L)):
  Calls Try.prog 16 #[.slice A n c] w fun e w'=>∃g,e=.returned (.tuple #[.slice (some ⟨g,0,none⟩) (nP L).length (nP L).length,.int .i64 0])∧w'.ownsRow w.heap.size 48 535 (.slice (some ⟨g,0,none⟩) (nP L).length (nP L).length) (nP L).length (kV (nP L))∧Below w.heap.size w w':=by
 refine(xY L hb A n c hn hc hm w hR).mono ?_;rintro e w' ⟨hbl,⟨_,g,e1,e2⟩|⟨hf,_⟩⟩
 ·exact⟨g,e1,e2,hbl⟩
 ·rw[hv]at hf;cases hf
theorem sT(L:List Nat)(hb:∀b∈L,b<256)(hv:cX L=false)(A:Option Addr)(n c:Nat)(hn:L.length=n)(hc:n≤c)(hm:c≤maxLen)(w:World)(hR:Rd w A (toI L)):
  Calls Try.prog 16 #[.slice A n c] w fun e w'=>e=.returned (.tuple #[.slice none 0 0,.int .i64 6])∧Below w.heap.size w w':=by
 refine(xY L hb A n c hn hc hm w hR).mono ?_;rintro e w' ⟨hbl,⟨hf,_⟩|⟨_,e1⟩⟩
 ·rw[hv]at hf;cases hf
 ·exact⟨e1,hbl⟩
theorem i3(r:jO)(h:OkE r):∀b∈kS r,b<256:=by
 intro b hb;unfold kS yJ at hb;simp only[List.mem_append,List.mem_cons,jX,z9,jE,or_false]at hb;have h1:=h.n.pt;have h2:=h.k;have h3:=h.c;have pl:∀k,b∈plK r k→b<256:=fun k hk=>by
  unfold plK at hk;split at hk
  ·cases hk
  ·unfold plB at hk;rw[List.mem_flatMap]at hk;obtain⟨y,_,hy⟩:=hk;exact xZ 16 _ _ hy
 rcases hb with((hb|hb)|(⟨j,hj,hb⟩|((hb|hb)|(hb|(hb|hb)))))|hb
 ·rw[hb];exact bI _ _
 ·rw[hb];omega
 ·have:=h.n.pat j hj;rw[←hb];omega
 ·rw[hb];omega
 ·rw[hb];omega
 ·exact xZ 2 _ _ hb
 ·exact xZ 8 _ _ hb
 ·rw[hb];have:=dZ r;omega
 ·unfold pU at hb;simp only[List.mem_append]at hb;rcases hb with hb|hb|hb|hb
  ·exact pl 0 hb
  ·exact pl 1 hb
  ·exact pl 2 hb
  ·exact pl 3 hb
theorem i4(l:List jO)(h:∀r∈l,OkE r):∀b∈mN l,b<256:=by
 intro b hb;unfold mN at hb;simp only[List.mem_append]at hb;rcases hb with hb|hb|hb
 ·simp only[List.mem_cons,jE,or_false]at hb;omega
 ·exact xZ 4 _ _ hb
 ·rw[List.mem_flatMap]at hb;obtain⟨r,hr,hb⟩:=hb;exact i3 r (h r hr) b hb
theorem dO{l:List jO}(ok:∀r∈l,OkI r)(hv:mE l=true):∀r∈l,OkE r:=fun r hr=>by
 unfold mE at hv;exact wQ (ok r hr) (z4.1 hv r hr)
theorem bE(l:List jO)(ok:∀r∈l,OkI r)(hv:mE l=true)(k:Nat)(hk:l.length=k)(k1:k≤30000)(A:Option Addr)(n c:Nat)(hn:(mN l).length=n)(hc:n≤c)(hm:c≤maxLen)(w:World)(hR:Rd w A (toI (mN l))):
  Calls Try.prog 16 #[.slice A n c] w fun e w'=>∃g,e=.returned (.tuple #[.slice (some ⟨g,0,none⟩) k k,.int .i64 0])∧w'.ownsRow w.heap.size 48 535 (.slice (some ⟨g,0,none⟩) k k) k (kV l)∧Below w.heap.size w w':=by
 have oe:=dO ok hv;obtain⟨h1,h2⟩:=aD l oe hv oB;obtain⟨h3,h4⟩:=gF _ _ h2;have h:=bP (mN l) (i4 l oe) h1 A n c hn hc hm w hR;rw[h3,h4,hk]at h;exact h
theorem sH{l:List jO}{x:Int}(h:bO l l x):x= -1:=by
 rcases h with⟨k,rfl,h1,h2,_⟩|⟨h,_⟩
 ·have hl:k<l.length:=by rcases h1 with h|h<;>exact h
  exact absurd ⟨hl,hl,fE _⟩ h2
 ·exact h
theorem fC{r:jO}{x:Int}(h:bO [r] [] x):x=0:=by
 rcases h with⟨k,rfl,h1,_,_⟩|⟨_,h,_⟩
 ·simp at h1;simp[h1]
 ·cases h
theorem mD.one(w:World)(r:jO):mD (some ⟨w.heap.size,0,none⟩) [r] (w.alloc (.cells (jA r) 48)):=fun _=>⟨_,rfl,by simp,fun i hi j v hv=>by
 obtain rfl:i=0:=by simp at hi;omega
 have h:=mH w (jA r) 48 j v hv;rw[xO]at h;rw[Nat.zero_mul,←h]⟩
theorem eR(x:jO)(i y:Nat)(hi:i<4)(hy:y<64)(h:BitVec 64):(jA x).setIfInBounds (i*128+2*y) (.int .u64 (h.toNat:Int))=jA {x with P:=fun k=>if k=i then nI (x.P i) y (h++lo (x.P i y))else x.P k}:=lL _ _ fun j hj=>by
 unfold kI;by_cases e:j<512
 ·rw[zL e,zL e];simp only[];by_cases e1:j=i*128+2*y
  ·rw[zL e1,show j/128=i by omega,show j%128=2*y by omega,zL rfl,v4,mR,m8]
  ·rw[zY e1];by_cases e2:j/128=i
   ·rw[zL e2,e2];unfold lQ;by_cases e3:j%128/2=y
    ·rw[e3,mR,m6,zY oB,zY oB]
    ·rw[nE _ _ _ _ e3]
   ·rw[zY e2]
 ·rw[zY (show¬j=i*128+2*y by omega),zY e,zY e]
theorem gP(x:jO)(i y:Nat)(hi':i<4)(hy:y<64)(h:BitVec 64):(jA x).setIfInBounds (i*128+2*y+1) (.int .u64 (h.toNat:Int))=jA {x with P:=fun k=>if k=i then nI (x.P i) y (hi (x.P i y)++h)else x.P k}:=lL _ _ fun j hj=>by
 unfold kI;by_cases e:j<512
 ·rw[zL e,zL e];simp only[];by_cases e1:j=i*128+2*y+1
  ·rw[zL e1,show j/128=i by omega,show j%128=2*y+1 by omega,zL rfl,cS,mR,m6]
  ·rw[zY e1];by_cases e2:j/128=i
   ·rw[zL e2,e2];unfold lQ;by_cases e3:j%128/2=y
    ·rw[e3,mR,m8,zL oB,zL oB]
    ·rw[nE _ _ _ _ e3]
   ·rw[zY e2]
 ·rw[zY (show¬j=i*128+2*y+1 by omega),zY e,zY e]
theorem eT(x:jO)(k c p y:Int):kW (jA x) 531 (lY k c p y)=jA {x with k:=k,c:=c,p:=p,y:=y}:=vR (by show 531+4≤535;omega) (fun j hj=>by
  have hj:j<4:=hj;rcases(show j=0∨j=1∨j=2∨j=3 by omega)with rfl|rfl|rfl|rfl<;>rfl) fun j hj ho=>by
  have ho:j<531∨535≤j:=ho;unfold kI;by_cases e:j<512
  ·rw[zL e,zL e]
  ·by_cases e3:514≤j∧j<530
   ·rw[zY oB,zY oB,zY oB,zL e3.2,zY oB,zY oB,zY oB,zL e3.2]
   ·rcases(show j=512∨j=513∨j=530 by omega)with rfl|rfl|rfl<;>rfl
end
end Go.Proofs.Ytilideoeaecoaaa
