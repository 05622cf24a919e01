/- RecLaw, RecRefD, RecRefE, RecMatchW. -/
import Derived.Test.YtilideoeaecoaaaMRecAwake
import Derived.Test.YtilideoeaecoaaaMRecFwd
set_option maxRecDepth 400000
set_option maxHeartbeats 64000000
set_option linter.unusedVariables false
set_option linter.unusedSimpArgs false
namespace Go.Proofs.Ytilideoeaecoaaa
section
open Go.RowKit Num
theorem tH{c:Cd}(h:sU c):OkI (kM c):=⟨⟨h.pat,h.pt⟩,h.y⟩
def mV(l:List Cd)(k:Nat):List jO:=(l.take k).map kM
theorem gS{l:List Cd}{k:Nat}(h:k<l.length):mV l (k+1)=mV l k++[kM l[k]]:=by
 unfold mV;rw[List.take_add_one,qD,z8 h];rfl
theorem eG{l:List Cd}{k:Nat}(h:k≤l.length):(mV l k).length=k:=by unfold mV;simp;omega
theorem pB{l:List Cd}(h:∀i (hi:i<l.length),sU l[i])(k:Nat):∀r∈mV l k,OkI r:=fun r hr=>by
 unfold mV at hr;obtain⟨c,hc,rfl⟩:=jX.1 hr;obtain⟨i,hi,rfl⟩:=List.getElem_of_mem (List.mem_of_mem_take hc);exact tH (h i hi)
theorem mD.take{A:Option Addr}{l:List jO}{w:World}(h:mD A l w)(k:Nat):mD A (l.take k) w:=fun hne=>by
 obtain⟨g,e,hr⟩:=h (by rintro rfl;simp at hne);exact⟨g,e,hr.lt,fun i hi j v hv=>by
  rw[qH]at hi;rw[jD]at hv;exact hr.at_ i oB j v hv⟩
section
variable {base:Nat} {v0 v:Value} {w w1:World} {M N:List Nat}
theorem y8(ty:TypeId)(H:ApK base v0 w w1 v M)(h4:M.length≠4)(A:Option Addr)(m c:Nat)(N:List Nat)(hR:Rd w1 A (toI N))(hL:N.length=m)(h63:M.length+m≤1000000):
  ∃A' n' c' w',(Builtin.append_ #[27,27] ty #[v,.slice A m c]).run Try.prog w1=.ok (.slice A' n' c') w'∧ApK base v0 w w' (.slice A' n' c') (M++N):=by
 rcases Nat.eq_zero_or_pos m with hm|hm
 ·subst hm;obtain rfl:N=[]:=qB hL;have ho:=H.own.plain h4;obtain⟨i0,hi,hz0,hz1,hz2⟩:=jB vP;cases A with
  |none=>
   obtain⟨A',c',hv⟩:=lD ho
   subst hv
   refine⟨A',M.length,c',w1,?_,by simpa using H⟩
   rcases ho.2 with⟨e,e2⟩|⟨g,cap,cur,e,_,_,hnc,_⟩
   ·injection e with e1 e3 e4
    subst e1 e4
    rw[e3]
    simp[Builtin.append_,z7 Try.underlying27,sizeOf,typeInfo,hi,Builtin.lenOf,Builtin.firstCells]
   ·injection e with e1 e3 e4
    subst e1 e4
    simp[Builtin.append_,z7 Try.underlying27,sizeOf,typeInfo,hi,Builtin.lenOf,Builtin.firstCells,hnc,storeCells]
  |some ad=>
   have hb1:base≤w1.heap.size:=zT H.base_le H.grown.size
   obtain⟨v',w',hrun,h2,h3,_,h5⟩:=run_append_own_at (P:=Try.prog) w1 base 27 ty 5 i0 (.int .u8 0) 1 1 Try.underlying27 hi hz0 hz1 hz2 rfl oB v M.length _ ho ad 0 c [] rfl (fun j u hu=>by simp at hu) (fun u hu=>by cases hu) oE oB hb1
   rw[Nat.add_zero,z5]at h2
   obtain⟨A',c',hv⟩:=lD h2
   subst hv
   exact⟨A',_,c',w',hrun,by rw[z5];exact H.trans ⟨hb1,.inl h2,h3,h5.imp id fun e=>⟨_,e,zP _⟩⟩⟩
 ·exact nR ty H A m c N hR hL hm h63
theorem cF{ops:Array Oper}{rest:List Oper}{o:Oper}{a:Act}{Q:Exit→Act→World→Prop}(hgd:o.guard=none)(s x:Operand)
  (ho:o.op=.call {callee:=.builtin .append,args:=#[s,x],argTypes:=#[27,27]}) (H:ApK base v0 w w1 v M) (h4:M.length≠4) (hs:a.eval s=v)
  (A:Option Addr) (m c:Nat) (N:List Nat) (hx:a.eval x=.slice A m c) (hR:Rd w1 A (toI N)) (hL:N.length=m) (h63:M.length+m≤1000000)
  (h:∀A' n' c' w',ApK base v0 w w' (.slice A' n' c') (M++N)→wpList Try.prog ops Q rest (a.put o.dst (.slice A' n' c')) w'):wpList Try.prog ops Q (o::rest) a w1:=by
 refine zI hgd fun K hK=>?_;obtain⟨A',n',c',w',hrun,h2⟩:=y8 o.type H h4 A m c N hR hL h63;exact o8
end
structure RrD where
 A:Option Addr
 cA:Nat
 B:Option Addr
 cB:Nat
 gs:List Nat
 F:Nat→Nat→Bool
 r:jO
instance:Inhabited RrD:=⟨⟨none,0,none,0,[],fun _ _=>false,kK⟩⟩
def rrD(d:RrD):Array Value:=rrC d.A 4 d.cA d.B 16 d.cB d.r
structure xG(N:Nat)(d:RrD)(w:World):Prop where
 ok:gK N d.A d.gs d.F d.B d.r.pat w
 P:∀i,i<4→d.r.P i=fwd (d.F i)
theorem xG.step{N:Nat}{d:RrD}{w w':World}(h:xG N d w)(hb:Below w.heap.size w w'):xG N d w':=⟨h.ok.step hb,h.P⟩
structure RrL(N:Nat)(A:Option Addr)(l:List RrD)(w:World):Prop where
 row:l≠[]→∃g,A=some ⟨g,0,none⟩∧g<w.heap.size∧∀i (h:i<l.length),w.rangeAt g (i*9) (rrD l[i]).toList
 is:∀i (h:i<l.length),xG N l[i] w
theorem RrL.step{N:Nat}{A:Option Addr}{l:List RrD}{w w':World}(h:RrL N A l w)(hb:Below w.heap.size w w'):RrL N A l w':=
 ⟨fun hne=>by
  obtain⟨g,e,lt,r⟩:=h.row hne;exact⟨g,e,zG lt hb.size,fun i hi j v hv=>(hb.cell (p:=⟨g,i*9+j,none⟩) lt).trans (r i hi j v hv)⟩,fun i hi=>(h.is i hi).step hb⟩
theorem RrL.at_{N:Nat}{A:Option Addr}{l:List RrD}{w:World}(h:RrL N A l w){i:Nat}(hi:i<l.length):∃g,A=some ⟨g,0,none⟩∧g<w.heap.size∧w.rangeAt g (i*9) (rrD l[i]).toList:=by
 obtain⟨g,e,lt,r⟩:=h.row (by rintro rfl;simp at hi);exact⟨g,e,lt,r i hi⟩
def usT(r:jO):Nat→Nat
 |0=>0
 |k+1=>usT r k+(if kJ (r.P k)=true then 0 else 2^k)
theorem pQ(r:jO):usT r 4=lK r:=by
 unfold lK;simp only[usT];cases kJ (r.P 0)<;>cases kJ (r.P 1)<;>cases kJ (r.P 2)<;>cases kJ (r.P 3)<;>rfl
theorem s9(r:jO)(k:Nat):usT r k<2^k:=by
 induction k with
 |zero=>exact Nat.zero_lt_one
 |succ k ih=>
  rw[usT,Nat.pow_succ]
  split<;>omega
theorem eC(r:jO)(k:Nat):(lT r k).length%1024=0:=by
 induction k with
 |zero=>rfl
 |succ k ih=>
  rw[mM,zM,vK]
  split<;>omega
theorem pC(r:jO)(k:Nat)(h:kJ (r.P k)=true):lT r (k+1)=lT r k:=by
 rw[mM,show plK r k=if kJ (r.P k)=true then[]else plB (r.P k)from rfl,zL h,z5]
theorem eE(r:jO)(k:Nat)(h:kJ (r.P k)=false):lT r (k+1)=lT r k++plB (r.P k):=by
 rw[mM,show plK r k=if kJ (r.P k)=true then[]else plB (r.P k)from rfl,zY (by rw[h];decide)]
theorem usT_no(r:jO)(k:Nat)(h:kJ (r.P k)=true):usT r (k+1)=usT r k:=by
 rw[usT,zL h,Nat.add_zero]
theorem aF(r:jO)(k:Nat)(h:kJ (r.P k)=false):usT r (k+1)=usT r k+2^k:=by
 rw[usT,zY (by rw[h];decide)]
theorem uN(l:List jO)(k:Nat)(h:l.length≤k):(l.flatMap kS).length≤k*4127:=by
 have hh:∀l:List jO,(l.flatMap kS).length≤l.length*4127:=by
  intro l;induction l with
  |nil=>exact zP _
  |cons r l ih=>
   rw[List.flatMap_cons,zM,List.length_cons]
   have:=dS r
   omega
 exact zT (hh l) (Nat.mul_le_mul_right _ h)
theorem uI(N:Nat)(hN:N=8192)(l:List RrD)(A:Option Addr)(n c:Nat)(hn:l.length=n)(w:World)(H:RrL N A l w)(ok:∀i (h:i<l.length),OkE l[i].r)(h1:n≤30):
  Calls Try.prog 15 #[.slice A n c] w (gW (mN (l.map RrD.r)) w):=by
 have NN:=zW hN;have HN:=zW hn;have H0:=zW H;have OK:=zW ok;have cv:=Lib.run_convert_bytes_const (P:=Try.prog) w 27 5 #[.int .u8 67,.int .u8 56,.int .u8 82,.int .u8 49] 4 4 Try.underlying27 Try.underlying5;have ba:Below w.heap.size w (w.alloc (.cells #[.int .u8 67,.int .u8 56,.int .u8 82,.int .u8 49] 5 (4,5))):=jI w _;have BB:=zW ba;have AP:=zW (show ApK w.heap.size (.slice (some ⟨w.heap.size,0,none⟩) 4 4) (w.alloc (.cells #[.int .u8 67,.int .u8 56,.int .u8 82,.int .u8 49] 5 (4,5))) (w.alloc (.cells #[.int .u8 67,.int .u8 56,.int .u8 82,.int .u8 49] 5 (4,5))) (.slice (some ⟨w.heap.size,0,none⟩) 4 4) sgn from
  .refl ba.size (.inr ⟨_,rfl,zP _,qP w _,rfl,rfl⟩))
 clear hN hn H ok ba;go_enter Try.func15,Try.ntmps15;go_wp2_with fail;clear cv;generalize World.alloc w _=w1 at AP BB⊢;refine(vB n 4 oB oR w1).mono ?_;rintro e w2 ⟨A2,c2,rfl,ho,hb⟩;rw[kL]at ho;have B1:=BB;have AP:=zW (AP.out.step hb);have BB:=zW (BB.out.trans (hb.mono BB.out.size));have R2:=zW (mU ho);clear ho hb;rw[kL];go_upto_region 2 with((at_builtin;refine kZ rfl (.tmp 11) (.tmp 14) rfl AP.out rfl A2 4 c2 (nb 4 n) rfl R2.out (kL _ _) oR (by show 4+4≤1000000;decide) ?_;intro A3 n3 c3 w3 hap));have BB:=zW (B1.out.trans (hap.below (fun g e=>by injection e with e;have e:w.heap.size=g:=e;omega)));clear B1;have EL:=zW (show sgn++nb 4 n++((l.map RrD.r).take n).flatMap kS=mN (l.map RrD.r)from by
  rw[show(l.map RrD.r).take n=l.map RrD.r from qE (by rw[z6,HN.out];exact zP _)];unfold mN sgn;rw[z6,HN.out,zB])
 have LH:=zW (show(sgn++nb 4 n).length=8 from by rw[zM,kL];rfl);have AP:=zW hap;clear hap R2;generalize sgn++nb 4 n=H at AP EL LH;have AP:=zW AP.out.start;have FB:=zW (fun k=>uN ((l.map RrD.r).take k) k (by rw[qH];exact Nat.min_le_left _ _));go_wp2_with fail;go_loopw [3,4] (fun v i wr=>∃k A' n' c',k≤n∧v=.slice A' n' c'∧i=.int .i64 ((k:Nat):Int)∧ApK w.heap.size (.slice A3 n3 c3) w3 wr (.slice A' n' c') (H++((l.map RrD.r).take k).flatMap kS)∧Below w.heap.size w wr) (fun _ i _=>n-(intOf i).toNat)
 case atStart=>exact⟨0,_,_,_,zD _,rfl,rfl,by simpa using AP.out,BB.out⟩
 case round=>
  clear AP BB
  obtain⟨k,A',n',c',hk,rfl,rfl,hap,hb⟩:=hrel
  have AP:=zW hap
  have BB:=zW hb
  clear hap hb
  by_cases hlt:k<n
  ·have JX:=zW hlt
   have hl:k<l.length:=by rw[HN.out];exact hlt
   have ki:(k:Int)<(n:Int):=oB
   have k1:(k:Int)≤30:=oB
   obtain⟨g,e,hg,hat⟩:=(H0.out.step BB.out).at_ hl
   subst e
   have DI:=zW (fun u (hb:Below w.heap.size w u)=>(H0.out.step hb).is k hl)
   have OE:=zW (OK.out k hl)
   have FT:=zW (show((l.map RrD.r).take (k+1)).flatMap kS=((l.map RrD.r).take k).flatMap kS++kS l[k].r from by
    rw[wE (by rw[z6];exact hl),List.getElem_map])
   have AT:=zW hat
   have FK:=zW (FB.out k)
   clear hg hat
   generalize l[k]=d at DI OE FT AT
   obtain⟨dA,dcA,dB,dcB,gs,F,r⟩:=d
   obtain⟨ab,ao,eA,_,_⟩:=(DI.out _ BB.out).ok.row (by intro c;have:=(DI.out _ BB.out).ok.len;rw[c]at this;simp at this)
   replace eA:dA=some ⟨ab,ao,none⟩:=eA
   subst eA
   replace FT:=zW (show((l.map RrD.r).take (k+1)).flatMap kS=((l.map RrD.r).take k).flatMap kS++kS r from FT.out)
   replace OE:=zW (show OkE r from OE.out)
   obtain⟨M0,hM0⟩:∃M,H++((l.map RrD.r).take k).flatMap kS=M:=⟨_,rfl⟩
   have ME:=zW hM0
   have ML:=zW (show 8≤M0.length∧M0.length≤200000 from by
    rw[←hM0,zM,LH.out];have:=FK.out;have:k*4127≤30*4127:=Nat.mul_le_mul_right _ oB;omega)
   rw[hM0]at AP
   clear hM0 FK
   go_upto_region 5 with fail
   refine zN ?_
   iterate 9 go_step
   refine mI (o:=k*9) nB AT.out rfl rfl (.tmp 24) rfl oD ?_
   simp only[Act.put,zQ,zZ,zJ]
   refine kU (ds:=rrC (some ⟨ab,ao,none⟩) 4 dcA dB 16 dcB r) nB xR rfl rfl (cP _ _ _ _ _ _ _) rfl rfl rfl (.tmp 5) (.tmp 25) rfl oF oF ?_
   simp only[Act.put,zQ,zZ,zJ]
   clear AT
   have K1:=zW (Blk.new wr 32 (rrC (some ⟨ab,ao,none⟩) 4 dcA dB 16 dcB r))
   have ba:=jI wr (.cells (rrC (some ⟨ab,ao,none⟩) 4 dcA dB 16 dcB r) 32)
   have OL:=zW (show∀b,(Value.slice A' n' c').ownBlock=some b→¬b=wr.heap.size from fun b e q=>by have:=(AP.out.own.lt b e).2;omega)
   have AP:=zW (AP.out.step ba)
   have BB:=zW (BB.out.trans (ba.mono BB.out.size))
   clear ba
   generalize wr.heap.size=g1 at K1 OL⊢
   generalize World.alloc wr _=wa at AP K1 BB⊢
   obtain⟨pt,hpt⟩:∃x:Nat,r.pt=(x:Int):=⟨r.pt.toNat,by have:=OE.out.n.pt;omega⟩
   obtain⟨kn,hkn⟩:∃x:Nat,r.k=(x:Int):=⟨r.k.toNat,by have:=OE.out.k;omega⟩
   obtain⟨cn,hcn⟩:∃x:Nat,r.c=(x:Int):=⟨r.c.toNat,by have:=OE.out.c;omega⟩
   obtain⟨pn,hpn⟩:∃x:Nat,r.p=(x:Int):=⟨r.p.toNat,by have:=OE.out.p;omega⟩
   obtain⟨yn,hyn⟩:∃x:Nat,r.y=(x:Int):=⟨r.y.toNat,by have:=OE.out.y;omega⟩
   have NS:=zW (show pt<256∧kn<256∧cn<256∧pn<65536∧yn≤4611686018427387904 from by
    have h1:=OE.out.n.pt;have h2:=OE.out.k;have h3:=OE.out.c;have h4:=OE.out.p;have h5:=OE.out.y;omega)
   have EN:=zW (show kS r=([b2n r.hi+2*b2n r.so,pt]++(lM r++([kn,cn]++(nb 2 pn++(nb 8 yn++[usT r 4])))))++lT r 4 from by
    rw[vX,pQ];unfold kS yJ lM;rw[hpt,hkn,hcn,hpn,hyn];rfl)
   have e4:=zW (show(rrC (some ⟨ab,ao,none⟩) 4 dcA dB 16 dcB r)[4]?=some (.int .u8 (pt:Int))from by rw[←hpt];rfl)
   have e5:=zW (show(rrC (some ⟨ab,ao,none⟩) 4 dcA dB 16 dcB r)[5]?=some (.int .i64 (kn:Int))from by rw[←hkn];rfl)
   have e6:=zW (show(rrC (some ⟨ab,ao,none⟩) 4 dcA dB 16 dcB r)[6]?=some (.int .i64 (cn:Int))from by rw[←hcn];rfl)
   have e7:=zW (show(rrC (some ⟨ab,ao,none⟩) 4 dcA dB 16 dcB r)[7]?=some (.int .i64 (pn:Int))from by rw[←hpn];rfl)
   have e8:=zW (show(rrC (some ⟨ab,ao,none⟩) 4 dcA dB 16 dcB r)[8]?=some (.int .i64 (yn:Int))from by rw[←hyn];rfl)
   have e0:=zW (show(rrC (some ⟨ab,ao,none⟩) 4 dcA dB 16 dcB r)[0]?=some (.slice (some ⟨ab,ao,none⟩) 4 dcA)from rfl)
   have e1:=zW (show(rrC (some ⟨ab,ao,none⟩) 4 dcA dB 16 dcB r)[1]?=some (.bool r.hi)from rfl)
   have e2:=zW (show(rrC (some ⟨ab,ao,none⟩) 4 dcA dB 16 dcB r)[2]?=some (.bool r.so)from rfl)
   have e3:=zW (show(rrC (some ⟨ab,ao,none⟩) 4 dcA dB 16 dcB r)[3]?=some (.slice dB 16 dcB)from rfl)
   have F1:=zW (fun u=>show Calls Try.prog 29 #[.bool r.hi,.int .i64 1] u fun e w'=>e=.returned (.int .i64 ((b2n r.hi:Nat):Int))∧u=w' from by
    have h:=wG r.hi 1 u;cases hh:r.hi<;>(rw[hh]at h;exact h))
   have F2:=zW (fun u=>show Calls Try.prog 29 #[.bool r.so,.int .i64 2] u fun e w'=>e=.returned (.int .i64 ((2*b2n r.so:Nat):Int))∧u=w' from by
    have h:=wG r.so 2 u;cases hh:r.so<;>(rw[hh]at h;exact h))
   have FL:=zW (bI r.hi r.so)
   clear hpt hkn hcn hpn hyn
   obtain⟨x1,hx1⟩:∃x,b2n r.hi=x:=⟨_,rfl⟩
   obtain⟨x2,hx2⟩:∃x,2*b2n r.so=x:=⟨_,rfl⟩
   rw[hx1]at EN F1 FL
   rw[hx2]at EN F2 FL
   clear hx1 hx2
   generalize rrC (some ⟨ab,ao,none⟩) 4 dcA dB 16 dcB r=C at K1 e0 e1 e2 e3 e4 e5 e6 e7 e8⊢
   obtain⟨dd,hdd⟩:∃x,x1+x2=x:=⟨_,rfl⟩
   have wv1:IntKind.i64.wrap ((x1:Int)+(x2:Int))=(dd:Int):=by rw[zS];have:=FL.out;omega
   have wv2:IntKind.u8.wrap (dd:Int)=(dd:Int):=by rw[qQ];have:=FL.out;omega
   rw[hdd]at EN
   clear hdd
   have q1:=fun x=>lN.cell (g:=g1) (T:=32) e1.out x
   have q2:=fun x=>lN.cell (g:=g1) (T:=32) e2.out x
   have q4:=fun x=>lN.cell (g:=g1) (T:=32) e4.out x
   haveI:Nonempty (lN g1 32 C):=⟨⟨wa,K1.out⟩⟩
   go_upto_region 6 with fail
   refine lB (C:=fun w'=>∃x:lN g1 32 C,w'=x.w) [([0,1,2,4,5,9,10],3),([],6),([7,8],11),([],12)] [13] oT oT (fun _ _ d _ _ h=>by cases d<;>exact h) (lN.is K1.out.drew) ?_
   intro wd hwd
   have bd:=zA wa.heap.size wa|>.drew
   rw[←hwd]at bd
   have AP:=zW (AP.out.step bd)
   have K1:=zW (K1.out.step bd)
   have BB:=zW (BB.out.trans (bd.mono BB.out.size))
   clear hwd bd
   refine kG ?_
   repeat(go_big_quiet_step (fail))
   refine zF ?_
   refine kB oF ?_
   intro K hK
   go_wp2_with fail
   refine(F1.out _).mono ?_
   rintro e w' ⟨rfl,rfl⟩
   refine hK _ _ (lN.is K1.out) ?_
   clear hK K
   try simp only[Act.put,zQ,zZ,zJ]
   refine kG ?_
   repeat(go_big_quiet_step (fail))
   refine zF ?_
   refine kB oF ?_
   intro K hK
   go_wp2_with fail
   refine(F2.out _).mono ?_
   rintro e w' ⟨rfl,rfl⟩
   refine hK _ _ (lN.is K1.out) ?_
   clear hK K
   try simp only[Act.put,zQ,zZ,zJ]
   refine kG ?_
   repeat(go_big_quiet_step (fail))
   refine zF ?_
   refine kB oF ?_
   intro K hK
   have B6:=zW (vT wd [dd,pt])
   have ba:=jI wd (.cells (byV [dd,pt]).toArray 5)
   have AQ:=zW (AP.out.start.step ba)
   have K0:=K1
   have K1:=zW (K1.out.step ba)
   clear ba
   go_wp2_with fail
   refine hK _ _ (lN.is K1.out) ?_
   clear hK K
   try simp only[Act.put,zQ,zZ,zJ]
   refine kG ?_
   refine zF ?_
   refine kB oF ?_
   intro K hK
   refine mC (.tmp 26) (.tmp 37) rfl AQ.out oF (some ⟨wd.heap.size,0,none⟩) 2 2 [dd,pt] oF B6.out rfl oR (by have:=ML.out;omega) 38 oF ?_
   intro A4 n4 c4 w4 hap
   have kb:=hap.keepB OL.out K0.out
   have BB:=zW (BB.out.trans (hap.below fun g e=>(AP.out.own.lt g e).1))
   have AP:=zW (AP.out.trans hap)
   have K1:=zW kb.1
   have OL:=zW kb.2
   clear hap kb AQ B6 K0
   refine hK _ _ (lN.is K1.out) ?_
   clear hK K
   try simp only[Act.put,zQ,zZ,zJ]
   refine nA ?_
   repeat(go_big_quiet_step (fail))
   refine zF ?_
   clear q1 q2 q4 wv1 wv2 F1 F2
   have L1:=zW (show(M0++[dd,pt]).length=M0.length+2 by rw[zM];rfl)
   have L2:=zW (show(M0++[dd,pt]++lM r).length=M0.length+18 by rw[zM,L1.out];unfold lM;simp)
   have L3:=zW (show(M0++[dd,pt]++lM r++[kn,cn]).length=M0.length+20 by rw[zM,L2.out];rfl)
   have L4:=zW (show(M0++[dd,pt]++lM r++[kn,cn]++nb 2 pn).length=M0.length+22 by rw[zM,L3.out,kL])
   have q3:w4.cell? ⟨g1,3,none⟩=some (.slice dB 16 dcB):=(K1.out.cell 3).trans e3.out
   go_upto_region 8 with((at_builtin;refine kZ rfl (.tmp 39) (.tmp 41) rfl AP.out.start rfl dB 16 dcB (lM r) rfl (by rw[tP r OE.out.n];exact(DI.out _ BB.out).ok.pat) (by unfold lM;simp) oR (by have:=L1.out;have:=ML.out;omega) ?_;intro A5 n5 c5 w5 hap))
   have kb:=hap.keepB OL.out K1.out
   have BB:=zW (BB.out.trans (hap.below fun g e=>(AP.out.own.lt g e).1))
   have AP:=zW (AP.out.trans hap)
   have K1:=zW kb.1
   have OL:=zW kb.2
   clear hap kb
   clear q3
   have q5:w5.cell? ⟨g1,5,none⟩=some (.int .i64 (kn:Int)):=(K1.out.cell 5).trans e5.out
   have q6:w5.cell? ⟨g1,6,none⟩=some (.int .i64 (cn:Int)):=(K1.out.cell 6).trans e6.out
   have u1:IntKind.u8.wrap (kn:Int)=(kn:Int):=by rw[qQ];have:=NS.out;omega
   have u2:IntKind.u8.wrap (cn:Int)=(cn:Int):=by rw[qQ];have:=NS.out;omega
   go_upto_region 9 with((at_builtin;refine kZ rfl (.tmp 43) (.tmp 52) rfl (AP.out.start.step (jI _ _)) rfl _ 2 2 [kn,cn] rfl (vT _ [kn,cn]) rfl oR (by have:=L2.out;have:=ML.out;omega) ?_;intro A6 n6 c6 w6 hap))
   have kb:=hap.keepB OL.out K1.out
   have BB:=zW (BB.out.trans (hap.below fun g e=>(AP.out.own.lt g e).1))
   have AP:=zW (AP.out.trans hap)
   have K1:=zW kb.1
   have OL:=zW kb.2
   clear hap kb
   clear q5 q6 u1 u2
   have q7:=fun x=>lN.cell (g:=g1) (T:=32) e7.out x
   have q8:=fun x=>lN.cell (g:=g1) (T:=32) e8.out x
   haveI:Nonempty (lN g1 32 C):=⟨⟨w6,K1.out⟩⟩
   refine lB (C:=fun w'=>∃x:lN g1 32 C,w'=x.w) [([0,1,2,3,6,7,8],4),([],5),([],9),([],10)] [11] oT oT (fun _ _ d _ _ h=>by cases d<;>exact h) (lN.is K1.out.drew) ?_
   intro wd hwd
   have bd:=zA w6.heap.size w6|>.drew
   rw[←hwd]at bd
   have AP:=zW (AP.out.step bd)
   have K1:=zW (K1.out.step bd)
   have BB:=zW (BB.out.trans (bd.mono BB.out.size))
   clear hwd bd
   refine kG ?_
   repeat(go_big_quiet_step (fail))
   refine zF ?_
   refine kB oF ?_
   intro K hK
   go_wp2_with fail
   refine(vB pn 2 (by have:=NS.out;omega) oR _).mono ?_
   rintro e wa1 ⟨Aa1,ca1,rfl,ho,hb⟩
   rw[kL]at ho
   have AQ:=zW (AP.out.start.step hb)
   have K0:=K1
   have K1:=zW (K1.out.step hb)
   have R2:=zW (mU ho)
   clear ho hb
   rw[kL]
   refine hK _ _ (lN.is K1.out) ?_
   clear hK K
   try simp only[Act.put,zQ,zZ,zJ]
   refine kG ?_
   refine zF ?_
   refine kB oF ?_
   intro K hK
   refine mC (.tmp 54) (.tmp 58) rfl AQ.out oF Aa1 2 ca1 (nb 2 pn) oF R2.out (kL _ _) oR (by have:=L3.out;have:=ML.out;omega) 59 oF ?_
   intro Ab1 nb1 cb1 wb1 hap
   have kb:=hap.keepB OL.out K0.out
   have BB:=zW (BB.out.trans (hap.below fun g e=>(AP.out.own.lt g e).1))
   have AP:=zW (AP.out.trans hap)
   have K1:=zW kb.1
   have OL:=zW kb.2
   clear hap kb AQ R2 K0
   refine hK _ _ (lN.is K1.out) ?_
   clear hK K
   try simp only[Act.put,zQ,zZ,zJ]
   refine kG ?_
   refine zF ?_
   refine kB oF ?_
   intro K hK
   go_wp2_with fail
   refine(vB yn 8 (by have:=NS.out;omega) oR _).mono ?_
   rintro e wa2 ⟨Aa2,ca2,rfl,ho,hb⟩
   rw[kL]at ho
   have AQ:=zW (AP.out.start.step hb)
   have K0:=K1
   have K1:=zW (K1.out.step hb)
   have R2:=zW (mU ho)
   clear ho hb
   rw[kL]
   refine hK _ _ (lN.is K1.out) ?_
   clear hK K
   try simp only[Act.put,zQ,zZ,zJ]
   refine kG ?_
   refine zF ?_
   refine kB oF ?_
   intro K hK
   refine mC (.tmp 59) (.tmp 63) rfl AQ.out oF Aa2 8 ca2 (nb 8 yn) oF R2.out (kL _ _) oR (by have:=L4.out;have:=ML.out;omega) 64 oF ?_
   intro Ab2 nb2 cb2 wb2 hap
   have kb:=hap.keepB OL.out K0.out
   have BB:=zW (BB.out.trans (hap.below fun g e=>(AP.out.own.lt g e).1))
   have AP:=zW (AP.out.trans hap)
   have K1:=zW kb.1
   have OL:=zW kb.2
   clear hap kb AQ R2 K0
   refine hK _ _ (lN.is K1.out) ?_
   clear hK K
   try simp only[Act.put,zQ,zZ,zJ]
   refine nA ?_
   repeat(go_big_quiet_step (fail))
   refine zF ?_
   clear q7 q8
   obtain⟨u4,hu4⟩:∃u,usT r 4=u:=⟨_,rfl⟩
   have U4:=zW hu4
   have EM:=zW (show M0++[dd,pt]++lM r++[kn,cn]++nb 2 pn++nb 8 yn++[u4]++lT r 4=M0++kS r from by rw[EN.out,hu4];simp only[zB])
   have LM:=zW (show(M0++[dd,pt]++lM r++[kn,cn]++nb 2 pn++nb 8 yn).length=M0.length+30 from by
    rw[zM,L4.out,kL])
   have UB:=zW (show u4<16 from by rw[←hu4];exact s9 r 4)
   clear hu4 L1 L2 L3 L4 EN NS FL
   generalize M0++[dd,pt]++lM r++[kn,cn]++nb 2 pn++nb 8 yn=M6 at AP EM LM
   go_wp2_with fail
   go_loopw [6,7,8,9] (fun u p v i wq=>∃j B n' c',j≤4∧u=.int .i64 ((usT r j:Nat):Int)∧p=.int .i64 ((2^j:Nat):Int)∧v=.slice B n' c'∧i=.int .i64 ((j:Nat):Int)∧ApK wb2.heap.size (.slice none 0 0) wb2 wq (.slice B n' c') (lT r j)) (fun _ _ _ i _=>4-(intOf i).toNat)
   case atStart=>exact⟨0,none,0,0,zD _,rfl,rfl,rfl,rfl,.refl (zP _) (.inl ⟨rfl,.inl ⟨rfl,rfl⟩⟩)⟩
   case round=>
    obtain⟨j,B,n',c',hj,rfl,rfl,rfl,rfl,hq⟩:=hrel
    have AQ:=zW hq
    have bq:=hq.below (fun g e=>by cases e)
    have OM:=zW (fun b (e:(Value.slice Ab2 nb2 cb2).ownBlock=some b)=>(AP.out.own.lt b e).2)
    have AP:=zW (AP.out.step bq)
    have K1:=zW (K1.out.step bq)
    have BB:=zW (BB.out.trans (bq.mono BB.out.size))
    clear hq bq
    by_cases hjt:j<4
    ·have JJ:=zW hjt
     have ji:(j:Int)<4:=oB
     have RI:=zW (DI.out _ BB.out)
     obtain⟨gq,hgq⟩:∃g,gs.getD j 0=g:=⟨_,rfl⟩
     have q0:wr.cell? ⟨g1,0,none⟩=some (.slice (some ⟨ab,ao,none⟩) 4 dcA):=(K1.out.cell 0).trans e0.out
     have qe:wr.cell? ⟨ab,ao+j,none⟩=some (.slice (some ⟨gq,0,none⟩) N N):=by
      obtain⟨b',o',e,_,hc⟩:=RI.out.ok.row (by intro c;have:=RI.out.ok.len;rw[c]at this;simp at this);injection e with e
      injection e with e1 e2 _
      subst e1 e2;have hl:gs.length=4:=RI.out.ok.len;replace hc:=hc j (show j<gs.length by omega);rw[hc,←hgq,show gs.getD j 0=gs[j]' oB from by simp[show j<gs.length by omega]];rfl
     have PX:=zW (show Pxs gq (F j) wr from by rw[←hgq];exact RI.out.ok.px j hjt)
     have PE:=zW (show r.P j=fwd (F j)from RI.out.P j hjt)
     have BL:=zW (show Calls Try.prog 30 #[.slice (some ⟨gq,0,none⟩) N N] wr fun e w'=>e=.returned (.bool (kJ (r.P j)))∧wr=w' from by rw[PE.out];exact bQ N NN.out gq (F j) wr PX.out)
     have PL:=zW (show Calls Try.prog 31 #[.slice (some ⟨gq,0,none⟩) N N] wr (gW (plB (r.P j)) wr)from by rw[PE.out];exact tW N NN.out gq (F j) wr PX.out)
     have TL:=zW (xS r j)
     have QN:=zW (pC r j)
     have QY:=zW (eE r j)
     have TN:=zW (usT_no r j)
     have TY:=zW (aF r j)
     have U1:=zW (show usT r j<16∧2^j≤8 from⟨by have:=s9 r j;have:2^j≤2^4:=Nat.pow_le_pow_right oR oB;omega,(show 2^j≤2^3 from Nat.pow_le_pow_right oR oB)⟩)
     have P1:=zW (show 2^(j+1)=2*2^j from by rw[Nat.pow_succ,Nat.mul_comm])
     clear hgq PX PE RI
     obtain⟨us,hus⟩:∃x,usT r j=x:=⟨_,rfl⟩
     obtain⟨pw,hpw⟩:∃x,2^j=x:=⟨_,rfl⟩
     rw[hus]at TN TY U1⊢
     rw[hpw]at TY U1 P1⊢
     clear hus hpw
     obtain⟨un,hun⟩:∃x,us+pw=x:=⟨_,rfl⟩
     obtain⟨pn2,hpn2⟩:∃x,2*pw=x:=⟨_,rfl⟩
     have u1:IntKind.i64.wrap ((us:Int)+(pw:Int))=(un:Int):=by rw[zS];have:=U1.out;omega
     have u2:IntKind.i64.wrap (2*(pw:Int))=(pn2:Int):=by rw[zS];have:=U1.out;omega
     rw[hun]at TY
     rw[hpn2]at P1
     clear hun hpn2
     go_wp2_with fail
     refine BL.out.mono ?_
     rintro e w' ⟨rfl,rfl⟩
     cases hb:kJ (r.P j)
     ·have QY:=zW (QY.out hb)
      have TY:=zW (TY.out hb)
      clear hb BL QN TN
      go_wp2_with fail
      refine PL.out.mono ?_
      rintro e wx ⟨Ax,cx,rfl,ho,hb⟩
      rw[cO]at ho
      have RX:=zW (mU ho)
      have bx:=hb
      have AY:=zW (AQ.out.step hb)
      clear ho hb PL bx
      rw[cO]
      go_upto_region 19 with((at_builtin;refine kZ rfl (.tmp 79) (.tmp 85) rfl AY.out rfl Ax 1024 cx (plB (r.P j)) rfl RX.out (cO _) oR (by have:=TL.out;omega) ?_;intro Az nz cz wz hap))
      rw[←QY.out]at hap
      have AZ:=zW hap
      clear hap
      go_wp2_with fail
      go_roundw
      case rel=>exact⟨j+1,Az,nz,cz,JJ.out,by rw[TY.out],by rw[P1.out],rfl,by go_num,AZ.out⟩
      case measure=>have:=JJ.out;simp[intOf];omega
     ·have QN:=zW (QN.out hb)
      have TN:=zW (TN.out hb)
      clear hb BL PL QY TY
      have AZ:=AQ
      rw[←QN.out]at AZ
      go_wp2_with fail
      go_roundw
      case rel=>exact⟨j+1,B,n',c',JJ.out,by rw[TN.out],by rw[P1.out],rfl,by go_num,AZ.out⟩
      case measure=>have:=JJ.out;simp[intOf];omega
    ·have ji:¬(j:Int)<4:=oB
     obtain rfl:j=4:=by omega
     rw[U4.out]
     have u1:IntKind.u8.wrap (u4:Int)=(u4:Int):=by rw[qQ];have:=UB.out;omega
     have OX:=zW (AQ.out.own.plain (by have:=eC r 4;omega))
     obtain⟨Bp,cp,ep⟩:=AQ.out.own.form
     injection ep with ep1 ep2 ep3
     subst ep1 ep2 ep3
     have TL:=zW (xS r 4)
     go_upto_region 4 with(first
      |(at_builtin;refine kZ rfl (.tmp 89) (.tmp 92) rfl (AP.out.start.step (jI _ _)) rfl _ 1 1 [u4] rfl (vT _ [u4]) rfl oR (by have:=LM.out;have:=ML.out;omega) ?_;intro A8 n8 c8 w8 hap;have OX:=zW (j2 OX.out hap.kept (fun b e q=>by have:=(OX.out.lt b e).1;have:=OM.out b q.symm;omega));have BB:=zW (BB.out.trans (hap.below fun g e=>(AP.out.own.lt g e).1));have AP:=zW (AP.out.trans hap);clear hap)
      |(at_builtin;refine cF rfl (.tmp 93) (.tmp 94) rfl AP.out.start (by have:=LM.out;have:=ML.out;simp only[zM,List.length_cons,List.length_nil];omega) rfl B _ c' (lT r 4) rfl (mU OX.out) rfl (by have:=TL.out;have:=LM.out;have:=ML.out;simp only[zM,List.length_cons,List.length_nil];omega) ?_;intro A9 n9 c9 w9 hap))
     have BB:=zW (BB.out.trans (hap.below fun g e=>(AP.out.own.lt g e).1))
     have AP:=zW (AP.out.trans hap)
     clear hap u1
     go_wp2_with fail
     go_roundw
     case rel=>exact⟨k+1,A9,n9,c9,JX.out,rfl,by go_num,by rw[FT.out,←zB,ME.out,←EM.out];exact AP.out,BB.out⟩
     case measure=>have:=JX.out;simp[intOf];omega
  ·obtain rfl:k=n:=by omega
   have ho:=AP.out.own.plain (by rw[zM];have:=LH.out;omega)
   rw[EL.out]at ho
   obtain⟨A4,c4,e4⟩:=lD ho
   injection e4 with e1 e2 e3
   subst e1 e2 e3
   have RE:=zW ho
   clear ho
   go_wp2_with fail
   go_ret
   exact⟨_,_,rfl,RE.out,BB.out⟩
def vM(l:List RrD):List Value:=l.flatMap fun d=>(rrD d).toList
theorem rR(d:RrD):(rrD d).toList.length=9:=rfl
theorem sR(l m:List RrD):vM (l++m)=vM l++vM m:=by unfold vM;rw[List.flatMap_append]
theorem sG(d:RrD):vM [d]=(rrD d).toList:=by unfold vM;rw[List.flatMap_cons,List.flatMap_nil,z5]
theorem sB(l:List RrD):∀(i:Nat) (h:i<l.length) (j:Nat) (v:Value),(rrD l[i]).toList[j]?=some v→(vM l)[i*9+j]?=some v:=by
 induction l with
 |nil=>intro i h;cases h
 |cons d l ih=>
  intro i h j v hv
  unfold vM
  rw[List.flatMap_cons]
  cases i with
  |zero=>
   replace hv:(rrD d).toList[j]?=some v:=hv
   have hj:=(qA.1 hv).1
   rw[Nat.zero_mul,qL,qX hj]
   exact hv
  |succ i=>
   rw[qZ (by rw[rR];omega),rR,show(i+1)*9+j-9=i*9+j by omega]
   exact ih i (by simpa using h) j v hv
theorem RrL.of_own{N base n c:Nat}{A:Option Addr}{l:List RrD}{w:World}(h:w.ownsRow base 32 9 (.slice A n c) n (vM l))(hn:l.length=n)(hi:∀i (h:i<l.length),xG N l[i] w):RrL N A l w:=by
 refine⟨fun hne=>?_,hi⟩;rcases h.2 with⟨e,e2⟩|⟨g',cap,cur,e,hg,hb,hc,hm,hs,ht⟩
 ·exact absurd (qB (hn.trans e2)) hne
 ·injection e with e1 e2 e3
  refine⟨g',e1,(qK.1 hb).1,fun i hi j v hv=>?_⟩;have h1:=sB l i hi j v hv;rw[←ht,List.getElem?_take]at h1;rw[qO _ _ _ _ _ _ hb];split at h1
  ·simpa using h1
  ·cases h1
theorem infoRr:(Try.prog.info? 32).map (fun i=>(i.zero,i.size))=some (some (.agg (rrC none 0 0 none 0 0 kK)),9):=by
 unfold rrC kK;kernel_rfl
theorem iE:∃i,Try.prog.info? 32=some i∧i.zero=some (.agg (rrC none 0 0 none 0 0 kK))∧i.size=9∧i.bytes≤10000:=by
 obtain⟨i,hi,hb⟩:∃i,Try.prog.info? 32=some i∧i.bytes≤10000:=by
  have h:(Try.prog.info? 32).any (fun i=>decide (i.bytes≤10000))=true:=oT;cases hq:Try.prog.info? 32 with
  |none=>rw[hq]at h;cases h
  |some i=>rw[hq]at h;exact⟨i,rfl,by simpa using h⟩
 have h:=infoRr;rw[hi]at h;simp only[Option.map_some,jN,jW]at h;exact⟨i,hi,h.1,h.2,hb⟩
theorem pL(d:RrD):∀u∈(rrD d).toList,u.oneCell'=true:=by
 have h:=cP d.A 4 d.cA d.B 16 d.cB d.r;unfold vI at h;rw[qN]at h;exact fun u hu=>h u (Array.mem_toList_iff.1 hu)
theorem nS{w:World}{ops:Array Oper}{rest:List Oper}{o:Oper}{a:Act}{Q:Exit→Act→World→Prop}(hgd:o.guard=none)(s x:Operand)
  (ho:o.op=.call {callee:=.builtin .append,args:=#[s,x],argTypes:=#[25,25]}) (base:Nat) (v:Value) (n:Nat) (l:List RrD) (d:RrD) (hs:a.eval s=v) (hown:w.ownsRow base 32 9 v n (vM l)) (ad:Addr) (c:Nat) (hx:a.eval x=.slice (some ad) 1 c) (hc:∀j u,(rrD d).toList[j]?=some u→w.cell? (ad.add j)=some u)
  (h63:n≤1000) (hbase:base≤w.heap.size)
  (h:∀A' c' w',w'.ownsRow base 32 9 (.slice A' (n+1) c') (n+1) (vM (l++[d]))→w.grownBy w' v.ownBlock→((Value.slice A' (n+1) c').ownBlock=v.ownBlock∨(Value.slice A' (n+1) c').ownBlock=some w.heap.size)→wpList Try.prog ops Q rest (a.put o.dst (.slice A' (n+1) c')) w'):wpList Try.prog ops Q (o::rest) a w:=by
 refine zI hgd fun K hK=>?_;obtain⟨i,hi,hz,hsz,hb⟩:=iE;obtain⟨v',w',hrun,h2,h3,_,h5⟩:=run_append_own_at (P:=Try.prog) w base 25 o.type 32 i (.agg (rrC none 0 0 none 0 0 kK)) 9 i.bytes Try.underlying25 hi hz hsz rfl rfl oR v n _ hown ad 1 c (rrD d).toList (by rw[rR]) hc (pL d) oE (zT (Nat.mul_le_mul (show n+1≤1001 by omega) hb) oR) hbase;rw[←sG,←sR]at h2;obtain⟨A',c',hv⟩:∃A' c',v'=.slice A' (n+1) c':=by
  exact ZX
 subst hv;unfold Oper.wp execOp;simp only[ho,resolve,invoke,builtin,zH,Sem.run_pure,Result.andThen_ok,List.map_toArray,List.map_cons,List.map_nil,hs,hx,hrun];exact hK _ _ (h A' c' w' h2 h3 h5)
theorem yB{w:World}{base n m:Nat}{v u:Value}{xs ys:List Value}(h:w.ownsRow base 48 535 v n xs)(k:w.ownsRow base 32 9 u m ys):∀b,v.ownBlock=some b→¬some b=u.ownBlock:=fun b e q=>by
 obtain⟨_,cs,hc⟩:=eU h e;exact iN k hc oR q.symm
structure Off(d:RrD)(b:Nat):Prop where
 g:∀i,i<4→¬d.gs.getD i 0=b
 a:∀ad,d.A=some ad→¬ad.block=b
 b:∀ad,d.B=some ad→¬ad.block=b
def vO(d:RrD)(v:Value):Prop:=∀b,v.ownBlock=some b→Off d b
theorem xG.kept{N:Nat}{d:RrD}{w w':World}{O:Nat→Prop}(h:xG N d w)(k:j5 O w w')(o:∀b,O b→Off d b):xG N d w':=
 ⟨⟨h.ok.len,fun hne=>by
  obtain⟨b,p,e,lt,hc⟩:=h.ok.row hne;exact⟨b,p,e,zG lt k.size,fun j hj=>(k.cell (a:=⟨b,p+j,none⟩) lt fun q=>(o b q).a _ e rfl).trans (hc j hj)⟩,fun i hi=>(h.ok.px i hi).keptR k fun q=>(o _ q).g i hi rfl,h.ok.pat.kept k fun ad e q=>(o _ q).b ad e rfl⟩,h.P⟩
theorem xG.off{N n:Nat}{d:RrD}{w:World}(h:xG N d w)(hn:w.heap.size≤n):Off d n:=by
 refine⟨fun i hi e=>?_,fun ad e q=>?_,fun ad e q=>?_⟩
 ·have:=(h.ok.px i hi).lt;omega
 ·obtain⟨b,p,e2,lt,_⟩:=h.ok.row (by intro c;have:=h.ok.len;rw[c]at this;simp at this);rw[e]at e2;injection e2 with e2
  subst e2;have q:b=n:=q;omega
 ·obtain⟨ad',e2,lt,_⟩:=h.ok.pat (by intro c;have:=nU d.r.pat;rw[c]at this;simp at this);rw[e]at e2;injection e2 with e2
  subst e2;omega
theorem vO.next{N:Nat}{d:RrD}{w:World}{v v':Value}(h:vO d v)(k:xG N d w)(c:v'.ownBlock=v.ownBlock∨v'.ownBlock=some w.heap.size):vO d v':=fun b e=>by
 rcases c with c|c
 ·exact h b (c.symm.trans e)
 ·rw[c]at e;injection e with e
  exact k.off (jK e)
theorem vO.new{base N:Nat}{d:RrD}{w w':World}{v:Value}(h:RrFr w.heap.size N d.A d.gs d.F d.B d.r.pat w')(k:∀b,v.ownBlock=some b→b<w.heap.size):vO d v:=fun b e=>
 ⟨fun i hi q=>by have:=h.g i hi;have:=k b e;omega,fun ad ea q=>by have:=h.a ad ea;have:=k b e;omega,fun ad ea q=>by have:=h.b ad ea;have:=k b e;omega⟩
structure Ds(N:Nat)(l:List jO)(k:Nat)(ds:List RrD)(u v:Value)(w:World):Prop where
 len:ds.length=k
 r:ds.map RrD.r=l
 is:∀i (h:i<ds.length),xG N ds[i] w∧vO ds[i] u∧vO ds[i] v
theorem Ds.step{N:Nat}{l:List jO}{k:Nat}{ds:List RrD}{u v:Value}{w w':World}(h:Ds N l k ds u v w)(hb:Below w.heap.size w w'):Ds N l k ds u v w':=⟨h.len,h.r,fun i hi=>⟨(h.is i hi).1.step hb,(h.is i hi).2⟩⟩
theorem Ds.snoc{N:Nat}{l:List jO}{k:Nat}{ds:List RrD}{u v:Value}{w:World}(h:Ds N l k ds u v w){d:RrD}{r:jO}(hk:d.r=r)(hd:xG N d w)(o1:vO d u)(o2:vO d v):Ds N (l++[r]) (k+1) (ds++[d]) u v w:=
 ⟨by rw[zM,h.len];rfl,by rw[qD,h.r,←hk];rfl,fun i hi=>by
  rcases jS i ds.length with c|c
  ·rw[List.getElem_append_left c];exact h.is i c
  ·have e:i=ds.length:=by rw[zM]at hi;simp at hi;omega
   subst e;rw[List.getElem_append_right c];simp only[Nat.sub_self,List.getElem_cons_zero];exact⟨hd,o1,o2⟩⟩
theorem Ds.grow1{N:Nat}{l:List jO}{k:Nat}{ds:List RrD}{u u' v:Value}{w w':World}(h:Ds N l k ds u v w)(hg:w.grownBy w' u.ownBlock)(c:u'.ownBlock=u.ownBlock∨u'.ownBlock=some w.heap.size):Ds N l k ds u' v w':=
 ⟨h.len,h.r,fun i hi=>⟨(h.is i hi).1.kept (kF hg) fun b e=>(h.is i hi).2.1 b e.symm,(h.is i hi).2.1.next (h.is i hi).1 c,(h.is i hi).2.2⟩⟩
theorem Ds.grow2{N:Nat}{l:List jO}{k:Nat}{ds:List RrD}{u v v':Value}{w w':World}(h:Ds N l k ds u v w)(hg:w.grownBy w' v.ownBlock)(c:v'.ownBlock=v.ownBlock∨v'.ownBlock=some w.heap.size):Ds N l k ds u v' w':=
 ⟨h.len,h.r,fun i hi=>⟨(h.is i hi).1.kept (kF hg) fun b e=>(h.is i hi).2.2 b e.symm,(h.is i hi).2.1,(h.is i hi).2.2.next (h.is i hi).1 c⟩⟩
theorem bG(l:List jO)(k:Nat)(h:l.length=k)(h4:k≤4):(l.flatMap kS).length≤20000:=by
 have:=uN l k (jK h);have:k*4127≤4*4127:=Nat.mul_le_mul_right _ h4;omega
theorem wA{b:Nat}{T:TypeId}{cs:Array Value}{W:World}(h:Blk b T cs W):∀w,(∃x:mK W,w=x.w)→Blk b T cs w:=by
 rintro w ⟨x,rfl⟩;exact h.step x.below
theorem mA(A:Option Addr)(n c:Nat)(l:List Cd)(w:World)(H:Cds w A n l):
  Calls Try.prog 3 #[.slice A n c] w fun e w'=>e=.returned (.bool true)∧Below w.heap.size w w':=by
 obtain⟨N,hN⟩:∃N,N=8192:=⟨_,rfl⟩;have NN:=zW hN;have HC:=zW H;have n9:(n:Int)≤9223372036854775807:=by have:=H.max;unfold maxLen at this;omega
 clear hN H;go_enter Try.func3,Try.ntmps3;go_wp2_with fail;refine(dC w).mono ?_;rintro e w1 ⟨rfl,hb⟩;have BB:=zW hb;clear hb;by_cases hlt:4<n
 ·have hi:(4:Int)<(n:Int):=oB;go_wp2_with fail;refine(dC _).mono ?_;rintro e w2 ⟨rfl,hb⟩;have BB:=zW (BB.out.trans (hb.mono BB.out.size));clear hb;go_wp2_with fail;go_ret;exact⟨rfl,BB.out⟩
 ·have hi:¬(4:Int)<(n:Int):=oB;have MN:=zW (show n≤4 by omega);clear hlt;have LE:=zW HC.out.len;go_wp2_with fail;go_loopw [3,4,5,6] (fun u v b i wr=>∃k A' c' B' d' ds,k≤n∧u=.slice A' k c'∧v=.slice B' k d'∧b=.bool (mE (mV l k))∧i=.int .i64 ((k:Nat):Int)∧wr.ownsRow w1.heap.size 48 535 (.slice A' k c') k (kV (mV l k))∧wr.ownsRow w1.heap.size 32 9 (.slice B' k d') k (vM ds)∧Ds N (mV l k) k ds (.slice A' k c') (.slice B' k d') wr∧Below w1.heap.size w1 wr) (fun _ _ _ i _=>n-(intOf i).toNat)
  case atStart=>exact⟨0,none,0,none,0,[],zD _,rfl,rfl,rfl,rfl,jH _ _ _ _,jH _ _ _ _,⟨rfl,rfl,fun i h=>absurd h (Nat.not_lt_zero i)⟩,zA _ _⟩
  case round=>
   obtain⟨k,A',c',B',d',ds,hk,rfl,rfl,rfl,rfl,ho,ho2,hds,hb⟩:=hrel
   have OW:=zW ho
   have OX:=zW ho2
   have DS:=zW hds
   have BW:=zW hb
   clear ho ho2 hds hb
   obtain⟨av,hav⟩:∃x,mE (mV l k)=x:=⟨_,rfl⟩
   have AV:=zW hav
   rw[hav]
   clear hav
   by_cases hlt:k<n
   ·have JX:=zW hlt
    have ki:(k:Int)<(n:Int):=oB
    have k9:(k:Int)≤4:=by have:=MN.out;omega
    have hl:k<l.length:=by rw[LE.out];exact hlt
    obtain⟨bb,oo,e,lt,ra⟩:=(HC.out.step (BB.out.trans (BW.out.mono BB.out.size))).at_ k hl
    have CO:=zW (HC.out.ok k hl)
    have RS:=zW (gS hl)
    have RA:=zW ra
    subst e
    clear ra lt
    generalize l[k]=cd at CO RS RA
    go_upto_region 9 with fail
    refine zN ?_
    iterate 9 go_step
    refine mI (o:=oo+k*36) aggCd RA.out lA rfl (.tmp 27) rfl oD ?_
    simp only[Act.put,zQ,zZ,zJ]
    go_wp2_with fail
    refine(eL N NN.out cd CO.out _).mono ?_
    rintro e w3 ⟨Aa,cA,Bb,cB,gs,rfl,hr,hb⟩
    have FR:=hr
    have O1:=zW (show vO ⟨Aa,cA,Bb,cB,gs,plF cd,kM cd⟩ (.slice A' k c')from vO.new (base:=0) (w:=wr) (w':=w3) FR (fun b e=>(OW.out.lt b e).2))
    have O2:=zW (show vO ⟨Aa,cA,Bb,cB,gs,plF cd,kM cd⟩ (.slice B' k d')from vO.new (base:=0) (w:=wr) (w':=w3) FR (fun b e=>(OX.out.lt b e).2))
    clear FR
    have RR:=zW hr.ok
    have OW:=zW (j2 (O:=fun _=>False) OW.out (j5.of_below hb) fun _ _ c=>c)
    have OX:=zW (j2 (O:=fun _=>False) OX.out (j5.of_below hb) fun _ _ c=>c)
    have DS:=zW (DS.out.step hb)
    have BW:=zW (BW.out.trans (hb.mono BW.out.size))
    clear hr hb RA
    simp only[]
    go_at_K
    go_step
    refine kU (ds:=rrC Aa 4 cA Bb 16 cB (kM cd)) nB xR rfl rfl (cP _ _ _ _ _ _ _) rfl rfl rfl (.tmp 7) (.tmp 29) rfl oF oF ?_
    simp only[Act.put,zQ,zZ,zJ]
    have K6:=zW (Blk.new w3 32 (rrC Aa 4 cA Bb 16 cB (kM cd)))
    have ba:=jI w3 (.cells (rrC Aa 4 cA Bb 16 cB (kM cd)) 32)
    have OW:=zW (j2 (O:=fun _=>False) OW.out (j5.of_below ba) fun _ _ c=>c)
    have OX:=zW (j2 (O:=fun _=>False) OX.out (j5.of_below ba) fun _ _ c=>c)
    have DS:=zW (DS.out.step ba)
    have BW:=zW (BW.out.trans (ba.mono BW.out.size))
    have RR:=zW (RR.out.step ba)
    clear ba
    generalize w3.heap.size=g6 at K6⊢
    generalize World.alloc w3 _=w4 at K6 OW OX DS BW RR⊢
    go_upto_region 10 with fail
    refine zN ?_
    refine j3 nB K6.out rfl rfl (.tmp 7) rfl rfl ?_
    simp only[Act.put,zQ,zZ,zJ]
    go_wp2_with fail
    refine(sY N NN.out (kM cd) Aa cA Bb cB gs (plF cd) (fun i _=>rfl) _ RR.out).mono ?_
    rintro e w6 ⟨rfl,hb⟩
    have OW:=zW (j2 (O:=fun _=>False) OW.out (j5.of_below hb) fun _ _ c=>c)
    have OX:=zW (j2 (O:=fun _=>False) OX.out (j5.of_below hb) fun _ _ c=>c)
    have DS:=zW (DS.out.step hb)
    have BW:=zW (BW.out.trans (hb.mono BW.out.size))
    have RR:=zW (RR.out.step hb)
    have K6:=zW (K6.out.step hb)
    clear hb
    have RV:=zW (fun u (hb:Below w6.heap.size w6 u)=>rG N NN.out (kM cd) Aa cA Bb cB gs (plF cd) cd.pat (fun i _=>rfl) u (RR.out.step hb))
    have PV:=zW (fun u=>xD (kM cd) (tH CO.out).y u)
    have IS:=zW (show∀u,Below w6.heap.size w6 u→xG N ⟨Aa,cA,Bb,cB,gs,plF cd,kM cd⟩ u from fun u hb=>⟨RR.out.step hb,fun i _=>rfl⟩)
    clear RR
    have RD:=zW (show rrC Aa 4 cA Bb 16 cB (kM cd)=rrD ⟨Aa,cA,Bb,cB,gs,plF cd,kM cd⟩from rfl)
    have DR:=zW (show(⟨Aa,cA,Bb,cB,gs,plF cd,kM cd⟩:RrD).r=kM cd from rfl)
    rw[RD.out]at K6
    have RV:=zW (fun u (hb:Below w6.heap.size w6 u)=>show Calls Try.prog 12 #[.agg (rrD ⟨Aa,cA,Bb,cB,gs,plF cd,kM cd⟩)] u fun e w'=>e=.returned (.bool (j9 (kM cd)))∧Below u.heap.size u w' from RV.out u hb)
    rw[RD.out]
    clear RD
    generalize (⟨Aa,cA,Bb,cB,gs,plF cd,kM cd⟩:RrD)=d at K6 RV IS DR O1 O2⊢
    generalize kM cd=r at RS RV PV DR⊢
    simp only[]
    go_at_K
    go_step
    refine kU (ds:=jA r) j8 lH (jU _) (jU _) (lR _) rfl rfl rfl (.tmp 8) (.tmp 31) rfl oF oF ?_
    simp only[Act.put,zQ,zZ,zJ]
    have K7:=zW (Blk.new w6 48 (jA r))
    have ba:=jI w6 (.cells (jA r) 48)
    have OW:=zW (j2 (O:=fun _=>False) OW.out (j5.of_below ba) fun _ _ c=>c)
    have OX:=zW (j2 (O:=fun _=>False) OX.out (j5.of_below ba) fun _ _ c=>c)
    have DS:=zW (DS.out.step ba)
    have BW:=zW (BW.out.trans (ba.mono BW.out.size))
    have BA:=zW ba
    have K6:=zW (K6.out.step ba)
    clear ba
    generalize w6.heap.size=g7 at K7⊢
    generalize World.alloc w6 _=w7 at K6 K7 OW OX DS BW BA⊢
    obtain⟨vr,hvr⟩:∃x,j9 r=x:=⟨_,rfl⟩
    have VE:=zW hvr
    rw[hvr]at RV PV
    clear hvr
    go_upto_region 11 with fail
    have CK6:=zW (wA K6.out)
    have CK7:=zW (wA K7.out)
    have C1:=zW (fun u:mK w7=>PV.out u.w)
    have C2:=zW (fun u:mK w7=>RV.out u.w (BA.out.trans (u.below.mono BA.out.size)))
    refine mT oT oT ?_
    repeat(first
     |(refine nJ nB CK6.out rfl ?_ (.tmp 7) ?_ ?_ ?_;(focus rfl);(focus rfl);(focus(simp[Act.eval];done));simp only[Act.put,zQ,zZ,zJ])
     |(refine nJ j8 CK7.out (jU _) ?_ (.tmp 8) ?_ ?_ ?_;(focus rfl);(focus rfl);(focus(simp[Act.eval];done));simp only[Act.put,zQ,zZ,zJ])
     |go_big_quiet_step ((first|(go_at_call 11;exact xA (C1.out _))|(go_at_call 12;exact xA (C2.out _)))))
    refine zF ?_
    intro _ hw'
    obtain⟨u,rfl⟩:=hw'
    have b1:=u.below
    generalize u.w=w8 at*
    clear CK6 CK7 C1 C2
    have OW:=zW (j2 (O:=fun _=>False) OW.out (j5.of_below b1) fun _ _ c=>c)
    have OX:=zW (j2 (O:=fun _=>False) OX.out (j5.of_below b1) fun _ _ c=>c)
    have DS:=zW (DS.out.step b1)
    have BW:=zW (BW.out.trans (b1.mono BW.out.size))
    have K6:=zW (K6.out.step b1)
    have BA:=zW (BA.out.trans (b1.mono BA.out.size))
    have K7:=zW (K7.out.step b1)
    clear b1
    go_upto_region 13 with fail
    cases av
    ·have AE:=zW (show mE (mV l (k+1))=false from by
      have h:=AV.out;unfold mE at h⊢;rw[RS.out,List.all_append,h,List.all_cons,VE.out];simp)
     clear VE RV PV AV
     go_upto_region 14 with fail
     refine zN ?_
     iterate 3 go_step
     refine j3 j8 K7.out (jU _) rfl (.tmp 8) rfl oD ?_
     simp only[Act.put,zQ,zZ,zJ]
     refine kC (C:=jA r) Try.underlying24 j8 lH (jU _) (jU _) oR oR rfl (.tmp 43) rfl oD ?_
     simp only[Act.put,zQ,zZ,zJ]
     have CN:=zW (mH w8 (jA r) 48)
     have ba:=jI w8 (.cells (jA r) 48)
     have OW:=zW (j2 (O:=fun _=>False) OW.out (j5.of_below ba) fun _ _ c=>c)
     have OX:=zW (j2 (O:=fun _=>False) OX.out (j5.of_below ba) fun _ _ c=>c)
     have DS:=zW (DS.out.step ba)
     have BW:=zW (BW.out.trans (ba.mono BW.out.size))
     have K6:=zW (K6.out.step ba)
     have BA:=zW (BA.out.trans (ba.mono BA.out.size))
     clear ba
     generalize w8.heap.size=g8 at CN⊢
     generalize World.alloc w8 _=w10 at CN K6 OW OX DS BW BA⊢
     refine m9 rfl (.tmp 42) (.tmp 44) rfl w1.heap.size (.slice A' k c') k (mV l k) [r] oD OW.out ⟨g8,0,none⟩ 1 1 oD rfl (by rw[wY];exact CN.out) oB BW.out.size ?_
     intro A6 c6 w11 ho hg hc6
     have I11:=(IS.out _ BA.out).kept (kF hg) (fun b e=>O1.out b e.symm)
     have K6:=zW (show Blk g6 32 (rrD d) w11 from(hg.block g6 K6.out.lt (fun e=>nN OW.out K6.out oR g6 e.symm rfl)).trans K6.out)
     have OX:=zW (j2 OX.out (kF hg) fun b e q=>yB OW.out OX.out b q.symm e.symm)
     have DS:=zW (DS.out.grow1 hg hc6)
     have P1:=zW (vO.next O1.out (IS.out _ BA.out) hc6)
     have BW:=zW (BW.out.grown hg BW.out.size fun j ej=>(OW.out.lt j ej).1)
     have OW:=zW (show w11.ownsRow w1.heap.size 48 535 (.slice A6 (k+1) c6) (k+1) (kV (mV l (k+1)))from by rw[RS.out];exact ho)
     have IS:=zW I11
     clear ho hg hc6 CN BA O1 I11
     go_upto_region 15 with fail
     refine zN ?_
     iterate 3 go_step
     refine j3 nB K6.out rfl rfl (.tmp 7) rfl oD ?_
     simp only[Act.put,zQ,zZ,zJ]
     refine kC (C:=rrD d) Try.underlying25 nB xR rfl rfl oR oR rfl (.tmp 47) rfl oD ?_
     simp only[Act.put,zQ,zZ,zJ]
     have CN:=zW (mH w11 (rrD d) 32)
     have ba:=jI w11 (.cells (rrD d) 32)
     have OW:=zW (j2 (O:=fun _=>False) OW.out (j5.of_below ba) fun _ _ c=>c)
     have OX:=zW (j2 (O:=fun _=>False) OX.out (j5.of_below ba) fun _ _ c=>c)
     have DS:=zW (DS.out.step ba)
     have BW:=zW (BW.out.trans (ba.mono BW.out.size))
     have IS:=zW (IS.out.step ba)
     clear ba K6 K7
     generalize w11.heap.size=g9 at CN⊢
     generalize World.alloc w11 _=w12 at CN OW OX DS BW IS⊢
     refine nS rfl (.tmp 46) (.tmp 48) rfl w1.heap.size (.slice B' k d') k ds d oD OX.out ⟨g9,0,none⟩ 1 oD CN.out oB BW.out.size ?_
     intro B6 d6 w13 ho hg hc6
     have I13:=IS.out.kept (kF hg) (fun b e=>O2.out b e.symm)
     have OW:=zW (j2 OW.out (kF hg) fun b e=>yB OW.out OX.out b e)
     have DS:=zW ((DS.out.grow2 hg hc6).snoc DR.out I13 P1.out (vO.next O2.out IS.out hc6))
     have BW:=zW (BW.out.grown hg BW.out.size fun j ej=>(OX.out.lt j ej).1)
     have OX:=zW ho
     clear ho hg hc6 CN I13 IS P1 O2
     rw[←RS.out]at DS
     go_wp2_with fail
     go_roundw
     case rel=>exact⟨k+1,A6,c6,B6,d6,ds++[d],JX.out,rfl,rfl,by rw[AE.out],by go_num,OW.out,OX.out,DS.out,BW.out⟩
     case measure=>have:=JX.out;simp[intOf];omega
    ·refine zN ?_
     repeat(first
      |(refine xX nB K6.out rfl ?_ (.tmp 7) ?_ ?_ ?_;(focus rfl);(focus rfl);(focus rfl);simp only[Act.put,zQ,zZ,zJ])
      |go_step)
     go_wp2_with fail
     refine(RV.out _ BA.out).mono ?_
     rintro e w9 ⟨rfl,hb⟩
     have OW:=zW (j2 (O:=fun _=>False) OW.out (j5.of_below hb) fun _ _ c=>c)
     have OX:=zW (j2 (O:=fun _=>False) OX.out (j5.of_below hb) fun _ _ c=>c)
     have DS:=zW (DS.out.step hb)
     have BW:=zW (BW.out.trans (hb.mono BW.out.size))
     have K6:=zW (K6.out.step hb)
     have BA:=zW (BA.out.trans (hb.mono BA.out.size))
     have K7:=zW (K7.out.step hb)
     clear hb
     have AE:=zW (show mE (mV l (k+1))=vr from by
      have h:=AV.out;unfold mE at h⊢;rw[RS.out,List.all_append,h,List.all_cons,VE.out];simp)
     clear VE RV PV AV
     go_upto_region 14 with fail
     refine zN ?_
     iterate 3 go_step
     refine j3 j8 K7.out (jU _) rfl (.tmp 8) rfl oD ?_
     simp only[Act.put,zQ,zZ,zJ]
     refine kC (C:=jA r) Try.underlying24 j8 lH (jU _) (jU _) oR oR rfl (.tmp 43) rfl oD ?_
     simp only[Act.put,zQ,zZ,zJ]
     have CN:=zW (mH w9 (jA r) 48)
     have ba:=jI w9 (.cells (jA r) 48)
     have OW:=zW (j2 (O:=fun _=>False) OW.out (j5.of_below ba) fun _ _ c=>c)
     have OX:=zW (j2 (O:=fun _=>False) OX.out (j5.of_below ba) fun _ _ c=>c)
     have DS:=zW (DS.out.step ba)
     have BW:=zW (BW.out.trans (ba.mono BW.out.size))
     have K6:=zW (K6.out.step ba)
     have BA:=zW (BA.out.trans (ba.mono BA.out.size))
     clear ba
     generalize w9.heap.size=g8 at CN⊢
     generalize World.alloc w9 _=w10 at CN K6 OW OX DS BW BA⊢
     refine m9 rfl (.tmp 42) (.tmp 44) rfl w1.heap.size (.slice A' k c') k (mV l k) [r] oD OW.out ⟨g8,0,none⟩ 1 1 oD rfl (by rw[wY];exact CN.out) oB BW.out.size ?_
     intro A6 c6 w11 ho hg hc6
     have I11:=(IS.out _ BA.out).kept (kF hg) (fun b e=>O1.out b e.symm)
     have K6:=zW (show Blk g6 32 (rrD d) w11 from(hg.block g6 K6.out.lt (fun e=>nN OW.out K6.out oR g6 e.symm rfl)).trans K6.out)
     have OX:=zW (j2 OX.out (kF hg) fun b e q=>yB OW.out OX.out b q.symm e.symm)
     have DS:=zW (DS.out.grow1 hg hc6)
     have P1:=zW (vO.next O1.out (IS.out _ BA.out) hc6)
     have BW:=zW (BW.out.grown hg BW.out.size fun j ej=>(OW.out.lt j ej).1)
     have OW:=zW (show w11.ownsRow w1.heap.size 48 535 (.slice A6 (k+1) c6) (k+1) (kV (mV l (k+1)))from by rw[RS.out];exact ho)
     have IS:=zW I11
     clear ho hg hc6 CN BA O1 I11
     go_upto_region 15 with fail
     refine zN ?_
     iterate 3 go_step
     refine j3 nB K6.out rfl rfl (.tmp 7) rfl oD ?_
     simp only[Act.put,zQ,zZ,zJ]
     refine kC (C:=rrD d) Try.underlying25 nB xR rfl rfl oR oR rfl (.tmp 47) rfl oD ?_
     simp only[Act.put,zQ,zZ,zJ]
     have CN:=zW (mH w11 (rrD d) 32)
     have ba:=jI w11 (.cells (rrD d) 32)
     have OW:=zW (j2 (O:=fun _=>False) OW.out (j5.of_below ba) fun _ _ c=>c)
     have OX:=zW (j2 (O:=fun _=>False) OX.out (j5.of_below ba) fun _ _ c=>c)
     have DS:=zW (DS.out.step ba)
     have BW:=zW (BW.out.trans (ba.mono BW.out.size))
     have IS:=zW (IS.out.step ba)
     clear ba K6 K7
     generalize w11.heap.size=g9 at CN⊢
     generalize World.alloc w11 _=w12 at CN OW OX DS BW IS⊢
     refine nS rfl (.tmp 46) (.tmp 48) rfl w1.heap.size (.slice B' k d') k ds d oD OX.out ⟨g9,0,none⟩ 1 oD CN.out oB BW.out.size ?_
     intro B6 d6 w13 ho hg hc6
     have I13:=IS.out.kept (kF hg) (fun b e=>O2.out b e.symm)
     have OW:=zW (j2 OW.out (kF hg) fun b e=>yB OW.out OX.out b e)
     have DS:=zW ((DS.out.grow2 hg hc6).snoc DR.out I13 P1.out (vO.next O2.out IS.out hc6))
     have BW:=zW (BW.out.grown hg BW.out.size fun j ej=>(OX.out.lt j ej).1)
     have OX:=zW ho
     clear ho hg hc6 CN I13 IS P1 O2
     rw[←RS.out]at DS
     go_wp2_with fail
     go_roundw
     case rel=>exact⟨k+1,A6,c6,B6,d6,ds++[d],JX.out,rfl,rfl,by rw[AE.out],by go_num,OW.out,OX.out,DS.out,BW.out⟩
     case measure=>have:=JX.out;simp[intOf];omega
   ·obtain rfl:k=n:=by omega
    have L0:=zW (eG (l:=l) (k:=k) (by rw[LE.out];exact zP _))
    have OI:=zW (pB HC.out.ok k)
    generalize mV l k=L at OW L0 OI AV DS
    have BB:=zW (BB.out.trans (BW.out.mono BB.out.size))
    have RA:=zW (mD.of_own OW.out L0.out)
    have LX:=zW (RrL.of_own (N:=N) OX.out DS.out.len (fun i hi=>(DS.out.is i hi).1))
    have DE:=zW DS.out.r
    have DL:=zW DS.out.len
    have FL:=zW (bG L k L0.out MN.out)
    clear OW OX BW HC DS
    cases av
    ·go_wp2_with fail
     refine(wC L A' k c' L0.out AV.out wr RA.out OI.out (by have:=MN.out;omega) (by have:=FL.out;omega)).mono ?_
     rintro e w3 ⟨rfl,hb⟩
     have BE:=zW (BB.out.trans (hb.mono BB.out.size))
     clear hb
     go_wp2_with fail
     go_ret
     exact⟨rfl,BE.out⟩
    ·obtain⟨D,hD⟩:∃D,(mN L).length=D:=⟨_,rfl⟩
     have EN:=zW hD
     have D9:=zW (show D≤30000 from by rw[←hD,uB];have:=FL.out;omega)
     clear hD
     have OE:=zW (show∀i (h:i<ds.length),OkE ds[i].r from fun i h=>dO OI.out AV.out _ (by rw[←DE.out];exact jX.2 ⟨ds[i],jV h,rfl⟩))
     go_wp2_with fail
     refine(cR L A' k c' D L0.out EN.out AV.out wr RA.out OI.out (by have:=MN.out;omega) (by have:=D9.out;omega)).mono ?_
     rintro e w3 ⟨E3,d3,rfl,ho,hb⟩
     have RC:=zW (show Calls Try.prog 15 #[.slice B' k d'] w3 (gW (mN L) w3)from by
      rw[←DE.out];exact uI N NN.out ds B' k d' DL.out w3 (LX.out.step hb) OE.out (by have:=MN.out;omega))
     have R3:=zW (mU ho)
     have BE:=zW (BB.out.trans (hb.mono BB.out.size))
     clear ho hb BB
     go_wp2_with fail
     refine RC.out.mono ?_
     rintro e w4 ⟨A2,c2,rfl,ho,hb⟩
     rw[EN.out]at ho⊢
     have h:=wX E3 A2 d3 c2 D D (toI (mN L)) (toI (mN L)) w4 (by rw[lG];exact EN.out) (by rw[lG];exact EN.out) (by have:=D9.out;omega) (by have:=D9.out;omega) (R3.out.below hb) (mU ho)
     rw[zU rfl]at h
     have SM:=zW h
     have BE:=zW (BE.out.trans (hb.mono BE.out.size))
     clear ho hb h RC
     go_wp2_with fail
     refine SM.out.mono ?_
     rintro e w5 ⟨rfl,hb⟩
     have BE:=zW (BE.out.trans (hb.mono BE.out.size))
     clear hb SM
     go_wp2_with fail
     go_ret
     exact⟨rfl,BE.out⟩
end
end Go.Proofs.Ytilideoeaecoaaa
