/- RecBytesW, RecLaw, RecDiffsW, RecSizesW, RecCanonW. -/
import Derived.Test.YtilideoeaecoaaaMRecAwake
import Derived.Test.YtilideoeaecoaaaMRecFwd
set_option maxRecDepth 400000
set_option maxHeartbeats 64000000
set_option linter.unusedVariables false
set_option linter.unusedSimpArgs false
namespace Go.Proofs.Ytilideoeaecoaaa
section
open Go.RowKit Num
theorem sC{L:List Int}(h:∀x∈L,0≤x∧x≤255):toI (L.map Int.toNat)=L∧∀b∈L.map Int.toNat,b<256:=by
 constructor
 ·unfold toI;rw[List.map_map];conv=>rhs;rw[←List.map_id L]
  refine List.map_congr_left fun x hx=>?_;have:=(h x hx).1;show((x.toNat:Nat):Int)=x;omega
 ·intro b hb;obtain⟨x,hx,rfl⟩:=jV.1 hb;have:=h x hx;omega
theorem yW(A:Option Addr)(n c:Nat)(L:List Int)(w:World)(H:pF w A n c L):
  Calls Try.prog 5 #[.slice A n c] w fun e w'=>e=.returned (.bool true)∧Below w.heap.size w w':=by
 obtain⟨nb1,nb2⟩:=sC H.bd;have N1:=zW nb1;have N2:=zW nb2;have NL:=zW (show(L.map Int.toNat).length=n from by rw[qJ];exact H.len);have HA:=zW H;have n9:(n:Int)≤9223372036854775807:=by have:=H.max;have:=H.cap;unfold maxLen at*;omega
 clear nb1 nb2 H;go_enter Try.func5,Try.ntmps5;go_wp2_with fail;refine(nT w).mono ?_;rintro e w1 ⟨rfl,hb⟩;have BB:=zW hb;clear hb;by_cases hlt:10000<n
 ·have hi:(10000:Int)<(n:Int):=oD;exact ZL
 ·have hi:¬(10000:Int)<(n:Int):=oD;have MN:=zW (show n≤10000 by omega);clear hlt;have hown:(w1.alloc (.cells #[] 5)).ownsRow w1.heap.size 5 1 (.slice (some ⟨w1.heap.size,0,none⟩) 0 0) 0 (([]:List Int).map (Value.int .u8)):=World.ownsRow_made w1 #[] 0 (zT _) oU rfl;have OW:=zW (zD hown (j2 w1 (.cells #[] 5)));clear hown;go_upto_region 3 with fail;go_upto_region 4 with((at_builtin;refine lP rfl (.tmp 16) (.tmp 17) rfl w1.heap.size _ 0 [] rfl OW.out.1 A n c L rfl ((HA.out.rd.below BB.out).below OW.out.2) HA.out.len oE oC ?_;intro v3 w3 ho hg));obtain⟨A3,c3,rfl⟩:=mN ho;rw[zI,List.nil_append]at ho;have R3:=zW (dV ho);have B3:=zW (OW.out.2.grown hg oC fun j ej=>(OW.out.1.lt j ej).1);have BB:=zW (BB.out.trans (B3.out.mono BB.out.size));have RA:=zW (show Rd w3 A (toI (L.map Int.toNat))from by rw[N1.out];exact HA.out.rd.below BB.out);clear ho hg OW B3;simp only[zI];have NN:=zW (zD HA.out.len (zD HA.out.cap HA.out.max));have RL:=zW (fun u (hb:Below w.heap.size w u)=>HA.out.rd.below hb);clear HA;cases hv:nJ (L.map Int.toNat)
  ·have DN:=zW (nO (L.map Int.toNat) N2.out hv A n c NL.out NN.out.2.1 NN.out.2.2 w3 RA.out);clear hv;go_wp2_with fail;refine DN.out.mono ?_;rintro e w4 ⟨rfl,hb⟩;have BB:=zW (BB.out.trans (hb.mono BB.out.size));have R3:=zW (R3.out.below hb);clear hb DN RA;have SC:=zW (show Calls Try.prog 14 #[.slice A n c,.slice A3 n c3] w4 fun e w'=>e=.returned (.bool true)∧Below w4.heap.size w4 w' from by
    have h:=nC A A3 c c3 n n L L w4 NN.out.1 NN.out.1 oE oE (RL.out w4 BB.out) R3.out;rw[zP rfl]at h;exact h)
   go_wp2_with fail;refine SC.out.mono ?_;rintro e w5 ⟨rfl,hb⟩;exact ZD
  ·have VY:=zW (uX (L.map Int.toNat) N2.out hv);have DN:=zW (xM (L.map Int.toNat) N2.out hv A n c NL.out NN.out.2.1 NN.out.2.2 w3 RA.out);clear hv;generalize mK (L.map Int.toNat)=l at VY DN;obtain⟨k,hk⟩:∃k,l.length=k:=⟨_,rfl⟩;rw[hk]at DN;have LK:=zW hk;have K1:=zW (show k≤30000 from by
    have h1:=eG l;have h2:=nI l;rw[←VY.out.1,NL.out]at h2;have:=MN.out;omega)
   clear hk;go_wp2_with fail;refine DN.out.mono ?_;rintro e w4 ⟨g4,rfl,ho,hb⟩;have RO:=zW (lL.of_own ho LK.out);have BB:=zW (BB.out.trans (hb.mono BB.out.size));have R3:=zW (R3.out.below hb);clear hb DN RA ho;have SC:=zW (show Calls Try.prog 14 #[.slice A n c,.slice A3 n c3] w4 fun e w'=>e=.returned (.bool true)∧Below w4.heap.size w4 w' from by
    have h:=nC A A3 c c3 n n L L w4 NN.out.1 NN.out.1 oE oE (RL.out w4 BB.out) R3.out;rw[zP rfl]at h;exact h)
   go_wp2_with fail;refine SC.out.mono ?_;rintro e w5 ⟨rfl,hb⟩;have BB:=zW (BB.out.trans (hb.mono BB.out.size));have RO:=zW (RO.out.step hb);clear hb SC R3;go_wp2_with fail;refine(mS l (some ⟨g4,0,none⟩) k k n LK.out (by rw[←VY.out.1];exact NL.out) VY.out.2.1 w5 RO.out VY.out.2.2.1 K1.out oE).mono ?_;rintro e w6 ⟨D,d,rfl,ho,hb⟩;have BB:=zW (BB.out.trans (hb.mono BB.out.size));have RD:=zW (show Rd w6 D L from by
    rw[←VY.out.1]at ho;have h:=vN ho;rw[N1.out]at h;exact h)
   clear ho hb;have SC:=zW (show Calls Try.prog 14 #[.slice D n d,.slice A n c] w6 fun e w'=>e=.returned (.bool true)∧Below w6.heap.size w6 w' from by
    have h:=nC D A d c n n L L w6 NN.out.1 NN.out.1 oE oE RD.out (RL.out w6 BB.out);rw[zP rfl]at h;exact h)
   go_wp2_with fail;refine SC.out.mono ?_;rintro e w7 ⟨rfl,hb⟩;exact ZD
theorem fW{c:Cd}(h:pD c):OkI (kA c):=⟨⟨h.pat,h.pt⟩,h.y⟩
def kU(l:List Cd)(k:Nat):List j3:=(l.take k).map kA
theorem xX{l:List Cd}{k:Nat}(h:k<l.length):kU l (k+1)=kU l k++[kA l[k]]:=by
 unfold kU;rw[List.take_add_one,jY,z8 h];rfl
theorem cK{l:List Cd}{k:Nat}(h:k≤l.length):(kU l k).length=k:=by unfold kU;simp;omega
theorem hH{l:List Cd}(h:∀i (hi:i<l.length),pD l[i])(k:Nat):∀r∈kU l k,OkI r:=fun r hr=>by
 unfold kU at hr;obtain⟨c,hc,rfl⟩:=jV.1 hr;obtain⟨i,hi,rfl⟩:=List.getElem_of_mem (List.mem_of_mem_take hc);exact fW (h i hi)
theorem gW{w:World}{base n c size:Nat}{A:Option Addr}{e:TypeId}{xs:List Value}(h:w.ownsRow base e size (.slice A n c) n xs)(hn:0<n):∃g,A=some ⟨g,0,none⟩:=by
 rcases h.2 with⟨_,e2⟩|⟨g,cap,cur,e1,_⟩
 ·omega
 ·injection e1 with e1 _ _
  exact⟨g,e1⟩
theorem yJ(w:World)(ty:TypeId)(base:Nat)(v:Value)(n:Nat)(l m:List j3)(hown:w.ownsRow base 48 535 v n (kZ l))(A:Option Addr)(k c:Nat)(hk:m.length=k)(hR:lL A m w)
  (h63:n+k≤1100000) (hbase:base≤w.heap.size):
  ∃v' w',(Builtin.append_ #[24,24] ty #[v,.slice A k c]).run Try.prog w=.ok v' w'∧w'.ownsRow base 48 535 v' (n+k) (kZ (l++m))∧w.grownBy w' v.ownBlock:=by
 cases A with
 |none=>
  have e:m=[]:=by
   refine Classical.byContradiction fun hne=>?_;obtain⟨g,e,_⟩:=hR hne;cases e
  subst e
  have hk:k=0:=hk.symm
  subst hk
  obtain⟨i,hi,hz,hs,hb⟩:=xC
  refine⟨v,w,?_,by simpa using hown,World.grownBy.refl w _⟩
  rcases hown.2 with⟨rfl,rfl⟩|⟨g,cap,cur,rfl,_,_,hnc,_⟩
  ·simp[Builtin.append_,z9 Try.underlying24,sizeOf,typeInfo,hi,Builtin.lenOf,Builtin.firstCells]
  ·simp[Builtin.append_,z9 Try.underlying24,sizeOf,typeInfo,hi,Builtin.lenOf,Builtin.firstCells,hnc,storeCells]
 |some ad=>
  have hc:∀j u,(kZ m)[j]?=some u→w.cell? (ad.add j)=some u:=by
   by_cases hne:m=[]
   ·subst hne;intro j u hu;cases hu
   ·obtain⟨g,e,hr⟩:=hR hne;injection e with e
    subst e;intro j u hu;have hj:=(qU.1 hu).1;rw[cX]at hj;have hi:j/535<m.length:=oD;have hm:j%535<535:=qA _ oF;have h1:=kQ m[j/535] hm;have h2:=yX m (j/535) hi (j%535) _ (by rw[qB];exact h1);rw[show j/535*535+j%535=j by omega]at h2;have h3:=hr.at_ (j/535) hi (j%535) _ (by rw[qB];exact h1);rw[show j/535*535+j%535=j by omega]at h3;rw[v4,zI,h3,←h2,hu]
  obtain⟨v',w',h1,h2,h3,_⟩:=uQ w ty base v n l m hown ad k c hk hc h63 hbase
  exact⟨v',w',h1,h2,h3⟩
theorem lX{w:World}{ops:Array Oper}{rest:List Oper}{o:Oper}{a:Act}{Q:Exit→Act→World→Prop}(hgd:o.guard=none)(s x:Operand)
  (ho:o.op=.call {callee:=.builtin .append,args:=#[s,x],argTypes:=#[24,24]}) (base:Nat) (v:Value) (n:Nat) (l m:List j3) (hs:a.eval s=v) (hown:w.ownsRow base 48 535 v n (kZ l)) (A:Option Addr) (k c:Nat) (hx:a.eval x=.slice A k c) (hk:m.length=k) (hR:lL A m w)
  (h63:n+k≤1100000) (hbase:base≤w.heap.size)
  (h:∀A' c' w',w'.ownsRow base 48 535 (.slice A' (n+k) c') (n+k) (kZ (l++m))→w.grownBy w' v.ownBlock→wpList Try.prog ops Q rest (a.put o.dst (.slice A' (n+k) c')) w'):wpList Try.prog ops Q (o::rest) a w:=by
 refine zO hgd fun K hK=>?_;obtain⟨v',w',hrun,h2,h3⟩:=yJ w o.type base v n l m hown A k c hk hR h63 hbase;obtain⟨A',c',hv⟩:∃A' c',v'=.slice A' (n+k) c':=by
  rcases h2.2 with⟨e,e2⟩|⟨g,cap,cur,e,_⟩
  ·exact⟨none,0,by rw[e,e2]⟩
  ·exact⟨_,_,e⟩
 subst hv;unfold Oper.wp execOp;simp only[ho,resolve,invoke,builtin,zH,Sem.run_pure,Result.andThen_ok,List.map_toArray,List.map_cons,List.map_nil,hs,hx,hrun];exact hK _ _ (h A' c' w' h2 h3)
theorem sY(r':j3)(j:Nat)(v:Value)(hj:j<535)(l:List j3):∀(i:Nat) (h:i<l.length),(j0 l[i]).setIfInBounds j v=j0 r'→(kZ l).set (i*535+j) v=kZ (l.set i r'):=by
 induction l with
 |nil=>intro i h;exact absurd h (Nat.not_lt_zero i)
 |cons r l ih=>
  intro i h e
  cases i with
  |zero=>
   rw[List.getElem_cons_zero]at e
   show((j0 r).toList++kZ l).set (0*535+j) v=(j0 r').toList++kZ l
   rw[Nat.zero_mul,zI,List.set_append_left _ _ (by rw[nX];exact hj),←e,Array.toList_setIfInBounds]
  |succ i=>
   rw[List.getElem_cons_succ]at e
   show((j0 r).toList++kZ l).set ((i+1)*535+j) v=(j0 r).toList++kZ (l.set i r')
   rw[List.set_append_right _ _ (by rw[nX];omega),nX,show(i+1)*535+j-535=i*535+j by omega,ih i (by simpa using h) e]
theorem gY{w:World}{base g n c i j:Nat}{l:List j3}{r':j3}{v:Value}(h:w.ownsRow base 48 535 (.slice (some ⟨g,0,none⟩) n c) n (kZ l))(hl:l.length=n)(hi:i<l.length)(hj:j<535)(e:(j0 l[i]).setIfInBounds j v=j0 r'):
  (w.setCell ⟨g,i*535+j,none⟩ v).ownsRow base 48 535 (.slice (some ⟨g,0,none⟩) n c) n (kZ (l.set i r')):=by
 rcases h.2 with⟨e1,_⟩|⟨g',cap,cur,e1,hb,hg,h1,h2,h3,h4⟩
 ·cases e1
 ·injection e1 with e1 _ e3
  injection e1 with e1
  injection e1 with e1
  subst e1 e3;refine⟨by rw[cX,List.length_set,hl],.inr ⟨g,c,_,rfl,hb,heap_setCell_same w g (i*535+j) _ _ v hg,h1,h2,by simpa using h3,?_⟩⟩;rw[Array.toList_setIfInBounds,List.take_set,h4,sY r' j v hj l i hi e]
theorem rH{w:World}{base g n c i j:Nat}{l:List j3}{v:Value}(h:w.ownsRow base 48 535 (.slice (some ⟨g,0,none⟩) n c) n (kZ l))(hl:l.length=n)(hi:i<l.length)(e:(j0 l[i])[j]?=some v):w.cell? ⟨g,i*535+j,none⟩=some v∧w.frozen? ⟨g,i*535+j,none⟩=false:=by
 subst hl;have h1:=(Rcs.of_own h).at_ i hi j v (by rw[qB];exact e);rcases h.2 with⟨e1,_⟩|⟨g',cap,cur,e1,hb,hg,_⟩
 ·cases e1
 ·injection e1 with e1 _ _
  injection e1 with e1
  injection e1 with e1
  subst e1;exact⟨h1,frozen_of_row w g _ _ _ hg⟩
theorem gI(A:Option Addr)(n c m:Nat)(hm:m≤c)(w:World):
  (Instr.sliceAt 24 (.slice A n c) none (some (.int .i64 (m:Int))) none).run Try.prog w=.ok (.slice A m c) w:=by
 rw[run_sliceAt_slice (P:=Try.prog) w 24 _ _ _ _ Try.underlying24,run_slice_h (P:=Try.prog) w 24 _ n c Try.underlying24 .i64 m oD oD];have hs:(Try.prog.info? 48).map (·.size)=some 535:=kX.i;have he:Try.prog.elem 24=48:=oS;cases hq:Try.prog.info? 48 with
 |none=>rw[hq]at hs;cases hs
 |some i=>
  have hs:i.size=535:=by simpa [hq]using hs
  simp[sizeOf,typeInfo,he,hq,hs,sliced]
  by_cases h:c=0
  ·subst h
   obtain rfl:m=0:=by omega
   simp
  ·simp[h,Addr.add]
theorem lL.take{A:Option Addr}{l:List j3}{w:World}(h:lL A l w)(k:Nat):lL A (l.take k) w:=fun hne=>by
 obtain⟨g,e,hr⟩:=h (by rintro rfl;simp at hne);exact⟨g,e,hr.lt,fun i hi j v hv=>by
  rw[z3]at hi;rw[qC]at hv;exact hr.at_ i oD j v hv⟩
theorem uL{l m:List j3}{k:Nat}{x:Int}(h:v8 l m x)(h1:k<l.length∨k<m.length)(h2:¬wK l m k)(h3:∀i,i<k→wK l m i):x=k:=by
 rcases h with⟨q,rfl,a1,a2,a3⟩|⟨_,a2,a3⟩
 ·congr 1
  rcases Nat.lt_trichotomy q k with e|e|e
  ·exact absurd (h3 q e) a2
  ·exact e
  ·exact absurd (a3 k e) h2
 ·exact absurd (a3 k oD) h2
theorem cM{l m:List j3}{i:Nat}(h1:i<l.length)(h2:i<m.length)(e:l[i]=m[i]):wK l m i:=⟨h1,h2,by rw[e];exact gE _⟩
theorem gM{r:j3}:eqR r {r with so:=!r.so}=false:=by
 rw[Bool.eq_false_iff];intro h;have:=((tR _ _).1 h).so;simp at this
theorem tL{r:j3}:eqR {r with so:=!r.so} r=false:=by
 rw[Bool.eq_false_iff];intro h;have:=((tR _ _).1 h).so;simp at this
structure yF(L M:List j3)(q n:Nat):Prop where
 lenL:L.length=n
 lenM:M.length=n
 lt:q<n
 same:∀i (h:i<L.length) (k:i<M.length),i<q→L[i]=M[i]
 turn:∀(h:q<L.length) (k:q<M.length),M[q]={L[q]with so:=!L[q].so}
theorem yF.ab{L M:List j3}{q n:Nat}(T:yF L M q n){x:Int}(h:v8 L M x):x=q:=
 uL h (.inl (by rw[T.lenL];exact T.lt)) (fun⟨a,b,e⟩=>by rw[T.turn a b,gM]at e;cases e) fun i hi=>cM (by rw[T.lenL];have:=T.lt;omega) (by rw[T.lenM];have:=T.lt;omega) (T.same i _ _ hi)
theorem yF.ba{L M:List j3}{q n:Nat}(T:yF L M q n){x:Int}(h:v8 M L x):x=q:=
 uL h (.inl (by rw[T.lenM];exact T.lt)) (fun⟨a,b,e⟩=>by rw[T.turn b a,tL]at e;cases e) fun i hi=>cM (by rw[T.lenM];have:=T.lt;omega) (by rw[T.lenL];have:=T.lt;omega) (T.same i _ _ hi).symm
theorem gA{L:List j3}{q n:Nat}(hL:L.length=n)(hq:q<n){x:Int}(h:v8 L (L.take q) x):x=q:=
 uL h (.inl oD) (fun⟨_,b,_⟩=>by rw[z3]at b;omega) fun i hi=>cM oD (by rw[z3];omega) (qC).symm
theorem rD{L:List j3}{q n:Nat}(hL:L.length=n)(hq:q<n){x:Int}(h:v8 (L.take q) L x):x=q:=
 uL h (.inr oD) (fun⟨a,_,_⟩=>by rw[z3]at a;omega) fun i hi=>cM (by rw[z3];omega) oD qC
theorem yV(A:Option Addr)(n c:Nat)(l:List Cd)(a1:Int)(b:Bool)(w:World)(H:Cds w A n l)(wc:(Lit.int .u8 a1).wf=true):
  Calls Try.prog 6 #[.slice A n c,.int .u8 a1,.bool b] w fun e w'=>e=.returned (.bool true)∧Below w.heap.size w w':=by
 obtain⟨N,hN⟩:∃N,N=8192:=⟨_,rfl⟩;have NN:=zW hN;have HC:=zW H;have n9:(n:Int)≤9223372036854775807:=by have:=H.max;unfold maxLen at this;omega
 obtain⟨t0,t1⟩:=Num.bd_u8 wc;clear hN H wc;go_enter Try.func6,Try.ntmps6;go_wp2_with fail;refine(nT w).mono ?_;rintro e w1 ⟨rfl,hb⟩;have BB:=zW hb;clear hb;by_cases hlt:4<n
 ·have hi:(4:Int)<(n:Int):=oD;exact ZL
 ·have hi:¬(4:Int)<(n:Int):=oD;have MN:=zW (show n≤4 by omega);clear hlt;have LE:=zW HC.out.len;go_wp2_with fail;go_loopw [7,8] (fun v i wr=>∃k A' c',k≤n∧v=.slice A' k c'∧i=.int .i64 ((k:Nat):Int)∧wr.ownsRow w1.heap.size 48 535 (.slice A' k c') k (kZ (kU l k))∧Below w1.heap.size w1 wr) (fun _ i _=>n-(intOf i).toNat)
  case atStart=>exact⟨0,none,0,zF _,rfl,rfl,jH _ _ _ _,zU _ _⟩
  case round=>
   obtain⟨k,A',c',hk,rfl,rfl,ho,hb⟩:=hrel
   have OW:=zW ho
   have BW:=zW hb
   clear ho hb
   by_cases hlt:k<n
   ·have JX:=zW hlt
    have ki:(k:Int)<(n:Int):=oD
    have k9:(k:Int)≤4:=by have:=MN.out;omega
    have hl:k<l.length:=by rw[LE.out];exact hlt
    obtain⟨bb,oo,e,lt,ra⟩:=(HC.out.step (BB.out.trans (BW.out.mono BB.out.size))).at_ k hl
    have CO:=zW (HC.out.ok k hl)
    have RS:=zW (xX hl)
    have RA:=zW ra
    subst e
    clear ra lt
    generalize l[k]=cd at CO RS RA
    go_upto_region 7 with fail
    refine zN ?_
    iterate 12 go_step
    refine lC (o:=oo+k*36) eU RA.out lV rfl (.tmp 28) rfl oP ?_
    simp only[Act.put,zQ,zZ,zJ]
    go_wp2_with fail
    refine(cJ N NN.out cd CO.out _).mono ?_
    rintro e w3 ⟨Aa,cA,Bb,cB,gs,rfl,hr,hb⟩
    have RR:=zW hr
    have OW:=zW (j6 (O:=fun _=>False) OW.out (j9.of_below hb) fun _ _ c=>c)
    have BW:=zW (BW.out.trans (hb.mono BW.out.size))
    clear hr hb
    go_wp2_with fail
    refine(yB N NN.out (kA cd) Aa cA Bb cB gs (plF cd) (fun i _=>rfl) w3 RR.out).mono ?_
    rintro e w4 ⟨rfl,hb⟩
    have OW:=zW (j6 (O:=fun _=>False) OW.out (j9.of_below hb) fun _ _ c=>c)
    have BW:=zW (BW.out.trans (hb.mono BW.out.size))
    clear hb RR RA
    generalize kA cd=r at RS⊢
    simp only[]
    go_at_K
    go_step
    refine lW (C:=j0 r) Try.underlying24 kX lR (j1 _) (j1 _) oF oF rfl (.tmp 31) rfl oP ?_
    simp only[Act.put,zQ,zZ,zJ]
    have RO:=zW (lL.one w4 r)
    have ba:=j2 w4 (.cells (j0 r) 48)
    have OW:=zW (j6 (O:=fun _=>False) OW.out (j9.of_below ba) fun _ _ c=>c)
    have BW:=zW (BW.out.trans (ba.mono BW.out.size))
    clear ba
    generalize w4.heap.size=g5 at RO⊢
    generalize World.alloc w4 _=w5 at RO OW BW⊢
    refine lX rfl (.tmp 25) (.tmp 32) rfl w1.heap.size (.slice A' k c') k (kU l k) [r] oP OW.out (some ⟨g5,0,none⟩) 1 1 oP rfl RO.out oD BW.out.size ?_
    intro A6 c6 w6 ho hg
    have OA:=zW (show w6.ownsRow w1.heap.size 48 535 (.slice A6 (k+1) c6) (k+1) (kZ (kU l (k+1)))from by rw[RS.out];exact ho)
    have BW:=zW (BW.out.grown hg BW.out.size fun j ej=>(OW.out.lt j ej).1)
    clear ho hg OW RO
    go_wp2_with fail
    go_roundw
    case rel=>exact⟨k+1,A6,c6,JX.out,rfl,by go_num,OA.out,BW.out⟩
    case measure=>have:=JX.out;simp[intOf];omega
   ·obtain rfl:k=n:=by omega
    have L0:=zW (cK (l:=l) (k:=k) (by rw[LE.out];exact zT _))
    generalize kU l k=L at OW L0
    have BB:=zW (BB.out.trans (BW.out.mono BB.out.size))
    have RA:=zW (lL.of_own OW.out L0.out)
    have OA0:=OW
    clear OW BW HC LE
    obtain⟨cN,rfl⟩:=jZ t0
    obtain⟨q,hq⟩:∃q,cN%(k+1)=q:=⟨_,rfl⟩
    have QL:=zW (show q<k+1 from by rw[←hq];exact qA _ oD)
    have t2:(cN:Int).tmod ((k:Int)+1)=(q:Int):=by
     rw[uB _ _ oD,←hq];simp
    have u1:IntKind.i64.wrap (cN:Int)=(cN:Int):=by rw[zC];omega
    have u2:IntKind.i64.wrap ((k:Int)+1)=(k:Int)+1:=by rw[zC];omega
    have u3:IntKind.i64.wrap (q:Int)=(q:Int):=by rw[zC];have:=QL.out;omega
    have u4:¬((k:Int)+1=0):=oD
    clear hq
    have hown:(wr.alloc (.cells #[] 48)).ownsRow wr.heap.size 48 535 (.slice (some ⟨wr.heap.size,0,none⟩) 0 0) 0 (kZ []):=World.ownsRow_made wr #[] 0 (zT _) oU rfl
    have ba:=j2 wr (.cells #[] 48)
    have OW:=zW (zD hown ba)
    clear hown ba
    go_upto_region 9 with fail
    clear t2 u1 u2 u3 u4
    go_upto_region 10 with((at_builtin;refine lX rfl (.tmp 40) (.tmp 41) rfl wr.heap.size (.slice (some ⟨wr.heap.size,0,none⟩) 0 0) 0 [] L oP OW.out.1 A' k c' oP L0.out (RA.out.step OW.out.2) oE oC ?_;intro A7 c7 w7 ho hg))
    rw[zI,List.nil_append]at ho
    have OB:=zW ho
    have BW:=zW (OW.out.2.grown hg oC fun j ej=>(OW.out.1.lt j ej).1)
    have k9:k≤4:=MN.out
    have CA:=zW (nU OA0.out).1
    try simp only[zI]
    clear ho hg OW OA0
    by_cases hqn:q<k
    ·have qi:(q:Int)<(k:Int):=oD
     obtain⟨gb,eb⟩:=gW OB.out oD
     subst eb
     have GB:=zW (OB.out.lt gb rfl).1
     have hlq:q<L.length:=by rw[L0.out];exact hqn
     have OC:=zW (fun j v (e:(j0 L[q])[j]?=some v)=>rH OB.out L0.out hlq e)
     obtain⟨c1,f1⟩:=OC.out 513 _ (kQ _ oD)
     have OP:=zW (gY OB.out L0.out hlq (show 513<535 by omega) (eV L[q] (!L[q].so)))
     have LQ:=zW (show∃r,L[q]=r from⟨_,rfl⟩)
     have TT:=zW (show yF L (L.set q {L[q]with so:=!L[q].so}) q k from⟨L0.out,by rw[List.length_set];exact L0.out,hqn,fun i h kk hi=>by rw[List.getElem_set_ne oD],fun h kk=>by rw[List.getElem_set_self]⟩)
     replace c1:w7.cell? ⟨gb,q*535+513,none⟩=some (.bool L[q].so):=c1
     generalize L[q]=r at OC OP TT c1
     obtain⟨M,hM⟩:∃M,L.set q {r with so:=!r.so}=M:=⟨_,rfl⟩
     rw[hM]at OP TT
     clear hM LQ OC
     go_upto_region 12 with fail
     clear c1 f1
     have OB:=OP
     have BW:=zW (BW.out.setCell (p:=⟨gb,q*535+513,none⟩) GB.out (.bool (!r.so)))
     clear OP
     generalize World.setCell w7 _ _=w8 at OB BW⊢
     by_cases hs:b=true∧q+1<k
     ·obtain⟨rfl,hs⟩:=hs
      have hi1:(q:Int)+1<(k:Int):=oD
      have hl2:q+1<M.length:=by rw[TT.out.lenM];exact hs
      obtain⟨c1,f1⟩:=rH OB.out TT.out.lenM hl2 (kQ _ (show 530<535 by omega))
      have OP:=zW (gY OB.out TT.out.lenM hl2 (show 530<535 by omega) (eW M[q+1] (((M[q+1].pt+1)%256))))
      have T2:=zW (show yF L (M.set (q+1) {M[q+1]with pt:=((M[q+1].pt+1)%256)}) q k from⟨TT.out.lenL,by rw[List.length_set];exact TT.out.lenM,TT.out.lt,fun i h kk hi=>by rw[List.getElem_set_ne oD];exact TT.out.same i h _ hi,fun h kk=>by rw[List.getElem_set_ne oD];exact TT.out.turn h _⟩)
      replace c1:w8.cell? ⟨gb,(q+1)*535+530,none⟩=some (.int .u8 M[q+1].pt):=c1
      generalize M[q+1]=r2 at OP T2 c1
      obtain⟨M2,hM⟩:∃M2,M.set (q+1) {r2 with pt:=((r2.pt+1)%256)}=M2:=⟨_,rfl⟩
      rw[hM]at OP T2
      clear hM TT OB
      have u2:IntKind.i64.wrap ((q:Int)+1)=((q+1:Nat):Int):=by rw[zC];omega
      have hi2:((q+1:Nat):Int)<(k:Int):=oD
      go_upto_region 14 with fail
      clear c1 f1 u2
      have OB:=OP
      have BW:=zW (BW.out.setCell (p:=⟨gb,(q+1)*535+530,none⟩) GB.out (.int .u8 (((r2.pt+1)%256))))
      have TT:=T2
      clear OP T2
      generalize World.setCell w8 _ _=w9 at OB BW⊢
      have D1:=zW (fun u (hb:Below wr.heap.size wr u) (ho:u.ownsRow wr.heap.size 48 535 (.slice (some ⟨gb,0,none⟩) k c7) k (kZ M2))=>show Calls Try.prog 17 #[.slice A' k c',.slice (some ⟨gb,0,none⟩) k c7] u fun e w'=>e=.returned (.int .i64 (q:Int))∧Below u.heap.size u w' from
       (kC L M2 A' _ k c' k c7 TT.out.lenL TT.out.lenM oD oD u (RA.out.step hb) (lL.of_own ho TT.out.lenM)).mono o7)
      have D2:=zW (fun u (hb:Below wr.heap.size wr u) (ho:u.ownsRow wr.heap.size 48 535 (.slice (some ⟨gb,0,none⟩) k c7) k (kZ M2))=>show Calls Try.prog 17 #[.slice (some ⟨gb,0,none⟩) k c7,.slice A' k c'] u fun e w'=>e=.returned (.int .i64 (q:Int))∧Below u.heap.size u w' from
       (kC M2 L _ A' k c7 k c' TT.out.lenM TT.out.lenL oD oD u (lL.of_own ho TT.out.lenM) (RA.out.step hb)).mono o8)
      have TK:=zW (show(L.take q).length=q from by rw[z3,TT.out.lenL];have:=TT.out.lt;omega)
      have D3:=zW (fun u (hb:Below wr.heap.size wr u)=>show Calls Try.prog 17 #[.slice A' k c',.slice A' q c'] u fun e w'=>e=.returned (.int .i64 (q:Int))∧Below u.heap.size u w' from
       (kC L (L.take q) A' A' k c' q c' TT.out.lenL TK.out oD ZK u (RA.out.step hb) ((RA.out.step hb).take q)).mono o4)
      have D4:=zW (fun u (hb:Below wr.heap.size wr u)=>show Calls Try.prog 17 #[.slice A' q c',.slice A' k c'] u fun e w'=>e=.returned (.int .i64 (q:Int))∧Below u.heap.size u w' from
       (kC (L.take q) L A' A' q c' k c' TK.out TT.out.lenL ZK oD u ((RA.out.step hb).take q) (RA.out.step hb)).mono o5)
      have cl:=fun w=>gI A' k c' q (by have:=CA.out;have:=TT.out.lt;omega) w
      go_wp2_with fail
      refine(D1.out _ BW.out OB.out).mono ?_
      rintro e wa ⟨rfl,hb⟩
      have OB:=zW (j6 (O:=fun _=>False) OB.out (j9.of_below hb) fun _ _ c=>c)
      have BW:=zW (BW.out.trans (hb.mono BW.out.size))
      clear hb
      go_wp2_with fail
      refine(D2.out _ BW.out OB.out).mono ?_
      rintro e wb ⟨rfl,hb⟩
      have OB:=zW (j6 (O:=fun _=>False) OB.out (j9.of_below hb) fun _ _ c=>c)
      have BW:=zW (BW.out.trans (hb.mono BW.out.size))
      clear hb
      go_wp2_with fail
      refine(D3.out _ BW.out).mono ?_
      rintro e wc ⟨rfl,hb⟩
      have BW:=zW (BW.out.trans (hb.mono BW.out.size))
      clear hb
      go_wp2_with fail
      refine(D4.out _ BW.out).mono ?_
      rintro e wd ⟨rfl,hb⟩
      have BW:=zW (BW.out.trans (hb.mono BW.out.size))
      clear hb
      have BE:=zW (BB.out.trans (BW.out.mono BB.out.size))
      go_wp2_with fail
      go_ret
      exact⟨rfl,BE.out⟩
     ·have hs':b=false∨(b=true∧¬((q+1:Nat):Int)<(k:Int)):=by
       cases b
       ·exact .inl rfl
       ·exact .inr ⟨rfl,fun c=>hs ⟨rfl,by omega⟩⟩
      have u2:IntKind.i64.wrap ((q:Int)+1)=((q+1:Nat):Int):=by rw[zC];omega
      clear hs
      have D1:=zW (fun u (hb:Below wr.heap.size wr u) (ho:u.ownsRow wr.heap.size 48 535 (.slice (some ⟨gb,0,none⟩) k c7) k (kZ M))=>show Calls Try.prog 17 #[.slice A' k c',.slice (some ⟨gb,0,none⟩) k c7] u fun e w'=>e=.returned (.int .i64 (q:Int))∧Below u.heap.size u w' from
       (kC L M A' _ k c' k c7 TT.out.lenL TT.out.lenM oD oD u (RA.out.step hb) (lL.of_own ho TT.out.lenM)).mono o7)
      have D2:=zW (fun u (hb:Below wr.heap.size wr u) (ho:u.ownsRow wr.heap.size 48 535 (.slice (some ⟨gb,0,none⟩) k c7) k (kZ M))=>show Calls Try.prog 17 #[.slice (some ⟨gb,0,none⟩) k c7,.slice A' k c'] u fun e w'=>e=.returned (.int .i64 (q:Int))∧Below u.heap.size u w' from
       (kC M L _ A' k c7 k c' TT.out.lenM TT.out.lenL oD oD u (lL.of_own ho TT.out.lenM) (RA.out.step hb)).mono o8)
      have TK:=zW (show(L.take q).length=q from by rw[z3,TT.out.lenL];have:=TT.out.lt;omega)
      have D3:=zW (fun u (hb:Below wr.heap.size wr u)=>show Calls Try.prog 17 #[.slice A' k c',.slice A' q c'] u fun e w'=>e=.returned (.int .i64 (q:Int))∧Below u.heap.size u w' from
       (kC L (L.take q) A' A' k c' q c' TT.out.lenL TK.out oD ZK u (RA.out.step hb) ((RA.out.step hb).take q)).mono o4)
      have D4:=zW (fun u (hb:Below wr.heap.size wr u)=>show Calls Try.prog 17 #[.slice A' q c',.slice A' k c'] u fun e w'=>e=.returned (.int .i64 (q:Int))∧Below u.heap.size u w' from
       (kC (L.take q) L A' A' q c' k c' TK.out TT.out.lenL ZK oD u ((RA.out.step hb).take q) (RA.out.step hb)).mono o5)
      have cl:=fun w=>gI A' k c' q (by have:=CA.out;have:=TT.out.lt;omega) w
      rcases hs' with rfl|⟨rfl,hi1⟩
      ·go_wp2_with fail
       refine(D1.out _ BW.out OB.out).mono ?_
       rintro e wa ⟨rfl,hb⟩
       have OB:=zW (j6 (O:=fun _=>False) OB.out (j9.of_below hb) fun _ _ c=>c)
       have BW:=zW (BW.out.trans (hb.mono BW.out.size))
       clear hb
       go_wp2_with fail
       refine(D2.out _ BW.out OB.out).mono ?_
       rintro e wb ⟨rfl,hb⟩
       have OB:=zW (j6 (O:=fun _=>False) OB.out (j9.of_below hb) fun _ _ c=>c)
       have BW:=zW (BW.out.trans (hb.mono BW.out.size))
       clear hb
       go_wp2_with fail
       refine(D3.out _ BW.out).mono ?_
       rintro e wc ⟨rfl,hb⟩
       have BW:=zW (BW.out.trans (hb.mono BW.out.size))
       clear hb
       go_wp2_with fail
       refine(D4.out _ BW.out).mono ?_
       rintro e wd ⟨rfl,hb⟩
       have BW:=zW (BW.out.trans (hb.mono BW.out.size))
       clear hb
       have BE:=zW (BB.out.trans (BW.out.mono BB.out.size))
       go_wp2_with fail
       go_ret
       exact⟨rfl,BE.out⟩
      ·go_wp2_with fail
       refine(D1.out _ BW.out OB.out).mono ?_
       rintro e wa ⟨rfl,hb⟩
       have OB:=zW (j6 (O:=fun _=>False) OB.out (j9.of_below hb) fun _ _ c=>c)
       have BW:=zW (BW.out.trans (hb.mono BW.out.size))
       clear hb
       go_wp2_with fail
       refine(D2.out _ BW.out OB.out).mono ?_
       rintro e wb ⟨rfl,hb⟩
       have OB:=zW (j6 (O:=fun _=>False) OB.out (j9.of_below hb) fun _ _ c=>c)
       have BW:=zW (BW.out.trans (hb.mono BW.out.size))
       clear hb
       go_wp2_with fail
       refine(D3.out _ BW.out).mono ?_
       rintro e wc ⟨rfl,hb⟩
       have BW:=zW (BW.out.trans (hb.mono BW.out.size))
       clear hb
       go_wp2_with fail
       refine(D4.out _ BW.out).mono ?_
       rintro e wd ⟨rfl,hb⟩
       have BW:=zW (BW.out.trans (hb.mono BW.out.size))
       clear hb
       have BE:=zW (BB.out.trans (BW.out.mono BB.out.size))
       go_wp2_with fail
       go_ret
       exact⟨rfl,BE.out⟩
    ·obtain rfl:q=k:=by have:=QL.out;omega
     have qi:¬(q:Int)<(q:Int):=oD
     have D1:=zW (show Calls Try.prog 17 #[.slice A' q c',.slice A7 q c7] w7 fun e w'=>e=.returned (.int .i64 (-1))∧Below w7.heap.size w7 w' from
      (kC L L A' A7 q c' q c7 L0.out L0.out oD oD w7 (RA.out.step BW.out) (lL.of_own OB.out L0.out)).mono o0)
     go_wp2_with fail
     refine D1.out.mono ?_
     rintro e wa ⟨rfl,hb⟩
     have BE:=zW (BB.out.trans ((BW.out.trans (hb.mono BW.out.size)).mono BB.out.size))
     clear hb
     go_wp2_with fail
     go_ret
     exact⟨rfl,BE.out⟩
theorem pZ(l:List j3)(k:Nat)(h:l.length=k)(h4:k≤4):(l.flatMap kR).length≤20000:=by
 exact ZN
theorem yK(A:Option Addr)(n c:Nat)(l:List Cd)(w:World)(H:Cds w A n l):
  Calls Try.prog 7 #[.slice A n c] w fun e w'=>e=.returned (.bool true)∧Below w.heap.size w w':=by
 obtain⟨N,hN⟩:∃N,N=8192:=⟨_,rfl⟩;have NN:=zW hN;have HC:=zW H;have n9:(n:Int)≤9223372036854775807:=by have:=H.max;unfold maxLen at this;omega
 clear hN H;go_enter Try.func7,Try.ntmps7;go_wp2_with fail;refine(nT w).mono ?_;rintro e w1 ⟨rfl,hb⟩;have BB:=zW hb;clear hb;by_cases hlt:4<n
 ·have hi:(4:Int)<(n:Int):=oD;exact ZL
 ·have hi:¬(4:Int)<(n:Int):=oD;have MN:=zW (show n≤4 by omega);clear hlt;have LE:=zW HC.out.len;go_wp2_with fail;go_loopw [3,4,5] (fun u v i wr=>∃k A' c',k≤n∧u=.int .i64 ((8+((kU l k).flatMap kR).length:Nat):Int)∧v=.slice A' k c'∧i=.int .i64 ((k:Nat):Int)∧wr.ownsRow w1.heap.size 48 535 (.slice A' k c') k (kZ (kU l k))∧mB (kU l k)=true∧Below w1.heap.size w1 wr) (fun _ _ i _=>n-(intOf i).toNat)
  case atStart=>exact⟨0,none,0,zF _,rfl,rfl,rfl,jH _ _ _ _,rfl,zU _ _⟩
  case round=>
   obtain⟨k,A',c',hk,rfl,rfl,rfl,ho,hv,hb⟩:=hrel
   have OW:=zW ho
   have BW:=zW hb
   have AV:=zW hv
   clear ho hb hv
   have FL:=zW (pZ (kU l k) k (cK (by rw[LE.out];exact hk)))
   obtain⟨T,hT⟩:∃T,((kU l k).flatMap kR).length=T:=⟨_,rfl⟩
   have TE:=zW hT
   have T9:T≤20000:=by rw[←hT];exact FL.out oE
   have t9:(T:Int)≤20000:=oD
   rw[hT]
   clear hT FL
   by_cases hlt:k<n
   ·have JX:=zW hlt
    have ki:(k:Int)<(n:Int):=oD
    have k9:(k:Int)≤4:=by have:=MN.out;omega
    have hl:k<l.length:=by rw[LE.out];exact hlt
    obtain⟨bb,oo,e,lt,ra⟩:=(HC.out.step (BB.out.trans (BW.out.mono BB.out.size))).at_ k hl
    have CO:=zW (HC.out.ok k hl)
    have RS:=zW (xX hl)
    have RA:=zW ra
    subst e
    clear ra lt
    generalize l[k]=cd at CO RS RA
    go_upto_region 8 with fail
    refine zN ?_
    iterate 9 go_step
    refine lC (o:=oo+k*36) eU RA.out lV rfl (.tmp 27) rfl oP ?_
    simp only[Act.put,zQ,zZ,zJ]
    go_wp2_with fail
    refine(cJ N NN.out cd CO.out _).mono ?_
    rintro e w3 ⟨Aa,cA,Bb,cB,gs,rfl,hr,hb⟩
    have RR:=zW hr
    have OW:=zW (j6 (O:=fun _=>False) OW.out (j9.of_below hb) fun _ _ c=>c)
    have BW:=zW (BW.out.trans (hb.mono BW.out.size))
    clear hr hb RA
    simp only[]
    go_at_K
    go_step
    refine lG (ds:=rrC Aa 4 cA Bb 16 cB (kA cd)) wR bL rfl rfl (tZ _ _ _ _ _ _ _) rfl rfl rfl (.tmp 6) (.tmp 29) rfl oA oA ?_
    simp only[Act.put,zQ,zZ,zJ]
    have K6:=zW (Blk.new w3 32 (rrC Aa 4 cA Bb 16 cB (kA cd)))
    have ba:=j2 w3 (.cells (rrC Aa 4 cA Bb 16 cB (kA cd)) 32)
    have OW:=zW (j6 (O:=fun _=>False) OW.out (j9.of_below ba) fun _ _ c=>c)
    have BW:=zW (BW.out.trans (ba.mono BW.out.size))
    have RR:=zW (RR.out.step ba)
    clear ba
    generalize w3.heap.size=g6 at K6⊢
    generalize World.alloc w3 _=w4 at K6 OW BW RR⊢
    go_upto_region 9 with fail
    refine zN ?_
    refine j8 wR K6.out rfl rfl (.tmp 6) rfl rfl ?_
    simp only[Act.put,zQ,zZ,zJ]
    go_wp2_with fail
    refine(xB N NN.out (kA cd) Aa cA Bb cB gs (plF cd) cd.pat (fun i _=>rfl) _ RR.out).mono ?_
    rintro e w5 ⟨rfl,hb⟩
    have OW:=zW (j6 (O:=fun _=>False) OW.out (j9.of_below hb) fun _ _ c=>c)
    have BW:=zW (BW.out.trans (hb.mono BW.out.size))
    have RR:=zW (RR.out.step hb)
    have K6:=zW (K6.out.step hb)
    clear hb
    cases hv:kK (kA cd)
    ·have BE:=zW (BB.out.trans (BW.out.mono BB.out.size))
     clear hv
     go_wp2_with fail
     go_ret
     exact⟨rfl,BE.out⟩
    ·have VV:=zW hv
     clear hv
     go_upto_region 11 with fail
     refine zN ?_
     refine j8 wR K6.out rfl rfl (.tmp 6) rfl rfl ?_
     simp only[Act.put,zQ,zZ,zJ]
     go_wp2_with fail
     refine(yB N NN.out (kA cd) Aa cA Bb cB gs (plF cd) (fun i _=>rfl) _ RR.out).mono ?_
     rintro e w6 ⟨rfl,hb⟩
     have OW:=zW (j6 (O:=fun _=>False) OW.out (j9.of_below hb) fun _ _ c=>c)
     have BW:=zW (BW.out.trans (hb.mono BW.out.size))
     clear hb RR K6
     generalize kA cd=r at RS VV⊢
     simp only[]
     go_at_K
     go_step
     refine lG (ds:=j0 r) kX lR (j1 _) (j1 _) (lA _) rfl rfl rfl (.tmp 7) (.tmp 34) rfl oA oA ?_
     simp only[Act.put,zQ,zZ,zJ]
     have K7:=zW (Blk.new w6 48 (j0 r))
     have ba:=j2 w6 (.cells (j0 r) 48)
     have OW:=zW (j6 (O:=fun _=>False) OW.out (j9.of_below ba) fun _ _ c=>c)
     have BW:=zW (BW.out.trans (ba.mono BW.out.size))
     clear ba
     generalize w6.heap.size=g7 at K7⊢
     generalize World.alloc w6 _=w7 at K7 OW BW⊢
     have EP:=zW (yY r)
     have EL:=zW (show(kR r).length=31+(lS r 4).length from by rw[vM];unfold kR;rw[zM,cL])
     have u1:IntKind.i64.wrap (((8+T:Nat):Int)+31)=((8+T+31+(lS r 0).length:Nat):Int):=by
      rw[zC,show(lS r 0).length=0 from rfl];omega
     go_wp2_with fail
     clear u1
     go_loopw [3,8] (fun u i wz=>∃j:Nat,j≤4∧u=.int .i64 ((8+T+31+(lS r j).length:Nat):Int)∧i=.int .i64 ((j:Nat):Int)∧wz=w7) (fun _ i _=>4-(intOf i).toNat)
     case atStart=>exact⟨0,zF _,by first|rfl|trivial|(simp;done)|(show Value.int .i64 _=Value.int .i64 _;congr 1),rfl,rfl⟩
     case round=>
      obtain⟨j,hj,rfl,rfl,rfl⟩:=hrel
      by_cases hjt:j<4
      ·have JJ:=zW hjt
       have ji:(j:Int)<4:=oD
       have ep:=EP.out j hjt
       have PS:=zW (show(lS r (j+1)).length=(lS r j).length+(if kB (r.P j)=true then 0 else 1024)from by rw[vL,zM,lH])
       have PB:=rM r j
       generalize (lS r j).length=p at PS PB⊢
       generalize hD:8+T+31+p=D
       have DE:=zW hD
       have d9:(D:Int)≤30000:=oD
       clear hD
       go_upto_region 16 with fail
       refine zN ?_
       iterate 9 go_step
       refine kE (o:=j*128) cI K7.out (by rw[j1];omega) rfl (.tmp 43) rfl oP ?_
       rw[ep]
       simp only[Act.put,zQ,zZ,zJ]
       refine wQ rfl rfl ?_
       refine xE rfl _ (rT (.tmp 44) (.tmp 45) _ rfl (r.P j) (fun _=>0#128) rfl rfl) ?_
       rw[yP]
       clear ep
       cases hn:kB (r.P j)
       ·have PS:=zW (show(lS r (j+1)).length=p+1024 from by rw[PS.out,hn];rfl)
        clear hn
        go_wp2_with fail
        go_roundw
        case rel=>exact⟨j+1,JJ.out,by rw[PS.out];have:=DE.out;go_num,by go_num,by trivial⟩
        case measure=>have:=JJ.out;simp[intOf];omega
       ·have PS:=zW (show(lS r (j+1)).length=p from by rw[PS.out,hn];rfl)
        clear hn
        go_wp2_with fail
        go_roundw
        case rel=>exact⟨j+1,JJ.out,by rw[PS.out];have:=DE.out;go_num,by go_num,by trivial⟩
        case measure=>have:=JJ.out;simp[intOf];omega
      ·obtain rfl:j=4:=by omega
       have ji:¬((4:Nat):Int)<4:=oD
       have FE:=zW (show((kU l (k+1)).flatMap kR).length=T+31+(lS r 4).length from by rw[RS.out,List.flatMap_append,zM,TE.out,List.flatMap_cons,List.flatMap_nil,zA,EL.out,qN])
       have AV:=zW (show mB (kU l (k+1))=true from by
        have h:=AV.out;unfold mB at h⊢;rw[RS.out,List.all_append,h,List.all_cons,VV.out];rfl)
       generalize (lS r 4).length=p at FE⊢
       go_upto_region 18 with fail
       refine zN ?_
       iterate 3 go_step
       refine j8 kX K7.out (j1 _) rfl (.tmp 7) rfl oP ?_
       simp only[Act.put,zQ,zZ,zJ]
       refine lW (C:=j0 r) Try.underlying24 kX lR (j1 _) (j1 _) oF oF rfl (.tmp 50) rfl oP ?_
       simp only[Act.put,zQ,zZ,zJ]
       have RO:=zW (lL.one wr r)
       have ba:=j2 wr (.cells (j0 r) 48)
       have OW:=zW (j6 (O:=fun _=>False) OW.out (j9.of_below ba) fun _ _ c=>c)
       have BW:=zW (BW.out.trans (ba.mono BW.out.size))
       clear ba
       generalize wr.heap.size=g8 at RO⊢
       generalize World.alloc wr _=w8 at RO OW BW⊢
       refine lX rfl (.tmp 49) (.tmp 51) rfl w1.heap.size (.slice A' k c') k (kU l k) [r] oP OW.out (some ⟨g8,0,none⟩) 1 1 oP rfl RO.out oD BW.out.size ?_
       intro A6 c6 w9 ho hg
       have OA:=zW (show w9.ownsRow w1.heap.size 48 535 (.slice A6 (k+1) c6) (k+1) (kZ (kU l (k+1)))from by rw[RS.out];exact ho)
       have BW:=zW (BW.out.grown hg BW.out.size fun j ej=>(OW.out.lt j ej).1)
       clear ho hg OW RO
       go_wp2_with fail
       go_roundw
       case rel=>exact⟨k+1,A6,c6,JX.out,by rw[FE.out];congr 1;omega,rfl,by go_num,OA.out,AV.out,BW.out⟩
       case measure=>have:=JX.out;simp[intOf];omega
   ·obtain rfl:k=n:=by omega
    have L0:=zW (cK (l:=l) (k:=k) (by rw[LE.out];exact zT _))
    have OI:=zW (hH HC.out.ok k)
    have EN:=zW (show(kF (kU l k)).length=8+T from by rw[nI,TE.out])
    generalize kU l k=L at OW L0 OI EN AV
    have BB:=zW (BB.out.trans (BW.out.mono BB.out.size))
    have RA:=zW (lL.of_own OW.out L0.out)
    clear OW BW HC TE
    obtain⟨D,hD⟩:∃D,8+T=D:=⟨_,rfl⟩
    rw[hD]at EN⊢
    have d9:(D:Int)≤30000:=oD
    clear hD
    go_wp2_with fail
    refine(mS L A' k c' D L0.out EN.out AV.out wr RA.out OI.out oE oD).mono ?_
    rintro e w3 ⟨E3,d3,rfl,ho,hb⟩
    have BE:=zW (BB.out.trans (hb.mono BB.out.size))
    clear ho hb
    go_wp2_with fail
    go_ret
    exact⟨rfl,BE.out⟩
theorem dM(l:List j3)(k:Nat)(h:l.length=k)(h4:k≤4):(l.flatMap kR).length≤20000:=by
 exact ZN
theorem fF{w:World}{base g n c i b:Nat}{M:List Nat}(h:w.ownsRow base 5 1 (.slice (some ⟨g,0,none⟩) n c) n (byV M))(hl:M.length=n)(hi:i<n):
  (w.setCell ⟨g,i,none⟩ (.int .u8 (b:Int))).ownsRow base 5 1 (.slice (some ⟨g,0,none⟩) n c) n (byV (M.set i b)):=by
 rcases h.2 with⟨e1,_⟩|⟨g',cap,cur,e1,hb,hg,h1,h2,h3,h4⟩
 ·cases e1
 ·injection e1 with e1 _ e3
  injection e1 with e1
  injection e1 with e1
  subst e1 e3;refine⟨by unfold byV;simp[hl],.inr ⟨g,c,_,rfl,hb,heap_setCell_same w g i _ _ _ hg,h1,h2,by simpa using h3,?_⟩⟩;rw[Array.toList_setIfInBounds,List.take_set,h4];unfold byV;rw[List.map_set]
theorem sF{w:World}{base g n c i:Nat}{M:List Nat}(h:w.ownsRow base 5 1 (.slice (some ⟨g,0,none⟩) n c) n (byV M))(hl:M.length=n)(hi:i<n):(∃x:Int,w.cell? ⟨g,i,none⟩=some (.int .u8 x))∧w.frozen? ⟨g,i,none⟩=false:=by
 have h0:=vN h;obtain⟨ad,e,_,hc⟩:=h0.at_ (k:=i) (by rw[lN,hl];exact hi);injection e with e
 subst e;rw[v4,zI]at hc;rcases h.2 with⟨e1,_⟩|⟨g',cap,cur,e1,hb,hg,_⟩
 ·cases e1
 ·injection e1 with e1 _ _
  injection e1 with e1
  injection e1 with e1
  subst e1;exact⟨⟨_,hc⟩,frozen_of_row w g _ _ _ hg⟩
theorem pC{L:List j3}{u:List Nat}(ok:∀r∈L,OkE r)(hl:L.length≤1048576)(hu:u≠[])(hb:∀b∈kF L++u,b<256):nJ (kF L++u)=false:=by
 cases h:nJ (kF L++u)
 ·rfl
 ·obtain⟨h1,h2,h3,h4⟩:=uX _ hb h;have h5:kF L++u=kF (mK (kF L++u))++[]:=by rw[zA];exact h1
  exact absurd (gC _ _ _ _ oD oD ok (uM h3 h2) h5).2 hu
theorem pU{L:List j3}{M u:List Nat}(ok:∀r∈L,OkE r)(hl:L.length≤1048576)(hu:u≠[])(e:M++u=kF L)(hb:∀b∈M,b<256):nJ M=false:=by
 cases h:nJ M
 ·rfl
 ·obtain⟨h1,h2,h3,h4⟩:=uX _ hb h;have h5:kF (mK M)++u=kF L++[]:=by rw[zA,←e,←h1]
  exact absurd (gC _ _ _ _ oD oD (uM h3 h2) ok h5).2 hu
theorem vP(A:Option Addr)(n c:Nat)(l:List Cd)(a1 a2:Int)(w:World)(H:Cds w A n l)(wc:(Lit.int .u16 a1).wf=true)(wd:(Lit.int .u8 a2).wf=true):
  Calls Try.prog 4 #[.slice A n c,.int .u16 a1,.int .u8 a2] w fun e w'=>e=.returned (.bool true)∧Below w.heap.size w w':=by
 obtain⟨N,hN⟩:∃N,N=8192:=⟨_,rfl⟩;have NN:=zW hN;have HC:=zW H;have n9:(n:Int)≤9223372036854775807:=by have:=H.max;unfold maxLen at this;omega
 obtain⟨t0,t1⟩:=Num.bd_u16 wc;obtain⟨s0,s1⟩:=Num.bd_u8 wd;clear hN H wc wd;go_enter Try.func4,Try.ntmps4;go_wp2_with fail;refine(nT w).mono ?_;rintro e w1 ⟨rfl,hb⟩;have BB:=zW hb;clear hb;by_cases hlt:4<n
 ·have hi:(4:Int)<(n:Int):=oD;exact ZL
 ·have hi:¬(4:Int)<(n:Int):=oD;have MN:=zW (show n≤4 by omega);clear hlt;have LE:=zW HC.out.len;go_wp2_with fail;go_loopw [7,8] (fun v i wr=>∃k A' c',k≤n∧v=.slice A' k c'∧i=.int .i64 ((k:Nat):Int)∧wr.ownsRow w1.heap.size 48 535 (.slice A' k c') k (kZ (kU l k))∧mB (kU l k)=true∧Below w1.heap.size w1 wr) (fun _ i _=>n-(intOf i).toNat)
  case atStart=>exact⟨0,none,0,zF _,rfl,rfl,jH _ _ _ _,rfl,zU _ _⟩
  case round=>
   obtain⟨k,A',c',hk,rfl,rfl,ho,hv,hb⟩:=hrel
   have AV:=zW hv
   have OW:=zW ho
   have BW:=zW hb
   clear ho hb hv
   by_cases hlt:k<n
   ·have JX:=zW hlt
    have ki:(k:Int)<(n:Int):=oD
    have k9:(k:Int)≤4:=by have:=MN.out;omega
    have hl:k<l.length:=by rw[LE.out];exact hlt
    obtain⟨bb,oo,e,lt,ra⟩:=(HC.out.step (BB.out.trans (BW.out.mono BB.out.size))).at_ k hl
    have CO:=zW (HC.out.ok k hl)
    have RS:=zW (xX hl)
    have RA:=zW ra
    have RAK:=zW (fun u (hb:Below w.heap.size w u)=>show u.rangeAt bb (oo+k*36) (cdC l[k]).toList∧bb<u.heap.size from by
     obtain⟨b2,o2,e2,lt2,ra2⟩:=(HC.out.step hb).at_ k hl;rw[e]at e2;injection e2 with e2
     injection e2 with e2 e3 _
     subst e2 e3;exact⟨ra2,lt2⟩)
    subst e
    clear ra lt
    generalize l[k]=cd at CO RS RA RAK
    go_upto_region 7 with fail
    refine zN ?_
    iterate 12 go_step
    refine lC (o:=oo+k*36) eU RA.out lV rfl (.tmp 39) rfl oP ?_
    simp only[Act.put,zQ,zZ,zJ]
    go_wp2_with fail
    refine(cJ N NN.out cd CO.out _).mono ?_
    rintro e w3 ⟨Aa,cA,Bb,cB,gs,rfl,hr,hb⟩
    have RR:=zW hr
    have OW:=zW (j6 (O:=fun _=>False) OW.out (j9.of_below hb) fun _ _ c=>c)
    have BW:=zW (BW.out.trans (hb.mono BW.out.size))
    clear hr hb
    go_wp2_with fail
    refine(yB N NN.out (kA cd) Aa cA Bb cB gs (plF cd) (fun i _=>rfl) w3 RR.out).mono ?_
    rintro e w4 ⟨rfl,hb⟩
    have OW:=zW (j6 (O:=fun _=>False) OW.out (j9.of_below hb) fun _ _ c=>c)
    have BW:=zW (BW.out.trans (hb.mono BW.out.size))
    have RA:=zW (show w4.rangeAt bb (oo+k*36) (cdC cd).toList∧bb<w4.heap.size from RAK.out w4 (BB.out.trans (BW.out.mono BB.out.size)))
    clear hb RR
    obtain⟨r,hr⟩:∃r,kA cd=r:=⟨_,rfl⟩
    have RE:=zW hr
    rw[hr]at RS⊢
    clear hr
    simp only[]
    go_at_K
    go_step
    refine lW (C:=j0 r) Try.underlying24 kX lR (j1 _) (j1 _) oF oF rfl (.tmp 42) rfl oP ?_
    simp only[Act.put,zQ,zZ,zJ]
    have RO:=zW (lL.one w4 r)
    have ba:=j2 w4 (.cells (j0 r) 48)
    have OW:=zW (j6 (O:=fun _=>False) OW.out (j9.of_below ba) fun _ _ c=>c)
    have BW:=zW (BW.out.trans (ba.mono BW.out.size))
    clear ba
    generalize w4.heap.size=g5 at RO⊢
    generalize World.alloc w4 _=w5 at RO OW BW⊢
    refine lX rfl (.tmp 36) (.tmp 43) rfl w1.heap.size (.slice A' k c') k (kU l k) [r] oP OW.out (some ⟨g5,0,none⟩) 1 1 oP rfl RO.out oD BW.out.size ?_
    intro A6 c6 w6 ho hg
    have OA:=zW (show w6.ownsRow w1.heap.size 48 535 (.slice A6 (k+1) c6) (k+1) (kZ (kU l (k+1)))from by rw[RS.out];exact ho)
    have BW:=zW (BW.out.grown hg BW.out.size fun j ej=>(OW.out.lt j ej).1)
    clear ho hg OW RO
    go_upto_region 8 with fail
    refine zN ?_
    iterate 9 go_step
    have RB:=RAK.out w6 (BB.out.trans (BW.out.mono BB.out.size))
    refine lC (o:=oo+k*36) eU RB.1 lV rfl (.tmp 47) rfl oP ?_
    simp only[Act.put,zQ,zZ,zJ]
    clear RB RAK RA
    go_wp2_with fail
    refine(cJ N NN.out cd CO.out _).mono ?_
    rintro e w7 ⟨Ac,cC,Bc,cD,gs',rfl,hr,hb⟩
    have RR:=zW hr
    have OA:=zW (j6 (O:=fun _=>False) OA.out (j9.of_below hb) fun _ _ c=>c)
    have BW:=zW (BW.out.trans (hb.mono BW.out.size))
    clear hr hb
    go_wp2_with fail
    refine(xB N NN.out (kA cd) Ac cC Bc cD gs' (plF cd) cd.pat (fun i _=>rfl) _ RR.out).mono ?_
    rintro e w8 ⟨rfl,hb⟩
    have OA:=zW (j6 (O:=fun _=>False) OA.out (j9.of_below hb) fun _ _ c=>c)
    have BW:=zW (BW.out.trans (hb.mono BW.out.size))
    clear hb RR
    rw[RE.out]
    cases hv:kK r
    ·have BE:=zW (BB.out.trans (BW.out.mono BB.out.size))
     clear hv
     go_wp2_with fail
     go_ret
     exact⟨rfl,BE.out⟩
    ·have AV:=zW (show mB (kU l (k+1))=true from by
      have h:=AV.out;unfold mB at h⊢;rw[RS.out,List.all_append,h,List.all_cons,hv];rfl)
     clear hv
     go_wp2_with fail
     go_roundw
     case rel=>exact⟨k+1,A6,c6,JX.out,rfl,by go_num,OA.out,AV.out,BW.out⟩
     case measure=>have:=JX.out;simp[intOf];omega
   ·obtain rfl:k=n:=by omega
    have L0:=zW (cK (l:=l) (k:=k) (by rw[LE.out];exact zT _))
    have OI:=zW (hH HC.out.ok k)
    have FL:=zW (dM (kU l k) k L0.out)
    obtain⟨D,hD⟩:∃D,(kF (kU l k)).length=D:=⟨_,rfl⟩
    have EN:=zW hD
    have D9:=zW (show 8≤D∧D≤30000 from by have:=nI (kU l k);have:=FL.out MN.out;omega)
    clear hD FL
    generalize kU l k=L at OW L0 OI EN AV
    have OE:=zW (uM OI.out AV.out)
    have EB:=zW (eF L OE.out)
    have BB:=zW (BB.out.trans (BW.out.mono BB.out.size))
    have RA:=zW (lL.of_own OW.out L0.out)
    clear OW BW HC LE
    go_wp2_with fail
    refine(mS L A' k c' D L0.out EN.out AV.out wr RA.out OI.out oE oO).mono ?_
    rintro e w3 ⟨E3,d3,rfl,ho,hb⟩
    have RB:=zW (vN ho)
    have CM:=zW (nU ho)
    have BB:=zW (BB.out.trans (hb.mono BB.out.size))
    have RA:=zW (RA.out.step hb)
    clear ho hb
    have d8:(8:Int)≤(D:Int):=by have:=D9.out;omega
    have d9:(D:Int)≤30000:=by have:=D9.out;omega
    have z0:¬(D:Int)=0:=oD
    have z1:((D:Int)==0)=false:=by simp;omega
    go_wp2_with fail
    refine(wY L OI.out AV.out k L0.out oE E3 D d3 EN.out CM.out.1 CM.out.2 w3 RB.out).mono ?_
    rintro e w4 ⟨g4,rfl,ho,hb⟩
    have R4:=zW (lL.of_own ho L0.out)
    have BB:=zW (BB.out.trans (hb.mono BB.out.size))
    have RA:=zW (RA.out.step hb)
    have RB:=zW (RB.out.below hb)
    clear ho hb
    have LS:=zW (show∃M u,M++[u]=kF L∧M.length=D-1∧(kF L).take (D-1)=M from by
     refine⟨(kF L).take (D-1),(kF L)[D-1]'(by rw[EN.out];have:=D9.out;omega),?_,by rw[z3,EN.out];omega,rfl⟩;have h:=List.take_append_drop (D-1) (kF L);rw[List.drop_eq_getElem_cons (by rw[EN.out];have:=D9.out;omega),List.drop_eq_nil_of_le (by rw[EN.out];omega)]at h;exact h)
    obtain⟨M,u,m1,m2,m3⟩:=LS.out
    have LM:=zW (zD m1 (zD m2 m3))
    clear LS m1 m2 m3
    have u1:IntKind.i64.wrap ((D:Int)-1)=((D-1:Nat):Int):=by rw[zC];have:=D9.out;omega
    have cu:=fun w=>gU E3 D d3 (D-1) (by have:=CM.out.1;omega) w
    have BM:=zW (show∀b∈M,b<256 from fun b hb=>EB.out b (by rw[←LM.out.1];exact List.mem_append_left _ hb))
    go_wp2_with fail
    clear cu u1
    refine(nO M BM.out (pU OE.out (by rw[L0.out];have:=MN.out;omega) oC LM.out.1 BM.out) E3 (D-1) d3 LM.out.2.1 (by have:=CM.out.1;omega) CM.out.2 w4 (by have h:=RB.out.to_take (m:=D-1);rw[LM.out.2.2]at h;exact h)).mono ?_
    rintro e w5 ⟨rfl,hb⟩
    have BB:=zW (BB.out.trans (hb.mono BB.out.size))
    have RA:=zW (RA.out.step hb)
    have RB:=zW (RB.out.below hb)
    have R4:=zW (R4.out.step hb)
    clear hb LM BM
    obtain⟨bN,rfl⟩:=jZ s0
    have NB:=zW (show bN<256 by omega)
    have E0:=zW (show w5.alloc (.cells #[] 5)=w5.alloc (.cells #[] 5)from rfl)
    have hown:(w5.alloc (.cells #[] 5)).ownsRow w5.heap.size 5 1 (.slice (some ⟨w5.heap.size,0,none⟩) 0 0) 0 (([]:List Int).map (Value.int .u8)):=World.ownsRow_made w5 #[] 0 (zT _) oU rfl
    have OW:=zW (zD hown (j2 w5 (.cells #[] 5)))
    clear hown E0
    have RBE:=zW (fun u (hb:Below w5.heap.size w5 u)=>show Rd u E3 (toI (kF L))from RB.out.below hb)
    have TL:=zW (show(toI (kF L)).length=D from by rw[lN];exact EN.out)
    go_upto_region 15 with fail
    refine zN ?_
    go_wp2_with ((at_builtin;first
     |(
      refine lP rfl (.tmp 79) (.tmp 80) rfl w5.heap.size _ 0 [] rfl OW.out.1 E3 D d3 (toI (kF L)) rfl (RBE.out _ OW.out.2) TL.out oO oC ?_
      intro v6 w6 ho hg
      have B6:=zW (OW.out.2.grown hg oC fun j ej=>(OW.out.1.lt j ej).1)
      obtain⟨A6,c6,rfl⟩:=mN ho
      rw[zI,List.nil_append]at ho
      have O6:=zW ho
      clear ho hg
      try simp only[zI])
     |(
      refine lP rfl (.tmp 81) (.tmp 83) rfl w5.heap.size _ D (toI (kF L)) rfl (j6 (O:=fun _=>False) O6.out (j9.of_below (j2 _ _)) fun _ _ c=>c) (some ⟨w6.heap.size,0,none⟩) 1 1 (toI [bN]) rfl (yM w6 [bN]) rfl oO (by have:=B6.out.size;simp;omega) ?_
      intro v7 w7 ho hg
      have B7:=zW ((B6.out.trans ((j2 w6 (.cells #[.int .u8 (bN:Int)] 5)).mono B6.out.size)).grown hg (by have:=B6.out.size;simp;omega) fun j ej=>(O6.out.lt j ej).1)
      obtain⟨A7,c7,rfl⟩:=mN ho
      have O7:=zW ho
      clear ho hg)))
    have R7:=zW (show Rd w7 A7 (toI (kF L++[bN]))from by
     have h:=dV O7.out;have e:toI (kF L++[bN])=toI (kF L)++toI [bN]:=by unfold toI;rw[jY]
     rw[e];exact h)
    have C7:=zW (nU O7.out)
    have EB2:=zW (show∀b∈kF L++[bN],b<256 from fun b hb=>by
     rcases List.mem_append.1 hb with hb|hb
     ·exact EB.out b hb
     ·rw[List.mem_singleton.1 hb];exact NB.out)
    refine(nO (kF L++[bN]) EB2.out (pC OE.out (by rw[L0.out];have:=MN.out;omega) oC EB2.out) A7 (D+1) c7 (by rw[zM,EN.out];rfl) C7.out.1 C7.out.2 w7 R7.out).mono ?_
    rintro e w8 ⟨rfl,hb⟩
    have B8:=zW (B7.out.trans (hb.mono B7.out.size))
    have BB:=zW (BB.out.trans (B8.out.mono BB.out.size))
    have RA:=zW (RA.out.step B8.out)
    have RB:=zW (RB.out.below B8.out)
    have R4:=zW (R4.out.step B8.out)
    clear hb O6 O7 B6 B7 R7 C7 EB2 OW RBE B8
    have D1:=zW (show Calls Try.prog 17 #[.slice (some ⟨g4,0,none⟩) k k,.slice A' k c'] w8 fun e w'=>e=.returned (.int .i64 (-1))∧Below w8.heap.size w8 w' from
      (kC L L _ A' k k k c' L0.out L0.out oE oE w8 R4.out RA.out).mono o0)
    go_wp2_with fail
    refine D1.out.mono ?_
    rintro e w9 ⟨rfl,hb⟩
    have BB:=zW (BB.out.trans (hb.mono BB.out.size))
    have RB:=zW (RB.out.below hb)
    clear hb D1 R4 RA
    have hown:(w9.alloc (.cells #[] 5)).ownsRow w9.heap.size 5 1 (.slice (some ⟨w9.heap.size,0,none⟩) 0 0) 0 (([]:List Int).map (Value.int .u8)):=World.ownsRow_made w9 #[] 0 (zT _) oU rfl
    have OW:=zW (zD hown (j2 w9 (.cells #[] 5)))
    clear hown
    go_upto_region 18 with fail
    go_upto_region 19 with((at_builtin;refine lP rfl (.tmp 111) (.tmp 112) rfl w9.heap.size _ 0 [] rfl OW.out.1 E3 D d3 (toI (kF L)) rfl (RB.out.below OW.out.2) TL.out oO oC ?_;intro va wa ho hg))
    have BW:=zW (OW.out.2.grown hg oC fun j ej=>(OW.out.1.lt j ej).1)
    obtain⟨Aa,ca,rfl⟩:=mN ho
    rw[zI,List.nil_append,←x7]at ho
    have OA:=zW ho
    try simp only[zI]
    obtain⟨gc,eg⟩:=gW OA.out oO
    subst eg
    clear ho hg OW RB TL
    obtain⟨aN,rfl⟩:=jZ t0
    obtain⟨q,hq⟩:∃q,aN%D=q:=⟨_,rfl⟩
    have QL:=zW (show q<D from by rw[←hq];exact qA _ oO)
    have t2:(aN:Int).tmod (D:Int)=(q:Int):=by
     rw[uB _ _ oD,←hq];simp
    have u1:IntKind.i64.wrap (aN:Int)=(aN:Int):=by rw[zC];omega
    have u3:IntKind.i64.wrap (q:Int)=(q:Int):=by rw[zC];have:=QL.out;omega
    have qi:(q:Int)<(D:Int):=by have:=QL.out;omega
    have qn:q<D:=QL.out
    clear hq
    obtain⟨⟨oldv,c1⟩,f1⟩:=sF OA.out EN.out qn
    have GC:=zW (OA.out.lt gc rfl).1
    have OP:=zW (fF (b:=bN) OA.out EN.out qn)
    go_upto_region 20 with fail
    clear c1 f1 t2 u1 u3
    have BW:=zW (BW.out.setCell (p:=⟨gc,q,none⟩) GC.out (.int .u8 (bN:Int)))
    have OA:=zW OP.out
    have CB:=zW (nU OP.out)
    have RC:=zW (vN OP.out)
    have BB:=zW (BB.out.trans (BW.out.mono BB.out.size))
    have MB:=zW (show∀b∈(kF L).set q bN,b<256 from fun b hb=>by
     rcases List.mem_or_eq_of_mem_set hb with hb|hb
     ·exact EB.out b hb
     ·rw[hb];exact NB.out)
    have ML:=zW (show((kF L).set q bN).length=D from by rw[List.length_set];exact EN.out)
    clear OP BW OA AV OI OE EN EB
    generalize (kF L).set q bN=M at CB RC MB ML
    generalize World.setCell wa _ _=wb at RC BB⊢
    cases hv:nJ M
    ·have DN:=zW (nO M MB.out hv (some ⟨gc,0,none⟩) D ca ML.out CB.out.1 CB.out.2 wb RC.out)
     clear hv
     go_wp2_with fail
     refine DN.out.mono ?_
     rintro e wc ⟨rfl,hb⟩
     have BE:=zW (BB.out.trans (hb.mono BB.out.size))
     clear hb
     go_wp2_with fail
     go_ret
     exact⟨rfl,BE.out⟩
    ·have VY:=zW (uX M MB.out hv)
     have DN:=zW (xM M MB.out hv (some ⟨gc,0,none⟩) D ca ML.out CB.out.1 CB.out.2 wb RC.out)
     clear hv
     generalize mK M=V at VY DN
     obtain⟨k2,hk2⟩:∃k,V.length=k:=⟨_,rfl⟩
     rw[hk2]at DN
     have LK:=zW hk2
     have K2:=zW (show k2≤30000 from by
      have h1:=eG V;have h2:=nI V;rw[←VY.out.1,ML.out]at h2;have:=D9.out;omega)
     clear hk2
     go_wp2_with fail
     refine DN.out.mono ?_
     rintro e wc ⟨gv,rfl,ho,hb⟩
     have RO:=zW (lL.of_own ho LK.out)
     have BB:=zW (BB.out.trans (hb.mono BB.out.size))
     have RC:=zW (RC.out.below hb)
     clear hb DN ho
     go_wp2_with fail
     refine(mS V (some ⟨gv,0,none⟩) k2 k2 D LK.out (by rw[←VY.out.1];exact ML.out) VY.out.2.1 wc RO.out VY.out.2.2.1 K2.out oO).mono ?_
     rintro e wd ⟨De,de,rfl,ho,hb⟩
     have BB:=zW (BB.out.trans (hb.mono BB.out.size))
     have RC:=zW (RC.out.below hb)
     have RD:=zW (show Rd wd De (toI M)from by
      rw[←VY.out.1]at ho;exact vN ho)
     clear ho hb
     have SC:=zW (show Calls Try.prog 14 #[.slice (some ⟨gc,0,none⟩) D ca,.slice De D de] wd fun e w'=>e=.returned (.bool true)∧Below wd.heap.size wd w' from by
      have h:=nC (some ⟨gc,0,none⟩) De ca de D D (toI M) (toI M) wd (by rw[lN];exact ML.out) (by rw[lN];exact ML.out) oO oO RC.out RD.out;rw[zP rfl]at h;exact h)
     go_wp2_with fail
     refine SC.out.mono ?_
     rintro e we ⟨rfl,hb⟩
     have BE:=zW (BB.out.trans (hb.mono BB.out.size))
     clear hb SC
     go_wp2_with fail
     go_ret
     exact⟨rfl,BE.out⟩
end
end Go.Proofs.Ytilideoeaecoaaa
